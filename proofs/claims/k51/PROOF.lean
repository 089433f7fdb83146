import PyProof.Rows.All
import Wide.All
import OpenK.AllK
import Wide.FinOn
import Lean
import PyProof.EqAt
import PyProof.EqKinds
import PyProof.TupleCall
import KE.KSortTup
import PyProof.TupleKey
import PyProof.FactsAll.tuple_2
import PyProof.NeKinds
import PyProof.SetScanFacts
import PyProof.SetKind
import PyProof.IsRules
import PyProof.Rules
import PyProof.Rows.SetFrom
import PyProof.SetRoads
import KE.KDictOf
import PyProof.Rows.MinMaxN
import PyProof.ListRange
import PyProof.TupleOfGen
import PyProof.EnumMake
import PyProof.ZipIter
import PyProof.Rows.ZipGen
import PyProof.CollectWalk
import PyProof.ForAny
import PyProof.Rows.SortWalk
import PyProof.CollectIter
import PyProof.MeetsSeq2
import KE.KDictSum
import KE.KDictList
import PySem.Challenge.RW_mapwright_k51_truths
set_option Elab.async false
set_option linter.all false
set_option tactic.hygienic false
set_option genSizeOf false
set_option genInjectivity false
set_option maxRecDepth 100000
abbrev Zl:=List PySem.Value
abbrev Zp:=List (PySem.Addr×PySem.Obj)
abbrev Zs:=PySem.Str->Option PySem.Value
abbrev Y3:=PySem.Value->PySem.Shared->Prop
abbrev Ya:=Option (PySem.Str×Nat)
abbrev Yf:=List Nat
abbrev X0:=List PySem.Expr
abbrev X9:=List PySem.Str
abbrev Xs:=List (PySem.Str×PySem.NameKind)
abbrev Xt:=List PySem.Addr
abbrev U1:=List Int
abbrev U2:=List (PySem.Str×PySem.Addr)
abbrev Q1:=Array PySem.Value
def yw:=@Array.forIn_toList
def jk:=@Array.getElem?_eq_some_iff
def ir:=@Array.getElem?_toList
def jr:=@Array.length_toList
def au:=@Bool.and_eq_true
def qe:=@Bool.eq_iff_iff
def bw:=@Bool.false_eq_true
def ig:=@Bool.false_ne_true
def uz:=@Bool.not_false
def jc:=@Bool.not_true
def yx:=@Classical.byContradiction
def Ag:=@Function.comp_def
def Aa:=@Int.emod_lt_of_pos
def Az:=@Int.emod_nonneg
def u9:=@Int.toNat_natCast
def m9:=@List.Perm.refl
def ik:=@List.all_eq_true
def zr:=@List.any_eq_true
def Ah:=@List.append_assoc
def xr:=@List.append_nil
def su:=@List.ext_getElem?
def qg:=@List.find?_cons
def yz:=@List.findIdx?_eq_none_iff
def ug:=@List.findIdx?_eq_some_iff_getElem
def Ae:=@List.foldl_cons
def gw:=@List.getD_eq_getElem?_getD
def jx:=@List.getElem?_append_left
def o6:=@List.getElem?_append_right
def dz:=@List.getElem?_eq_getElem
def j5:=@List.getElem?_eq_none
def ak:=@List.getElem?_eq_some_iff
def dm:=@List.getElem?_map
def lq:=@List.getElem?_range
def xf:=@List.getElem?_set_ne
def z6:=@List.getElem?_set_self
def zc:=@List.getElem?_zipIdx
def yr:=@List.getElem_inj
def ph:=@List.getElem_mem
def pq:=@List.getElem_of_mem
def uh:=@List.isEmpty_iff
def o8:=@List.length_append
def gq:=@List.length_cons
def o7:=@List.length_eq_zero_iff
def v7:=@List.length_filter_le
def dg:=@List.length_map
def Ba:=@List.length_nil
def Ao:=@List.length_take
def n6:=@List.lookup_cons
def qj:=@List.map_append
def p7:=@List.map_congr_left
def dj:=@List.map_cons
def n8:=@List.map_map
def du:=@List.mem_append
def xg:=@List.mem_append_left
def fc:=@List.mem_append_right
def cj:=@List.mem_cons
def bx:=@List.mem_cons_of_mem
def dh:=@List.mem_cons_self
def Aj:=@List.mem_erase_of_ne
def jq:=@List.mem_filter
def um:=@List.mem_flatMap
def v8:=@List.mem_iff_getElem?
def bf:=@List.mem_map
def az:=@List.mem_of_getElem?
def iw:=@List.mem_range
def uc:=@List.mem_singleton
def xu:=@List.nodup_append
def ju:=@List.nodup_cons
def qp:=@List.nodup_iff_pairwise_ne
def wk:=@List.nodup_nil
def uo:=@List.not_mem_nil
def wg:=@List.pairwise_cons
def zf:=@List.pairwise_map
def zu:=@List.range'_succ
def vf:=@List.range_succ
def gf:=@List.size_toArray
def qu:=@List.take_length
def yp:=@List.take_of_length_le
def Bc:=@List.zip_cons_cons
def Ax:=@Nat.add_assoc
def Aq:=@Nat.le_add_right
def yh:=@Nat.le_of_lt
def cg:=@Nat.le_refl
def ur:=@Nat.le_succ
def gb:=@Nat.le_trans
def qd:=@Nat.lt_irrefl
def Bd:=@Nat.lt_of_le_of_lt
def il:=@Nat.lt_of_lt_of_le
def Ai:=@Nat.lt_of_succ_lt
def uq:=@Nat.lt_or_ge
def qw:=@Nat.lt_succ_self
def ou:=@Nat.ne_of_gt
def dq:=@Nat.ne_of_lt
def Bb:=@Nat.not_lt_zero
def Ak:=@Nat.pow_le_pow_right
def rz:=@Nat.zero_add
def iy:=@Nat.zero_le
def kj:=@Ne.symm
def dw:=@Option.bind_eq_some_iff
def mq:=@Option.bind_some
def p8:=@Option.isSome_iff_exists
def cz:=@Option.map_eq_some_iff
def vg:=@Option.map_some
def ie:=@Option.some.inj
def qz:=@PyProof.Rows.F.entry_set_update_loop
def j8:=@PyProof.Rows.F.plain_set_update_loop
def v5:=@PyProof.Rows.callWith_builtin1
def jo:=@PyProof.Rows.callWith_type1
def jm:=@PySem.Around.under_plainId
def vh:=@PySem.Calls.call_function_entry
def kh:=@PySem.Calls.spliced_cons
def uv:=@PySem.Calls.spliced_nil
def ud:=@PySem.F.called_set
def uw:=@PySem.F.plain_list_iadd
def yj:=@PySem.F.slot_dict_keyiterator_next
def yl:=@PySem.F.slot_enumerate_next
def v9:=@PySem.F.slot_tuple_eq
def xx:=@PySem.F.slot_tuple_hash
def u0:=@PySem.F.slot_tuple_iterator_next
def yc:=@PySem.Heap.SameBut.refl
def gr:=@PySem.Heap.SameBut.update
def ao:=@PySem.Heap.get?_push_of_some
def bu:=@PySem.Heap.get?_push_size
def t7:=@PySem.Heap.get?_update_other
def jz:=@PySem.Heap.get?_update_self
def aq:=@PySem.Heap.lt_size
def jt:=@PySem.Heap.size_push
def ql:=@PySem.W.kia_one
def jy:=@PySem.codeAny_builtin
def ue:=@PySem.codeAny_mono
def ym:=@PySem.isSubtype_tuple_tuple
def qt:=@PySem.isSubtype_type
def zq:=@PySem.mem_of_lookup
def vm:=@PySem.plainId_quiet
def jw:=@PySem.sizeLine_eq
def jd:=@PySem.wpAny_Call_Name_kw
def yq:=@PySem.wpAny_askSetting
def vo:=@PySem.wpAny_attempt
def aa:=@PySem.wpAny_bind
def ji:=@PySem.wpAny_callSpecial?_slot
def gh:=@PySem.wpAny_call_entry
def j6:=@PySem.wpAny_dictEntries
def jh:=@PySem.wpAny_field
def jf:=@PySem.wpAny_forIn_list
def fu:=@PySem.wpAny_holding
def iu:=@PySem.wpAny_isInstance
def iz:=@PySem.wpAny_mono
def lz:=@PySem.wpAny_newObj_type
def tu:=@PySem.wpAny_passesOwn
def aj:=@PySem.wpAny_pure
def wu:=@PySem.wpAny_pyIter_tuple
def qx:=@PySem.wpAny_rule
def m7:=@PySem.wpAny_seqItems
def j7:=@PySem.wpAny_setEntries_of
def je:=@PySem.wpAny_setField_rec
def f9:=@PySem.wpAny_setState_of
def o4:=@PySem.wpAny_specialOf
def ux:=@PySem.wpAny_storeSet_of
def jn:=@PySem.wpAny_truthy_bool
def wy:=@PySem.wpAny_tupleItemsOf
def yd:=@PySem.wpAny_typeNameOfWhole_keyiter
def uf:=@PySem.wpAny_typeOf
def vz:=@Std.Legacy.Range.forIn_eq_forIn_range'
def vq:=@beq_eq_false_iff_ne
def zx:=@beq_self_eq_true
def qb:=@bne_self_eq_false
def lg:=@congrArg
def vy:=@decide_eq_false
def Al:=@decide_eq_true
def cu:=@decide_eq_true_eq
def gm:=@if_false
def bc:=@if_neg
def bz:=@if_pos
def jg:=@if_true
def m6:=@of_decide_eq_true
abbrev Fg:=PySem.W.Frag
def a_{a b c:Nat}(h:a<=b)(k:b<=c):a<=c:=gb h k
def b_{a b c:Nat}(h:a<b)(k:b<=c):a<c:=il h k
def c_{a b c:Nat}(h:a<=b)(k:b<c):a<c:=Bd h k
def d_{a b c:Nat}(h:a<b)(k:b<c):a<c:=Nat.lt_trans h k
def e_{a b:Nat}(h:a<b):a<=b:=yh h
def f_{a b:Nat}(h:a=b):a<=b:=Nat.le_of_eq h
def g_{a b:Nat}(h:a=b):b<=a:=Nat.le_of_eq h.symm
def h_{a b:Nat}(h:a<b):a≠b:=dq h
def i_{a b:Nat}(h:b<a):a≠b:=ou h
def j_{a b:Nat}(h:b<=a):¬a<b:=Nat.not_lt_of_le h
def l_{p:Prop}{a b:Nat}(h:a<b)(k:b<=a):p:=absurd h (Nat.not_lt_of_le k)
def m_{a b:Nat}(h:a<b):(a:Int)<(b:Int):=Int.ofNat_lt.mpr h
def n_{a b:Nat}(h:a<=b):(a:Int)<=(b:Int):=Int.ofNat_le.mpr h
def o_{a b:Nat}(h:(a:Int)<(b:Int)):a<b:=Int.ofNat_lt.mp h
def q_{a:Nat}:(0:Int)<=(a:Int):=Int.natCast_nonneg a
def r_{a b c:Nat}(h:a+c<=b):a<=b-c:=Nat.le_sub_of_add_le h
def s_{a b:Nat}(h:¬a<b):b<=a:=Nat.le_of_not_lt h
def t_{a b:Nat}(h:¬a<=b):b<a:=Nat.lt_of_not_le h
def u_{a b:Nat}(h:a<=b)(k:b<=a):a=b:=Nat.le_antisymm h k
def v_{a b c:Nat}(h:a<=b):a+c<=b+c:=Nat.add_le_add_right h c
def w_{a b c:Nat}(h:a<=b):c+a<=c+b:=Nat.add_le_add_left h c
def x_{a b:Nat}:a<=a+b:=Aq a b
def z_{a b:Nat}(h:a<b+1):a<=b:=Nat.le_of_lt_succ h
def A_{a b:Nat}(h:a<=b):a<b+1:=Nat.lt_succ_of_le h
def B_{a:Nat}:a<a+1:=qw a
def C_{a b:Nat}:a-b<=a:=Nat.sub_le a b
def D_{a b:Nat}(h:(a:Int)=(b:Int)):a=b:=Int.ofNat_inj.mp h
def hG{P:Prop}(h:∀G:Prop,(P->G)->G):P:=h P id
noncomputable section
namespace Q6
open PySem SetTable
def Srt(Z:Array Nat):Prop:=∀(i j a b:Nat),Z[i]?=some a->Z[j]?=some b->i<j->a<b
def at7(hs:Srt U):∀(Z G hi:Nat),G<=hi->hi<=U.size->hi-G<=Z ->
 (∀(i a:Nat),U[i]?=some a->i<G->a<j)->(∀(i a:Nat),U[i]?=some a->hi<=i->j<=a) ->
 below.go U j Z G hi<=U.size/\(∀(i a:Nat),U[i]?=some a->i<below.go U j Z G hi->a<j)/\(∀(i a:Nat),U[i]?=some a->below.go U j Z G hi<=i->j<=a):=by
 intro Z
 induction Z with
 |zero =>
  intro G hi h1 h2 h3 h4 h5;unfold below.go;have:G=hi:=by lia
  subst this;exact⟨h2,h4,h5⟩
 |succ Z ih =>
  intro G hi h1 h2 h3 h4 h5;unfold below.go
  by_cases G5:G<hi
  .simp only[bz G5]
   have hm:(G+hi)/2<U.size:=by lia
   have hg:U[(G+hi)/2]?=some U[(G+hi)/2]:=by simp[hm]
   have qq:U.getD ((G+hi)/2) j=U[(G+hi)/2]:=by simp[Array.getD,hm]
   rw[qq]
   by_cases L:U[(G+hi)/2]<j
   .rw[bz L]
    refine ih _ _ (by lia) h2 (by omega) (λi a e l=>?_) h5
    by_cases Q7:i=(G+hi)/2
    .subst Q7;rw[hg]at e;cases e;exact L
    .exact Nat.lt_trans (hs _ _ _ _ e hg (by lia)) L
   .rw[bc L]
    refine ih _ _ (by lia) (e_ hm) (by omega) h4 (λi a e l=>?_)
    by_cases Q7:i=(G+hi)/2
    .subst Q7;rw[hg]at e;cases e;exact s_ L
    .have:=hs _ _ _ _ hg e (by lia);exact e_ (c_ (s_ L) this)
  .rw[bc G5]
   have:G=hi:=u_ h1 (s_ G5);subst this;exact⟨h2,h4,h5⟩
def Ef(G:Srt Z):below Z j<=Z.size/\(∀(i a:Nat),Z[i]?=some a->i<below Z j->a<j)/\(∀(i a:Nat),Z[i]?=some a->below Z j<=i->j<=a):=
 at7 G _ _ _ (iy _) (cg _) C_ (λi a _ h=>absurd h (Bb _)) (λi a e h=>by
  have:=(jk.mp e).1;lia)
def below_at(G:Srt Z)(h:Z[i]?=some j):below Z j=i:=by
 obtain⟨h1,h2,L⟩:=Ef (j:=j) G;rcases Nat.lt_trichotomy (below Z j) i with l|l|l
 .have li:=(jk.mp h).1
  have U:Z[below Z j]?=some Z[below Z j]:=by simp
  have a:=L _ _ U (cg _);have b:=G _ _ _ _ U h l
  lia
 .exact l
 .have:=h2 _ _ h l;lia
def Zf(j:Nat):has #[] j=false:=by simp[has]
set_option tactic.hygienic true in
def Ti{t:SetTable}(Z:Srt t.place):t.slot j=.live i↔t.place[i]?=some j:=by
 unfold slot;constructor
 .intro h
  dsimp only at h;split at h
  .rename_i e;cases h;simpa using e
  .split at h<;>cases h
 .intro h
  dsimp only;rw[below_at Z h,h];simp
def agc{t:SetTable}(G:Srt t.place)(Z:t.dummies=#[]):t.slot j=.empty↔∀i:Nat,t.place[i]?≠some j:=by
 constructor
 .intro h i e
  rw[(Ti G).mpr e]at h;cases h
 .intro h
  unfold slot;dsimp only;rw[Z,Zf,bc (by simpa using h _)];rfl
def J7(G:Array α)(p:Nat)(x:α)(hp:p<=G.size)(i:Nat):(insertAt G p x)[i]?=if i<p then G[i]? else if i=p then some x else G[i-1]?:=by
 rw[<-ir,toList_insertAt];have U:(G.toList.take p).length=p:=by simp;lia
 by_cases Z:i<p
 .rw[bz Z,jx (b_ Z (g_ U)),List.getElem?_take,bz Z,ir]
 .rw[bc Z,o6 (a_ (f_ U) (s_ Z)),U]
  by_cases L:i=p
  .subst L;simp
  .rw[bc L]
   obtain⟨q,hq⟩:∃q,i=p+q+1:=⟨i-p-1,by lia⟩;subst hq;rw[show p+q+1-p=q+1 by lia,List.getElem?_cons_succ,List.getElem?_drop,show p+q+1-1=p+q by lia,ir]
def Ma(Z:Array α)(p:Nat)(x:α):(insertAt Z p x).size=Z.size+1:=by have:=(insertAt_perm Z p x).length_eq;simpa using this
noncomputable def up(p i:Nat):Nat:=if i<p then i else i+1
def Qc(Z:Array α)(p:Nat)(x:α)(G:p<=Z.size)(i:Nat):(insertAt Z p x)[up p i]?=Z[i]?:=by
 rw[J7 Z p x G];unfold up
 by_cases h:i<p
 .simp[h]
 .rw[bc h,bc (j_ (a_ (s_ h) x_)),bc (i_ (A_ (s_ h)))];rfl
def Ji(Z:Array α)(p:Nat)(x:α)(G:p<=Z.size):(insertAt Z p x)[p]?=some x:=by rw[J7 Z p x G];simp
def Ov(p i:Nat):i=p\/∃k,i=up p k:=by
 unfold up;rcases Nat.lt_trichotomy i p with h|h|h
 .exact .inr ⟨i,by simp[h]⟩
 .exact .inl h
 .exact .inr ⟨i-1,by rw[bc (by omega)];lia⟩
def at8(hs:Srt U)(hn:∀i:Nat,U[i]?≠some j):Srt (insertAt U (below U j) j):=by
 obtain⟨L,h2,h3⟩:=Ef (j:=j) hs;intro a b x y G Z l;rcases Ov (below U j) a with rfl|⟨a',rfl⟩<;>rcases Ov (below U j) b with hb|⟨b',rfl⟩
 .subst hb;lia
 .rw[Ji _ _ _ L]at G
  rw[Qc _ _ _ L]at Z;cases G;have:below U j<=b':=by unfold up at l;split at l<;>omega
  have g:=h3 _ _ Z this;rcases Nat.lt_or_eq_of_le g with g|g
  .exact g
  .subst g;exact absurd Z (hn _)
 .subst hb
  rw[Ji _ _ _ L]at Z;rw[Qc _ _ _ L]at G;cases Z;exact h2 _ _ G (by unfold up at l;split at l<;>omega)
 .rw[Qc _ _ _ L]at G Z
  exact hs _ _ _ _ G Z (by unfold up at l;split at l<;>split at l<;>omega)
noncomputable def adv(m:Nat)(p:Probe):Probe:=({ SetTable.fresh 0 0 true with mask:=m }:SetTable).advance p
def a0o(t:SetTable)(p:Probe):t.advance p=adv t.mask p:=rfl
def aat(h:p.more > 0):adv m p={ p with j:=p.j+1,more:=p.more-1 }:=bz h
def Wb(h:¬p.more > 0):adv m p={ p with j:=(leap m p.i p.perturb).1,more:=runEnd m (leap m p.i p.perturb).1-(leap m p.i p.perturb).1,i:=(leap m p.i p.perturb).1,perturb:=(leap m p.i p.perturb).2 }:=bc h
noncomputable def beg(m i pt:Nat):Probe:={ j:=i,more:=runEnd m i-i,i:=i,perturb:=pt,dummy:=none }
def P(m:Nat)(h:Int):Nat->Probe
 |0=>beg m (bits h%(m+1)) (bits h)|n+1=>adv m (P m h n)
def ac4(t:SetTable)(h:Int):t.probeStart h=P t.mask h 0:=rfl
theorem aau(m:Nat)(h:Int):∀n,(P m h n).dummy=none
 |0=>rfl
 |n+1=>by
  show(adv m (P m h n)).dummy=none
  by_cases q:(P m h n).more > 0
  .rw[aat q];exact aau m h n
  .rw[Wb q];exact aau m h n
noncomputable def I(m:Nat)(h:Int):Nat->Nat
 |0=>bits h%(m+1)|T+1=>(I m h T*5+1+bits h/32^(T+1))%(m+1)
def at9(m i:Nat):runEnd m i-i<=9:=by unfold runEnd;split<;>lia
theorem ac5{m:Nat}{h:Int}{n i pt:Nat}(e:P m h n=beg m i pt):∀c,c<=runEnd m i-i->P m h (n+c)={ j:=i+c,more:=runEnd m i-i-c,i:=i,perturb:=pt,dummy:=none }
 |0,_=>by rw[Nat.add_zero,e];rfl
 |c+1,hc=>by
  have:=ac5 e c (by lia);show adv m (P m h (n+c))=_;rw[this,aat (by show 0<runEnd m i-i-c;lia)];simp only
  congr 1
def anf(e:P m h n=beg m i pt):P m h (n+(runEnd m i-i)+1)=beg m ((i*5+1+pt/32)%(m+1)) (pt/32):=by show adv m (P m h (n+(runEnd m i-i)))=_;rw[ac5 e _ (cg _),Wb (by simp)];rfl
theorem ang(m:Nat)(h:Int):∀T,∃n,n<=10*T/\P m h n=beg m (I m h T) (bits h/32^T)
 |0=>⟨0,iy _,by simp[P,I]⟩
 |T+1=>by
  obtain⟨n,G,Z⟩:=ang m h T;have:=at9 m (I m h T);refine⟨_,?_,(anf Z).trans ?_⟩
  .lia
  .rw[Nat.div_div_eq_div_mul,<-Nat.pow_succ];rfl
noncomputable def f5(m x:Nat):Nat:=(x*5+1)%(m+1)
def it(m:Nat):Nat->Nat->Nat
 |0,x=>x|k+1,x=>f5 m (it m k x)
theorem Wc(m a x:Nat):∀k,it m (a+k) x=it m k (it m a x)
 |0=>rfl|k+1=>by show f5 m (it m (a+k) x)=_;rw[Wc m a x k];rfl
def Cov(m:Nat):Prop:=∀i j,i<=m->j<=m->∃k,k<=m/\it m k i=j
def a0p(U:it m (m+1) 0=0)(h:∀j,j<=m->∃k,k<=m/\it m k 0=j):Cov m:=λi j hi L=>by
 obtain⟨a,la,Z⟩:=h i hi;obtain⟨b,lb,G⟩:=h j L
 by_cases qq:a<=b
 .refine⟨b-a,a_ C_ lb,?_⟩
  rw[<-Z,<-Wc,show a+(b-a)=b by lia,G]
 .refine⟨m+1+b-a,by omega,?_⟩
  rw[<-Z,<-Wc,show a+(m+1+b-a)=(m+1)+b by lia,Wc,U,G]
def orb(m:Nat):Nat->Nat->List Nat
 |0,_=>[]|k+1,x=>x::orb m k (f5 m x)
theorem ah7{m:Nat}:∀{k x j:Nat},j∈orb m k x->∃q,q<k/\it m q x=j
 |0,_,_,h=>by simp[orb]at h
 |k+1,x,j,h=>by
  simp only[orb,cj]at h;rcases h with rfl|h
  .exact⟨0,A_ (iy _),rfl⟩
  .obtain⟨q,l,e⟩:=ah7 h
   refine⟨1+q,by lia,?_⟩;rw[Wc];exact e
def Q8(Z:it m (m+1) 0=0)(h:((List.range (m+1)).all λj=>(orb m (m+1) 0).contains j)=true):Cov m:=
 a0p Z λj G=>by have:=ik.mp h j (by simp;exact A_ G);obtain⟨q,l,e⟩:=ah7 (by simpa using this);exact⟨q,z_ l,e⟩
def Msk(m:Nat):Prop:=m=7\/m=15\/m=31\/m=63\/m=127
def bee:Cov 7:=Q8 (by decide+kernel) (by decide+kernel)
def a77:Cov 15:=Q8 (by decide+kernel) (by decide+kernel)
def a78:Cov 31:=Q8 (by decide+kernel) (by decide+kernel)
def a79:Cov 63:=Q8 (by decide+kernel) (by decide+kernel)
def a0q:Cov 127:=Q8 (by decide+kernel) (by decide+kernel)
def Msk.cov(h:Msk m):Cov m:=by
 rcases h with rfl|rfl|rfl|rfl|rfl
 .exact bee
 .exact a77
 .exact a78
 .exact a79
 .exact a0q
def aua(h:Int):bits h<2^64:=by
 unfold bits;have Z:=Az h (b:=2^64) (by decide);have G:=Aa h (b:=2^64) (by decide)
 lia
theorem a8a(m:Nat)(h:Int):∀T,I m h T<=m
 |0=>Nat.le_of_lt_succ (Nat.mod_lt (bits h) (Nat.succ_pos m))|T+1=>Nat.le_of_lt_succ (Nat.mod_lt (I m h T*5+1+bits h/32^(T+1)) (Nat.succ_pos m))
theorem anh(m:Nat)(h:Int):∀k,I m h (13+k)=it m k (I m h 13)
 |0=>rfl
 |k+1=>by
  show(I m h (13+k)*5+1+bits h/32^(13+k+1))%(m+1)=f5 m (it m k (I m h 13));have:bits h/32^(13+k+1)=0:=by
   apply Nat.div_eq_of_lt;refine il (aua h) ?_
   calc 2^64<=32^13:=by decide
    _<=32^(13+k+1):=Ak (by decide) (a_ x_ x_)
  rw[this,anh m h k];rfl
def cover(U:Msk m)(h:Int)(j:Nat)(Z:j<=m):∃T,T<=13+m/\I m h T=j:=by obtain⟨k,G,e⟩:=U.cov (I m h 13) j (a8a m h 13) Z;exact⟨13+k,w_ G,(anh m h k).trans e⟩
def aub(U:Msk m)(h:Int)(j:Nat)(Z:j<=m):∃n,n<10*turns m/\(P m h n).j=j:=by obtain⟨T,L,e⟩:=cover U h j Z;obtain⟨n,ln,G⟩:=ang m h T;exact⟨n,by unfold turns;lia,by rw[G];exact e⟩
def mod_le(a m:Nat):a%(m+1)<=m:=Nat.le_of_lt_succ (Nat.mod_lt a (Nat.succ_pos m))
def Tj(h:i<=m):i<=runEnd m i/\runEnd m i<=m:=by unfold runEnd;split<;>omega
theorem a8b(m:Nat)(h:Int):∀n,(P m h n).j+(P m h n).more<=m
 |0=>by
  have:=Tj (mod_le (bits h) m);show bits h%(m+1)+(runEnd m (bits h%(m+1))-bits h%(m+1))<=m
  omega
 |n+1=>by
  have Z:=a8b m h n;show(adv m (P m h n)).j+(adv m (P m h n)).more<=m
  by_cases q:(P m h n).more > 0
  .rw[aat q];simp only;lia
  .rw[Wb q]
   have:=Tj (mod_le ((P m h n).i*5+1+(P m h n).perturb/32) m);show(leap m (P m h n).i (P m h n).perturb).1+(runEnd m (leap m (P m h n).i (P m h n).perturb).1-(leap m (P m h n).i (P m h n).perturb).1)<=m
   have e:(leap m (P m h n).i (P m h n).perturb).1=((P m h n).i*5+1+(P m h n).perturb/32)%(m+1):=rfl;rw[e];omega
def bef(m:Nat)(h:Int)(n:Nat):(P m h n).j<=m:=by have:=a8b m h n;lia
def Occ(t:SetTable)(j:Nat):Prop:=∃i:Nat,t.place[i]?=some j
structure Yr(t:SetTable)(es:Array (Int×Value)):Prop where
 msk:Msk t.mask
 dum:t.dummies=#[]
 Ur:t.place.size=es.size
 srt:Srt t.place
 bnd:∀(i j:Nat),t.place[i]?=some j->j<=t.mask
 ful:t.place.size<=t.mask
 rch:∀(i j:Nat) e,t.place[i]?=some j->es[i]?=some e->∃n,(P t.mask e.1 n).j=j/\∀m,m<n->Occ t (P t.mask e.1 m).j
theorem Yr.fits(k:Yr t Z):t.fits Z.size=true:=by unfold SetTable.fits fill;rw[k.dum];simp[k.Ur];have:=k.ful;have:=k.Ur;lia
def Msk.odd(h:Msk m):m%2=1:=by rcases h with rfl|rfl|rfl|rfl|rfl<;>rfl
def Yr.way(k:Yr t Z):t.gaveWay=false:=by unfold gaveWay;rw[k.msk.odd];rfl
def ani(hs:Srt G)(h:G.size<=m):∃j,j<=m/\∀i:Nat,G[i]?≠some j:=by
 apply yx;intro hn;have all:∀j,j<=m->∃i:Nat,G[i]?=some j:=λj U=>by apply yx;intro hc;exact hn ⟨j,U,λi e=>hc ⟨i,e⟩⟩
 have:∀j,j<=m->∀i:Nat,G[i]?=some j->j<=i:=by
  intro j
  induction j with
  |zero=>intro _ i _;exact iy _
  |succ j ih =>
   intro U i e;obtain⟨L,Z⟩:=all j (by lia);have:=ih (by lia) L Z;rcases Nat.lt_trichotomy i L with l|l|l
   .have:=hs _ _ _ _ e Z l;lia
   .subst l;rw[e]at Z;injection Z with Z;exact a_ (f_ Z) this
   .exact a_ (v_ this) l
 obtain⟨i,e⟩:=all m (cg _);have h1:=this m (cg _) i e;have h2:=(jk.mp e).1;exact l_ h2 (a_ h h1)
structure Fst(t:SetTable)(h:Int)(N:Nat):Prop where
 lt:N<10*turns t.mask
 emp:¬Occ t (P t.mask h N).j
 occ:∀m,m<N->Occ t (P t.mask h m).j
def least{p:Nat->Prop}:∀{n:Nat},p n->∃k,k<=n/\p k/\∀m,m<k->¬p m:=by
 intro n
 induction n using Nat.strongRecOn with
 |ind n L =>
  intro h
  by_cases G:∃m,m<n/\p m
  .obtain⟨m,l,Z⟩:=G
   obtain⟨k,U,a,b⟩:=L m l Z;exact⟨k,e_ (c_ U l),a,b⟩
  .exact⟨n,cg _,h,λm l Z=>G ⟨m,l,Z⟩⟩
def Yr.fst(k:Yr t es)(h:Int):∃N,Fst t h N:=by obtain⟨j,G,e⟩:=ani k.srt k.ful;obtain⟨n,L,Z⟩:=aub k.msk h j G;obtain⟨N,l,a,b⟩:=least (p:=λn=>¬Occ t (P t.mask h n).j) (n:=n) (λ⟨i,c⟩=>e i (by rw[Z]at c;exact c));exact⟨N,c_ l L,a,λm U=>Classical.not_not.mp (b m U)⟩
theorem anj(k:Yr t es)(F:Fst t h N)(G:Nat->Int):∀(Z n:Nat),n<=N->N-n<Z ->
 (probe.go t G h Z (P t.mask h n)=some (.empty (P t.mask h N).j none)/\∀m,n<=m->m<N->∀i:Nat,t.place[i]?=some (P t.mask h m).j->G i≠h)
\/∃m i:Nat,n<=m/\m<N/\t.place[i]?=some (P t.mask h m).j/\G i=h/\(∀q,n<=q->q<m->∀i:Nat,t.place[i]?=some (P t.mask h q).j->G i≠h)
 /\probe.go t G h Z (P t.mask h n)=some (.candidate (P t.mask h m).j i (P t.mask h (m+1))):=by
 intro Z
 induction Z with
 |zero=>intro n _ l;omega
 |succ Z ih =>
  intro n hn l;unfold probe.go
  by_cases e:n=N
  .subst e
   left
   rw[(agc k.srt k.dum).mpr (λi c=>F.emp ⟨i,c⟩)];simp only;rw[aau];exact⟨rfl,λm a b=>by lia⟩
  .obtain⟨i,hi⟩:=F.occ n (by lia)
   rw[(Ti k.srt).mpr hi];simp only[a0o];have qq:adv t.mask (P t.mask h n)=P t.mask h (n+1):=rfl;rw[qq]
   by_cases L:G i=h
   .right
    refine⟨n,i,cg _,by lia,hi,L,λq a b=>by lia,?_⟩;rw[bz (by simp[L])]
   .rw[bc (by simp[L])]
    have un:∀U:Nat,t.place[U]?=some (P t.mask h n).j->G U≠h:=λU e'=>by have a:=below_at k.srt e';have b:=below_at k.srt hi;rw[<-a,b];exact L
    rcases ih (n+1) (by lia) (by lia)with⟨a,b⟩|⟨m,U,a,b,c,d,e1,e2⟩
    .left
     refine⟨a,λm x y=>?_⟩
     by_cases q:m=n
     .subst q;exact un
     .exact b m (by lia) y
    .right
     refine⟨m,U,by lia,b,c,d,λq x y=>?_,e2⟩
     by_cases z:q=n
     .subst z;exact un
     .exact e1 q (by lia) y
def Yr.ahead(k:Yr t es)(F:Fst t h N){i:Nat}(G:es[i]?=some e)(L:e.1=h):∃m,m<N/\t.place[i]?=some (P t.mask h m).j:=by
 have U:i<t.place.size:=by rw[k.Ur];exact(jk.mp G).1
 have Z:t.place[i]?=some t.place[i]:=by simp[U]
 obtain⟨n,a,b⟩:=k.rch i _ e Z G;subst L;refine⟨n,?_,by rw[a];exact Z⟩;rcases Nat.lt_trichotomy n N with l|l|l
 .exact l
 .subst l;exact absurd ⟨i,by rw[a];exact Z⟩ F.emp
 .exact absurd (b N l) F.emp
def aaw(G:Srt t.place)(q:Nat):Occ (t.put j).1 q↔q=j\/Occ t q:=by
 obtain⟨Z,U,L⟩:=Ef (j:=j) G;constructor
 .rintro⟨i,e⟩
  have e:(insertAt t.place (below t.place j) j)[i]?=some q:=e;rcases Ov (below t.place j) i with rfl|⟨i',rfl⟩
  .rw[Ji _ _ _ Z]at e;cases e;exact .inl rfl
  .rw[Qc _ _ _ Z]at e;exact .inr ⟨i',e⟩
 .rintro(rfl|⟨i,e⟩)
  .exact⟨_,Ji _ _ _ Z⟩
  .exact⟨up (below t.place j) i,(Qc _ _ _ Z i).trans e⟩
theorem Yr.put(k:Yr t L)(F:Fst t h N)(room:t.place.size+1<=t.mask) :
 Yr (t.put (P t.mask h N).j).1 (insertAt L (t.put (P t.mask h N).j).2 (h,x)):=by
 obtain⟨h1,h2,h3⟩:=Ef (j:=(P t.mask h N).j) k.srt;have U:below t.place (P t.mask h N).j<=L.size:=by rw[<-k.Ur];exact h1
 refine⟨k.msk,?_,?_,?_,?_,?_,?_⟩
 .show(if has t.dummies _ then _ else t.dummies)=#[]
  rw[k.dum,Zf];rfl
 .show(insertAt t.place _ _).size=(insertAt L _ _).size
  rw[Ma,Ma,k.Ur]
 .exact at8 k.srt (λi e=>F.emp ⟨i,e⟩)
 .intro i j e
  rcases(aaw k.srt j).mp ⟨i,e⟩with rfl|⟨i',e'⟩
  .exact bef _ _ _
  .exact k.bnd i' j e'
 .show(insertAt t.place _ _).size<=t.mask
  rw[Ma];exact room
 .intro i j e Z G
  have Z:(insertAt t.place (below t.place (P t.mask h N).j) (P t.mask h N).j)[i]?=some j:=Z;have G:(insertAt L (below t.place (P t.mask h N).j) (h,x))[i]?=some e:=G;show ∃n,(P t.mask e.1 n).j=j/\∀m,m<n->Occ (t.put (P t.mask h N).j).1 (P t.mask e.1 m).j
  rcases Ov (below t.place (P t.mask h N).j) i with rfl|⟨i',rfl⟩
  .rw[Ji _ _ _ h1]at Z
   rw[Ji _ _ _ U]at G;cases Z;cases G;exact⟨N,rfl,λm l=>(aaw k.srt _).mpr (.inr (F.occ m l))⟩
  .rw[Qc _ _ _ h1]at Z
   rw[Qc _ _ _ U]at G;obtain⟨n,a,b⟩:=k.rch i' j e Z G;exact⟨n,a,λm l=>(aaw k.srt _).mpr (.inr (b m l))⟩
abbrev OcO(ow:Array (Option Nat))(j:Nat):Prop:=∃i,ow[j]?=some (some i)
structure Own(m:Nat)(ow:Array (Option Nat))(hs:U1):Prop where
 Ur:ow.size=m+1
 cnt:ow.toList.countP Option.isSome=hs.length
 lt:∀(j i:Nat),ow[j]?=some (some i)->i<hs.length
 inj:∀(j j' i:Nat),ow[j]?=some (some i)->ow[j']?=some (some i)->j=j'
 at':∀(i:Nat) h,hs[i]?=some h->∃j n,ow[j]?=some (some i)/\(P m h n).j=j/\∀q,q<n->OcO ow (P m h q).j
def getD_none{Z:Array (Option Nat)}(G:Z.size=m+1)(h:(Z.getD j (some 0)).isNone=true):Z[j]?=some none:=by
 by_cases l:j<Z.size
 .simp[Array.getD,l]at h;simp[l,h]
 .simp[Array.getD,l]at h
def getD_some(U:Z.size=m+1)(G:j<=m)(h:¬(Z.getD j (some 0)).isNone=true):OcO Z j:=by
 have l:j<Z.size:=by lia
 simp[Array.getD,l]at h;unfold OcO;rw[show Z[j]?=some Z[j]by simp[l]];cases e:Z[j]with
 |none=>exact absurd e h|some i=>exact⟨i,rfl⟩
def akr(hz:G.size=m+1)(h:Int):∀(Z T n:Nat),P m h n=beg m (I m h T) (bits h/32^T)->(∀q,q<n->OcO G (P m h q).j) ->
 (∃k,k<Z/\G[I m h (T+k)]?=some none)->∃j L,layClean.free m G Z (I m h T) (bits h/32^T)=some j/\(P m h L).j=j/\G[j]?=some none/\∀q,q<L->OcO G (P m h q).j:=by
 intro Z
 induction Z with
 |zero=>rintro T n _ _ ⟨k,l,_⟩;lia
 |succ Z ih =>
  rintro T n e hq ⟨k,lk,ek⟩;have hI:=a8a m h T;obtain⟨r1,r2⟩:=Tj hI;unfold layClean.free;cases hf:(List.range (runEnd m (I m h T)+1-I m h T)).find? λk=>(G.getD (I m h T+k) (some 0)).isNone with
  |some c =>
   obtain⟨a,b,d⟩:=List.find?_range_eq_some.mp hf;have b:=iw.mp b;refine⟨_,n+c,rfl,by rw[ac5 e c (by omega)],getD_none hz a,λq l=>?_⟩
   by_cases hn:q<n
   .exact hq q hn
   .obtain⟨c',rfl⟩:∃c',q=n+c':=⟨q-n,by lia⟩
    rw[ac5 e c' (by lia)];show OcO G (I m h T+c');exact getD_some hz (by lia) (λhh=>by
     have:=d c' (by lia);simp only[hh]at this;cases this)
  |none =>
   have Dh:=List.find?_eq_none.mp hf;have U:∀c,c<=runEnd m (I m h T)-I m h T->OcO G (I m h T+c):=λc hc=>getD_some hz (by lia) (Dh c (iw.mpr (by lia)))
   cases k with
   |zero =>
    obtain⟨i,ei⟩:=U 0 (iy _);rw[Nat.add_zero]at ek ei;rw[ek]at ei;cases ei
   |succ k =>
    have pe:bits h/32^T/32=bits h/32^(T+1):=by rw[Nat.div_div_eq_div_mul,<-Nat.pow_succ]
    have:=ih (T+1) (n+(runEnd m (I m h T)-I m h T)+1) (by rw[anf e,pe];rfl) (λq l=>?_) ⟨k,by lia,by rw[show T+1+k=T+(k+1)by lia];exact ek⟩
    .obtain⟨j,L,e1,e2⟩:=this
     refine⟨j,L,?_,e2⟩;rw[<-e1];show layClean.free m G Z ((I m h T*5+1+bits h/32^T/32)%(m+1)) (bits h/32^T/32)=_;rw[pe];rfl
    .by_cases hn:q<n
     .exact hq q hn
     .obtain⟨c',rfl⟩:∃c',q=n+c':=⟨q-n,by lia⟩
      rw[ac5 e c' (by lia)];show OcO G (I m h T+c');exact U c' (by lia)
def Own.room(k:Own m Z hs)(h:hs.length<=m):∃j,j<=m/\Z[j]?=some none:=by
 apply yx;intro L;have:Z.toList.countP Option.isSome=Z.toList.length:=List.countP_eq_length.mpr λa ha=>by
  obtain⟨j,U,e⟩:=pq ha;cases a with
  |some i=>rfl
  |none =>
   have G:j<Z.size:=by simpa using U
   refine absurd ⟨j,by have:=k.Ur;exact z_ (b_ G (f_ this)),?_⟩ L;rw[<-ir,dz U,e]
 rw[k.cnt]at this;have:=k.Ur;simp at *
 lia
theorem Own.free(hm:Msk m)(k:Own m Z L)(U:L.length<=m)(h:Int):∃j G,layClean.free m Z (turns m) (bits h%(m+1)) (bits h)=some j/\(P m h G).j=j/\Z[j]?=some none/\∀q,q<G->OcO Z (P m h q).j:=by obtain⟨j,hj,e⟩:=k.room U;obtain⟨T,lT,eT⟩:=cover hm h j hj;have:=akr k.Ur h (turns m) 0 0 (by simp[P,I]) (λq l=>by lia) ⟨T,by unfold turns;lia,by rw[rz,eT];exact e⟩;simpa[I]using this
def Own.lay(k:Own m Z G)(e1:(P m h n').j=j)(e2:Z[j]?=some none)(e3:∀q,q<n'->OcO Z (P m h q).j) :
 Own m (Z.setIfInBounds j (some G.length)) (G++[h]):=by
 have lj:j<Z.size:=(jk.mp e2).1
 have get:∀q:Nat,(Z.setIfInBounds j (some G.length))[q]?=if j=q then some (some G.length)else Z[q]?:=λq=>by rw[Array.getElem?_setIfInBounds];split<;>simp_all
 have L:∀q,OcO Z q->OcO (Z.setIfInBounds j (some G.length)) q:=λq ⟨i,e⟩=>by refine⟨i,?_⟩;rw[get,bc (λh=>by subst h;rw[e2]at e;cases e)];exact e
 refine⟨by simp[k.Ur],?_,λq i e=>?_,λq q' i e U=>?_,λi h' e=>?_⟩
 .rw[Array.toList_setIfInBounds,List.countP_set (by simpa using lj),k.cnt]
  have:Z.toList[j]'(by simpa using lj)=none:=by have:=(jk.mp e2).2;simpa using this
  rw[this];simp
 .rw[get]at e
  split at e
  .cases e;simp
  .have:=k.lt q i e;simp;exact A_ (e_ this)
 .rw[get]at e U
  split at e<;>split at U
  .lia
  .cases e;have:=k.lt _ _ U;lia
  .cases U;have:=k.lt _ _ e;lia
  .exact k.inj q q' i e U
 .by_cases l:i<G.length
  .rw[jx l]at e
   obtain⟨j',n,a,b,c⟩:=k.at' i h' e;refine⟨j',n,?_,b,λq l=>L _ (c q l)⟩;rw[get,bc (λh=>by subst h;rw[e2]at a;cases a)];exact a
  .have hi:i=G.length:=by
    have:=(ak.mp e).1;simp at this;exact u_ (z_ this) (s_ l)
   subst hi;simp at e;subst e;exact⟨j,n',by rw[get,bz rfl],e1,λq l=>L _ (e3 q l)⟩
theorem ah8{m:Nat}(hm:Msk m):∀(Z G:U1)(L:Array (Option Nat)),Own m L G->G.length+Z.length<=m+1 ->
 ∃U,Z.foldl (λacc h=>do
  let (owner,k) <-acc
  let j<-layClean.free m owner (turns m) (bits h%(m+1)) (bits h)
  pure (owner.setIfInBounds j (some k),k+1)) (some (L,G.length))=some (U,G.length+Z.length)/\Own m U (G++Z)
 |[],G,L,k,_=>⟨L,rfl,by simpa using k⟩
 |h::Z,G,L,k,l=>by
  obtain⟨j,n',e0,e1,e2,e3⟩:=k.free hm (by simp at l;lia) h;have k':=k.lay e1 e2 e3;obtain⟨U,a,b⟩:=ah8 hm Z (G++[h]) _ k' (by simp at l⊢;lia);refine⟨U,?_,by simpa using b⟩;rw[Ae];have:(do
   let (owner,k) <-some (L,G.length)
   let j<-layClean.free m owner (turns m) (bits h%(m+1)) (bits h)
   pure (owner.setIfInBounds j (some k),k+1))=some (L.setIfInBounds j (some G.length),(G++[h]).length):=by
   show(layClean.free m L (turns m) (bits h%(m+1)) (bits h)>>=_)=_;rw[e0];simp
  rw[this,a]
  simp;lia
def ank(L:Msk m)(Z:Array Int)(l:Z.size<=m+1):∃G,layClean m Z=some G/\Own m G Z.toList:=by have U:Own m (Array.replicate (m+1) none) []:=⟨by simp,by simp,λj i e=>by simp[Array.getElem?_replicate]at e,λj j' i e=>by simp[Array.getElem?_replicate]at e,λi h e=>by simp at e⟩;obtain⟨G,a,b⟩:=ah8 L Z.toList [] _ U (by simpa using l);refine⟨G,?_,by simpa using b⟩;unfold layClean;rw[<-Array.foldl_toList];exact(lg (Option.map (·.1)) a).trans rfl
noncomputable def lv(m:Nat)(Z:Array (Option Nat)):List (Nat×Nat):=(List.range (m+1)).filterMap λj=>(Z.getD j none).map (j,·)
def Qd(k:Own m Z L):(j,i)∈lv m Z↔Z[j]?=some (some i):=by
 unfold lv;rw[List.mem_filterMap];constructor
 .rintro⟨q,a,b⟩
  obtain⟨i',G,U⟩:=cz.mp b;cases U;have:j<Z.size:=by rw[k.Ur];exact iw.mp a
  simp[Array.getD,this]at G;simp[this,G]
 .intro e
  have l:=(jk.mp e).1;refine⟨j,iw.mpr (by rw[<-k.Ur];exact l),?_⟩;have:Z.getD j none=some i:=by simp[Array.getD,l,(jk.mp e).2]
  rw[this];rfl
def anl(m:Nat)(G:Array (Option Nat)):(lv m G).Pairwise λa b=>a.1<b.1:=by unfold lv;refine List.Pairwise.filterMap _ (λa a' L b U b' Z=>?_) List.pairwise_lt_range;obtain⟨_,_,rfl⟩:=cz.mp U;obtain⟨_,_,rfl⟩:=cz.mp Z;exact L
def auc(k:Own m G U):((lv m G).map (·.2)).Perm (List.range U.length):=by
 refine(List.perm_ext_iff_of_nodup ?_ List.nodup_range).mpr λi=>?_
 .rw[qp,zf]
  refine(anl m G).imp_of_mem fun{a b} Z hb G5 e=>?_
  have:=k.inj a.1 b.1 a.2 ((Qd k).mp Z) (by rw[e];exact(Qd k).mp hb);exact l_ G5 (g_ this)
 .rw[bf,iw]
  constructor
  .rintro⟨a,Z,rfl⟩;exact k.lt _ _ ((Qd k).mp Z)
  .intro l
   obtain⟨j,n,a,_⟩:=k.at' i _ (dz l);exact⟨(j,i),(Qd k).mpr a,rfl⟩
theorem anm{G U:Type}{g:G->Option U}:∀{l:List G},(∀x∈l,(g x).isSome=true)->∀q:Nat,(l.filterMap g)[q]?=l[q]?.bind g
 |[],_,q=>by simp
 |x::l,h,q=>by
  have Z:=h x (dh ..);obtain⟨y,e⟩:=p8.mp Z;rw[List.filterMap_cons_some e];cases q with
  |zero=>simp[e]|succ q=>simpa using anm (λx Z=>h x (bx _ Z)) q
def Vx(hm:Msk m)(fg mv:Nat)(ld pl:Bool)(G:Array (Int×Value))(l:G.size<=m) :
 ∃t Z,laid m fg mv ld pl (G.map (·.1))=some (t,Z)/\t.mask=m/\Yr t (Z.filterMap (G[·]?))/\(Z.filterMap (G[·]?)).toList.Perm G.toList/\(Z.filterMap (G[·]?)).size=G.size
 /\t.led=ld/\t.plain=pl/\t.finger=fg/\Z.toList.Perm (List.range G.size):=by
 obtain⟨U,e,k⟩:=ank hm (G.map (·.1)) (by simp;exact a_ l x_);have Zg:=auc k;simp at Zg;have qq:(lv m U).length=G.size:=by have:=Zg.length_eq;simpa using this
 have qk:((((lv m U).map (·.2)).toArray).filterMap (G[·]?)).size=G.size:=by have:=(Zg.filterMap (G[·]?)).length_eq;rw[filterMap_getElem?_range]at this;rw[<-jr,Array.toList_filterMap,this];simp
 refine⟨{ mask:=m,place:=((lv m U).map (·.1)).toArray,dummies:=#[],finger:=fg,led:=ld,moves:=mv,plain:=pl },((lv m U).map (·.2)).toArray,?_,rfl,?_,?_,?_,rfl,rfl,rfl,Zg⟩
 .unfold laid;rw[e];rfl
 .have q0:∀x∈(lv m U).map (·.2),(G[x]?).isSome=true:=λx hx=>by
   have:=iw.mp (Zg.mem_iff.mp hx)
   simp;exact this
  have get:∀q:Nat,((((lv m U).map (·.2)).toArray).filterMap (G[·]?))[q]?=((lv m U)[q]?).bind λa=>G[a.2]?:=λq=>by rw[<-ir,Array.toList_filterMap,anm q0,dm];cases(lv m U)[q]?<;>rfl
  have L:∀q j:Nat,(((lv m U).map (·.1)).toArray)[q]?=some j↔∃i,(lv m U)[q]?=some (j,i):=λq j=>by
   simp only[List.getElem?_toArray,dm,cz];constructor
   .rintro⟨a,h,rfl⟩;exact⟨a.2,h⟩
   .rintro⟨i,h⟩;exact⟨_,h,rfl⟩
  refine⟨hm,rfl,?_,?_,?_,?_,?_⟩
  .show(((lv m U).map (·.1)).toArray).size=_
   rw[qk];simp[qq]
  .intro i j a b ea eb lt
   obtain⟨i1,e1⟩:=(L i a).mp ea;obtain⟨i2,e2⟩:=(L j b).mp eb;obtain⟨l1,g1⟩:=ak.mp e1;obtain⟨l2,g2⟩:=ak.mp e2;have:=List.pairwise_iff_getElem.mp (anl m U) i j l1 l2 lt;rw[g1,g2]at this;exact this
  .intro i j e
   obtain⟨i1,e1⟩:=(L i j).mp e;have:=(Qd k).mp (az e1);have:=(jk.mp this).1;rw[k.Ur]at this;show j<=m
   exact z_ this
  .show(((lv m U).map (·.1)).toArray).size<=m
   simp[qq];exact l
  .intro q j e' hp he
   obtain⟨i,e1⟩:=(L q j).mp hp;rw[get,e1]at he;have he:G[i]?=some e':=he;obtain⟨j',n,a,b,c⟩:=k.at' i e'.1 (by simp[he]);have hj:=k.inj j j' i ((Qd k).mp (az e1)) a;subst hj;refine⟨n,b,λw lw=>?_⟩;obtain⟨i',qv⟩:=c w lw;obtain⟨z,hz⟩:=v8.mp ((Qd k).mpr qv);exact⟨z,(L z _).mpr ⟨i',hz⟩⟩
 .rw[Array.toList_filterMap]
  have:=Zg.filterMap (G[·]?);rw[filterMap_getElem?_range]at this;exact this
 .exact qk
def Zh:∀n,n<32->Msk (sizeAbove (grown n)-1)/\n<=sizeAbove (grown n)-1/\n+1<=sizeAbove (grown n)-1/\¬(n*5 >= (sizeAbove (grown n)-1)*3)/\sizeAbove (grown n)<=128:=by unfold Msk;decide+kernel
def ac6:∀n,n<64->Msk (sizeAbove (n*2)-1)/\n<=sizeAbove (n*2)-1/\¬(n*5 >= (sizeAbove (n*2)-1)*3)/\sizeAbove (n*2)<=128:=by unfold Msk;decide+kernel
section
variable{prog:Program}{w:World}{K:Type}[DecidableEq K]{knd:KeyKind prog w K}{A:Around}{E:Y3}{s:Shared}
def agd(n:Nat)(h:carriedByValue v=true):ofAClassStatement n v=pure false:=by cases v<;>first|(simp[carriedByValue]at h;done)|(unfold ofAClassStatement;rfl)
def Wd(hk:IsTupleKey knd s.heap ks a)(h:Q false s):wpAny (model prog w) A (ofAClassStatement 8 (.ref a)) Q E s:=by
 have hT:=hk.typeIs;obtain⟨o,G,n,ho,_,hd,hi⟩:=hk;unfold ofAClassStatement;refine aa (uf hT ?_);show wpAny _ _ (if("tuple"=="tuple")=true then _ else _) _ _ s;rw[bz (by decide)];refine aa (aj ?_);simp only[jc,bw,gm];refine aa (m7 ho hd ?_);refine aa ?_;show wpAny _ _ (forIn G _ _) _ _ s;rw[<-yw];refine jf _ (λZ r U=>r.1=none/\U=s/\∀v∈Z,carriedByValue v=true) _ ?_ ?_ _ _ ⟨rfl,rfl,hi.byValue⟩
 .rintro v Z r U ⟨L,rfl,Dh⟩
  rw[agd _ (Dh v dh)];refine aa (aj ?_);simp only[bw,gm];exact aj ⟨rfl,rfl,λu qq=>Dh u (bx _ qq)⟩
 .rintro⟨r1,r2⟩ U ⟨L,rfl,_⟩
  simp only at L;subst L;exact aj h
def ano(hk:IsTupleKey knd s.heap G a)(hs:∀v∈st,∃G b,v=.ref b/\IsTupleKey knd s.heap G b)(h:Q false s) :
 wpAny (model prog w) A (searchCouldBeSeen (.ref a) st) Q E s:=by
 unfold searchCouldBeSeen;refine aa ?_;refine jf _ (λZ r L=>r.1=none/\L=s/\∀v∈Z,∃G b,v=.ref b/\IsTupleKey knd s.heap G b) _ ?_ ?_ _ _ ⟨rfl,rfl,hs⟩
 .rintro v Z r L ⟨hr,rfl,Dh⟩
  obtain⟨qq,b,rfl,hb⟩:=Dh v dh;have U:∀v∈Z,∃G b,v=.ref b/\IsTupleKey knd L.heap G b:=λv hv=>Dh v (bx _ hv)
  dsimp only;split
  .exact aj ⟨rfl,rfl,U⟩
  .refine aa (wpAny_eqIsQuiet_tuple hk ?_)
   simp only[jc,bw,gm];refine aa (wpAny_eqIsQuiet_tuple hb ?_);simp only[jc,bw,gm];refine aa (Wd hk ?_);simp only[bw,gm];refine aa (Wd hb ?_);simp only[bw,gm];exact aj ⟨rfl,rfl,U⟩
 .rintro⟨r1,r2⟩ L ⟨hr,rfl,_⟩
  simp only at hr;subst hr;exact aj h
noncomputable def ent(knd:KeyKind prog w K)(x:List K×Addr):Int×Value:=(tupleKeyHash knd x.1,.ref x.2)
def age{G:Array (Int×Value)}{Z:List (List K×Addr)}(U:G.toList=Z.map (ent knd))(j:Nat):G[j]?=(Z[j]?).map (ent knd):=by rw[<-ir,U,dm]
def aks{xs:List (List K×Addr)}(hu:A.units<cLine)(hk:IsTupleKey knd s.heap k p)(ho:s.heap.get? a=some o)(hd:o.data=.set L ep t)(T:Yr t L)(he:L.toList=xs.map (ent knd))(hx:∀x∈xs,IsTupleKey knd s.heap x.1 x.2)(hn:(xs.map (·.1)).Nodup)(F:Fst t (tupleKeyHash knd k) N)(q7:∀(i:Nat) x,xs[i]?=some x->x.1=k->Q (.there (if adding then none else some i)) s)(q8:(∀x∈xs,x.1≠k)->Q (.free (P t.mask (tupleKeyHash knd k) N).j false) s) :
 ∀(G n:Nat)(st:Option Probe),n<=N->N-n<G->st.getD (t.probeStart (tupleKeyHash knd k))=P t.mask (tupleKeyHash knd k) n ->
  (∀m,m<n->∀(i:Nat) x,t.place[i]?=some (P t.mask (tupleKeyHash knd k) m).j->xs[i]?=some x->x.1≠k) ->
  wpAny (model prog w) A (setSearchFrom a (.ref p) (tupleKeyHash knd k) adding G st) Q E s:=by
 intro G
 induction G with
 |zero=>intro n st _ l;omega
 |succ G ih =>
  intro n st zw l Yx q2;unfold setSearchFrom;refine aa (f9 ho hd T.fits ?_);dsimp only;rw[T.way,Yx];simp only[bw,gm];have key:=anj T F (λi=>(L[i]?.map (·.1)).getD 0) (10*turns t.mask) n zw (by have:=F.lt;exact c_ C_ this);generalize qq:t.probe _ (tupleKeyHash knd k) (P t.mask (tupleKeyHash knd k) n)=pr;have qq:t.probe (λi=>(L[i]?.map (·.1)).getD 0) (tupleKeyHash knd k) (P t.mask (tupleKeyHash knd k) n)=pr:=qq;have atI:∀(i j:Nat),t.place[i]?=some j->∃x,xs[i]?=some x/\L[i]?=some (ent knd x):=λi j e=>by
   have li:i<L.size:=by rw[<-T.Ur];exact(jk.mp e).1
   have lx:i<xs.length:=by have:=lg List.length he;simp at this;exact b_ li (f_ this)
   refine⟨xs[i],by simp[lx],?_⟩;rw[age he];simp[lx]
  rcases key with⟨e,z1⟩|⟨m,i,h1,h2,h3,h4,h5,e⟩
  .have e:pr=_:=qq.symm.trans e
   subst e;dsimp only;refine aj (q8 λx z0 Z=>?_);obtain⟨i,hi⟩:=v8.mp z0;have U:L[i]?=some (ent knd x):=by rw[age he,hi];rfl
   obtain⟨m,lm,hp⟩:=T.ahead F U (by unfold ent;rw[Z])
   by_cases q3:m<n
   .exact q2 m q3 i x hp hi Z
   .refine z1 m (s_ q3) lm i hp ?_
    rw[U];show tupleKeyHash knd x.1=_;rw[Z]
  .have e:pr=_:=qq.symm.trans e
   subst e;dsimp only;obtain⟨x,q1,U⟩:=atI i _ h3;have zv:=hx x (az q1);have q5:∀{R:Bool->Shared->Prop},R false s->wpAny (model prog w) A (searchCouldBeSeen (.ref p) ((L.filter (·.1==tupleKeyHash knd k)).toList.map (·.2))) R E s:=λhR=>ano hk (λv hv=>by
    obtain⟨y,hy,rfl⟩:=bf.mp hv;have q4:y∈L.toList:=by simp at hy;simpa using hy.1
    rw[he]at q4;obtain⟨z,hz,rfl⟩:=bf.mp q4;exact⟨z.1,z.2,rfl,hx z hz⟩) hR
   rcases Bool.eq_false_or_eq_true t.led with a8f|a8f
   all_goals
    simp only[a8f,jc,uz,bw,gm,jg]
    first
    |(rw[U];show wpAny _ _ (holding [.ref x.2] (eqBool (.ref x.2) (.ref p))>>=_) _ _ _)
    |(refine aa (q5 ?_);simp only[bw,gm];rw[U];show wpAny _ _ (holding [.ref x.2] (eqBool (.ref x.2) (.ref p))>>=_) _ _ _)
    refine aa (fu (wpAny_eqBool_tuple hu zv hk ?_));refine aa (f9 ho hd T.fits ?_);dsimp only;have zz:t.sameMemory t.moves t.mask=some true:=by unfold sameMemory;simp
    rw[zz];dsimp only;rw[bz rfl,(Ti T.srt).mpr h3];dsimp only;rw[U]
    by_cases Z:x.1=k
    .have qv:decide (x.1=k)=true:=by simp[Z]
     rw[qv];have hq:=q7 i x q1 Z;cases adding
     .simp only[Bool.false_and,bw,gm]
      refine aa (wpAny_isSame_ref_self ?_);refine aa (aj ?_);simpa using aj hq
     .simp only[Bool.and_self,jg]
      exact aj hq
    .have qv:decide (x.1=k)=false:=by simp[Z]
     rw[qv];simp only[Bool.and_false,bw,gm];refine aa (wpAny_isSame_ref_self ?_);refine aa (aj ?_);simp only[jg];refine ih (m+1) _ h2 (by lia) rfl λm' z2 i' x' q0 qk=>?_
     by_cases hc:m'<n
     .exact q2 m' hc i' x' q0 qk
     .by_cases hm:m'=m
      .subst hm
       have ei:i'=i:=by rw[<-below_at T.srt q0,<-below_at T.srt h3]
       subst ei;rw[q1]at qk;cases qk;exact Z
      .intro q6
       have zk:L[i']?=some (ent knd x'):=by rw[age he,qk];rfl
       refine h5 m' (s_ hc) (by lia) i' q0 ?_;rw[zk];show tupleKeyHash knd x'.1=_;rw[q6]
end
section
variable{prog:Program}{w:World}{K:Type}[DecidableEq K]{knd:KeyKind prog w K}{pk:List K×Addr->Prop}{A:Around}{E:Y3}{s:Shared}
noncomputable abbrev bt(w:World):Bool:=w.params.followText "set-order"
def J8(h:Q (bt w) s):wpAny (model prog w) A setsByText Q E s:=by unfold setsByText;exact aa (yq (aj h))
def Tn(knd:KeyKind prog w K)(pk:List K×Addr->Prop):Prop:=∀x,pk x->∀k∈x.1,∀v n,knd.is k v=true->hashByValue n v=pure true
theorem Us:∀{G:List K}{Z:Zl},ItemsAre knd G Z->(∀k∈G,∀v n,knd.is k v=true->hashByValue n v=pure true)->∀v∈Z,∀n,hashByValue n v=pure true
 |_,_,.nil,_,v,h=>by simp at h
 |_,_,.cons h t,hp,v,hv=>by
  rcases cj.mp hv with rfl|hv
  .exact λn=>hp _ dh _ n h
  .exact Us t (λk U=>hp k (bx _ U)) v hv
def agg(qq:Tn knd pk)(hk:IsTupleKey knd s.heap ks a)(hp:pk (ks,a))(h:Q true s):wpAny (model prog w) A (hashByValue 8 (.ref a)) Q E s:=by
 have hT:=hk.typeIs;obtain⟨o,G,n,ho,_,hd,hi⟩:=hk;unfold hashByValue;refine aa (o4 hT xx.lookup ?_);dsimp only;refine aa (m7 ho hd ?_);refine aa ?_;show wpAny _ _ (forIn G _ _) _ _ s;rw[<-yw];refine jf _ (λZ r U=>r.1=none/\U=s/\∀v∈Z,∀n,hashByValue n v=pure true) _ ?_ ?_ _ _ ⟨rfl,rfl,Us hi (qq _ hp)⟩
 .rintro v Z r U ⟨L,rfl,Dh⟩
  rw[Dh v dh];refine aa (aj ?_);simp only[jc,bw,gm];exact aj ⟨rfl,rfl,λu qk=>Dh u (bx _ qk)⟩
 .rintro⟨r1,r2⟩ U ⟨L,rfl,_⟩
  simp only at L;subst L;exact aj h
structure Tp(knd:KeyKind prog w K)(pk:List K×Addr->Prop)(h:Heap)(a:Addr)(xs:List (List K×Addr))(o:Obj)(es:Array (Int×Value))(ep:Nat)(t:SetTable):Prop where
 get:h.get? a=some o
 exa:o.ExactSet
 dat:o.data=.set es ep t
 tab:Yr t es
 ent:es.toList=xs.map (ent knd)
 keys:∀x∈xs,IsTupleKey knd h x.1 x.2/\pk x
 nod:(xs.map (·.1)).Nodup
 led:t.led=!bt w
 Zi:t.plain=true
def Cz(knd:KeyKind prog w K)(pk:List K×Addr->Prop)(h:Heap)(a:Addr)(S:List K->Prop)(n:Nat):Prop:=∃Z o U G t,Tp knd pk h a Z o U G t/\(∀k,S k↔k∈Z.map (·.1))/\Z.length=n/\t.place.size*5<t.mask*3
theorem Tp.size(X:Tp knd pk h a Z o G U t):G.size=Z.length:=by have:=lg List.length X.ent;simpa using this
def anp(p:Addr)(Z:Array (Int×Value)):byScan (.ref p) Z=false:=by unfold byScan;simp[Value.scannable]
def anq(h:Msk m):10*turns m<100000:=by rcases h with rfl|rfl|rfl|rfl|rfl<;>decide
def We(hu:A.units<cLine)(L:IsTupleKey knd s.heap k p)(X:Tp knd pk s.heap a U o es ep t)(F:Fst t (tupleKeyHash knd k) N)(Z:∀(i:Nat) x,U[i]?=some x->x.1=k->Q (.there (if adding then none else some i)) s)(G:(∀x∈U,x.1≠k)->Q (.free (P t.mask (tupleKeyHash knd k) N).j false) s) :
 wpAny (model prog w) A (setSearch a (.ref p) (tupleKeyHash knd k) adding) Q E s:=by
 unfold setSearch;exact aks hu L X.get X.dat X.tab X.ent (λx hx=>(X.keys x hx).1) X.nod F Z G 100000 0 none (iy _) (by have:=F.lt;have:=anq X.tab.msk;lia) (ac4 _ _) (λm l=>by lia)
def auh(hu:A.units<cLine)(L:IsTupleKey knd s.heap k p)(hS:Cz knd pk s.heap a S n)(h:∀r:Option Nat,(r.isSome=true↔S k)->Q r s):wpAny (model prog w) A (setFind a (.ref p) (tupleKeyHash knd k)) Q E s:=by
 obtain⟨xs,o,es,ep,t,X,U,_,_⟩:=hS;obtain⟨N,F⟩:=X.tab.fst (tupleKeyHash knd k);unfold setFind setFindIn;refine aa (f9 X.get X.dat X.tab.fits ?_);dsimp only;rw[anp];simp only[bw,gm];refine aa (We hu L X F (λi x hi Z=>?_) (λG=>?_))
 .simp only[bw,gm]
  exact aj (h _ (by simp;exact(U k).mpr (bf.mpr ⟨x,az hi,Z⟩)))
 .dsimp only
  refine aj (h _ ?_);simp only[Option.isSome_none,bw,false_iff];intro hs;obtain⟨x,Z,e⟩:=bf.mp ((U k).mp hs);exact G x Z e
end
def Av{G β:Type}{f:G->β}:∀{l U:List β},l.Perm U->∀{xs:List G},U=xs.map f->∃Z:List G,l=Z.map f/\Z.Perm xs:=by
 intro l U p
 induction p with
 |nil=>intro xs e;cases xs with
  |nil=>exact⟨[],rfl,.nil⟩|cons _ _=>cases e
 |cons a p ih =>
  intro xs e;cases xs with
  |nil=>cases e
  |cons x xs =>
   simp only[dj,List.cons.injEq]at e;obtain⟨Z,e1,L⟩:=ih e.2;exact⟨x::Z,by simp[e1,e.1],L.cons x⟩
 |swap a b l =>
  intro xs e
  match xs,e with
  |x::y::xs,e =>
   simp only[dj,List.cons.injEq]at e;obtain⟨rfl,rfl,rfl⟩:=e;exact⟨y::x::xs,rfl,.swap x y xs⟩
 |trans p q qk qq =>
  intro xs e;obtain⟨ys,e1,L⟩:=qq e;obtain⟨zs,e2,p2⟩:=qk e1;exact⟨zs,e2,p2.trans L⟩
section
variable{prog:Program}{w:World}{K:Type}[DecidableEq K]{knd:KeyKind prog w K}{pk:List K×Addr->Prop}{A:Around}{E:Y3}{s:Shared}
def anr(x:IsTupleKey knd h ks p)(ho:h.get? a=some o)(hd:o.data=.set es ep t)(hs:Heap.SameBut a h h'):IsTupleKey knd h' ks p:=by
 obtain⟨L,Z,n,U,hc,G,hi⟩:=x;have Q3:p≠a:=by rintro rfl;obtain rfl:L=o:=ie (U.symm.trans ho);rw[hd]at G;exact nomatch G
 exact⟨L,Z,n,(hs.2 p Q3).trans U,hc,G,hi⟩
def newX(X:Tp knd pk h a xs o es U t)(T':Yr t' Z)(he:Z.toList=G.map (ent knd))(L:∀x∈G,IsTupleKey knd h x.1 x.2/\pk x)(hn:(G.map (·.1)).Nodup)(hl:t'.led=!bt w)(hp:t'.plain=true) :
 Tp knd pk (h.update a (Obj.putSet Z t')) a G { o with data:=.set Z (U+1) t' } Z (U+1) t':=by
 have hg:(h.update a (Obj.putSet Z t')).get? a=some { o with data:=.set Z (U+1) t' }:=by have:=jz (Obj.putSet Z t') X.get (by rw[putSet_of Z t' X.dat];rfl);rw[putSet_of Z t' X.dat]at this;exact this
 exact⟨hg,X.exa,rfl,T',he,λx hx=>⟨anr (L x hx).1 X.get X.dat (gr h a _),(L x hx).2⟩,hn,hl,hp⟩
def Dk(h:n<=128):n<=sizeLine:=by rw[jw];exact a_ h (by decide)
def ac8(X:Tp knd pk s.heap a xs o G ep t)(hm:Msk (sizeAbove wanted-1))(hz:G.size<=sizeAbove wanted-1)(hb:sizeAbove wanted<=128)(h:∀h' U o' qk qq t',Heap.SameBut a s.heap h'->Tp knd pk h' a U o' qk qq t'->U.Perm xs->t'.mask=sizeAbove wanted-1->t'.place.size=G.size->Q () { s with heap:=h' }) :
 wpAny (model prog w) A (setRelay a wanted) Q E s:=by
 obtain⟨t',Z,e,e1,T',p,sz,hl,hp,_⟩:=Vx hm t.finger (t.movedTo (sizeAbove wanted-1)) t.led t.plain G hz;unfold setRelay;refine aa (f9 X.get X.dat X.tab.fits ?_);dsimp only;rw[bc (by have:=Dk hb;exact j_ this)];have er:t.relaid (G.map (·.1)) wanted=some (t',Z):=e;rw[er];refine aa ?_;have qv:wpAny (model prog w) A (if((Z.filterMap (G[·]?)).size != G.size)=true then(do unsupported "internal:set-table-lost-an-element";pure (Z.filterMap (G[·]?),t'))else pure (Z.filterMap (G[·]?),t'))
  (λr s'=>wpAny (model prog w) A (storeSet a r.1 r.2) Q E s') E s:=by
  rw[bc (by simp[sz])];refine aj ?_;obtain⟨U,ex,L⟩:=Av p X.ent;have hX:=newX X T' ex (λx hx=>X.keys x (L.mem_iff.mp hx)) ((L.map _).nodup_iff.mpr X.nod) (hl.trans X.led) (hp.trans X.Zi);refine ux X.get X.dat (h _ _ _ _ _ _ (gr s.heap a _) hX L e1 (by rw[T'.Ur,sz])) (Dk (by rw[sz];exact a_ hz (a_ C_ hb)))
 exact qv
def ant(q4:Tn knd pk)(hu:A.units<cLine)(hk:IsTupleKey knd s.heap k p)(hp:pk (k,p))(hS:Cz knd pk s.heap a S n)(hn:n+1<32)(h:∀h' n' b,Heap.SameBut a s.heap h'->Cz knd pk h' a (λG=>S G\/G=k) n'->n'<=n+1->Q b { s with heap:=h' }) :
 wpAny (model prog w) A (setAddHashed a (.ref p) (tupleKeyHash knd k)) Q E s:=by
 obtain⟨xs,o,es,ep,t,X,hm,hl,nf⟩:=hS;obtain⟨N,F⟩:=X.tab.fst (tupleKeyHash knd k);have q0:=X.size;unfold setAddHashed setAddHashedIn;refine fu (aa (f9 X.get X.dat X.tab.fits ?_));dsimp only;rw[anp];simp only[bw,gm];refine aa (We hu hk X F (λi x hi L=>?_) (λq7=>?_))
 .dsimp only
  refine aj ?_;have q5:S k:=(hm k).mpr (bf.mpr ⟨x,az hi,L⟩);have:=h s.heap n false (yc a s.heap) ⟨xs,o,es,ep,t,X,λG=>by
   rw[<-hm G];exact⟨λh=>h.elim id (λe=>e▸q5),.inl⟩,hl,nf⟩ x_
  exact this
 .dsimp only
  refine aa (f9 X.get X.dat X.tab.fits ?_);dsimp only;have room:t.place.size+1<=t.mask:=by have:=X.tab.msk;rcases this with e|e|e|e|e<;>lia
  have T':=X.tab.put (x:=.ref p) F room;have Hz:(t.put (P t.mask (tupleKeyHash knd k) N).j).1.plain=true:=X.Zi;rw[Hz];simp only[jg];refine aa (agg q4 hk hp ?_);simp only[jg];obtain⟨U,ex,px⟩:=Av (f:=ent knd) (insertAt_perm es (t.put (P t.mask (tupleKeyHash knd k) N).j).2 (tupleKeyHash knd k,.ref p)) (xs:=xs++[(k,p)]) (by rw[Array.toList_push,X.ent,qj];rfl);have pm:=px.map (·.1);have q2:(U.map (·.1)).Nodup:=pm.nodup_iff.mpr (by
   rw[qj,xu];refine⟨X.nod,by simp,λa ha b hb=>?_⟩;simp at hb;subst hb;rintro rfl;obtain⟨x,L,e⟩:=bf.mp ha;exact q7 x L e)
  have Wf:∀x∈U,IsTupleKey knd s.heap x.1 x.2/\pk x:=λx L=>by
   rcases du.mp (px.mem_iff.mp L)with L|L
   .exact X.keys x L
   .simp at L;subst L;exact⟨hk,hp⟩
  have hX:=newX X T' ex Wf q2 X.led X.Zi;have Ib:∀G,(S G\/G=k)↔G∈U.map (·.1):=λG=>by rw[pm.mem_iff,qj,du,hm G];simp
  have qk:U.length=n+1:=by rw[px.length_eq];simp[hl]
  have qq:(insertAt es (t.put (P t.mask (tupleKeyHash knd k) N).j).2 (tupleKeyHash knd k,.ref p)).size=es.size+1:=Ma _ _ _;refine aa (ux X.get X.dat ?_ (Dk (by rw[qq];exact e_ (c_ (v_ (f_ q0)) (c_ (v_ (f_ hl)) (b_ hn (by decide)))))));have qv:(t.put (P t.mask (tupleKeyHash knd k) N).j).1.place.size=es.size+1:=by rw[T'.Ur,qq]
  by_cases Z:(t.put (P t.mask (tupleKeyHash knd k) N).j).1.tooFull=true
  .rw[Z]
   simp only[uz,Bool.and_self,jg];obtain⟨g1,g2,g3,g4,g5⟩:=Zh (es.size+1) (c_ (v_ (f_ q0)) (c_ (v_ (f_ hl)) hn));refine aa (ac8 hX g1 (by rw[qq];exact g2) g5 λh' q6 o2 q3 q1 t2 sb X2 p2 em ps=>?_);refine aj (h h' (n+1) true ((gr s.heap a _).trans sb) ⟨q6,o2,q3,q1,t2,X2,λG=>?_,by rw[p2.length_eq,qk],?_⟩ (cg _))
   .exact(Ib G).trans (p2.map (·.1)).mem_iff.symm
   .rw[ps,em,qq];exact t_ g4
  .rw[Bool.not_eq_true]at Z
   rw[Z];simp only[Bool.and_false,bw,gm];refine aj (h _ (n+1) true (gr s.heap a _) ⟨U,_,_,_,_,hX,Ib,qk,?_⟩ (cg _));unfold tooFull at Z;have hf:(t.put (P t.mask (tupleKeyHash knd k) N).j).1.fill=es.size+1:=by unfold fill;rw[qv,T'.dum];rfl
   rw[hf]at Z;rw[qv];simp at Z;exact Z
end
open PySem
def upto(J:Nat->β->Shared->Prop)(G:∀i b z,i<n->J i b z->wpAny M A (f i b) (λr L=>match r with|.yield Z=>J (i+1) Z L|.done Z=>Q Z L) E z)(fin:∀b z,J n b z->Q b z)(start:J 0 b s) :
 wpAny M A (forIn [:n] b f) Q E s:=by
 have go:∀(k i:Nat)(b:β)(z:Shared),n=i+k->J i b z->wpAny M A (forIn (List.range' i k) b f) Q E z:=by
  intro k
  induction k with
  |zero=>intro i b z e hj;subst e;exact aj (fin b z hj)
  |succ k ih =>
   intro i b z e hj;show wpAny M A (forIn (i::List.range' (i+1) k) b f) Q E z;rw[List.forIn_cons];refine aa (iz (G i b z (by lia) hj) (λr L U=>?_) λ_ _ x=>x)
   match r,U with
   |.done Z,U=>exact aj U|.yield Z,U=>exact ih (i+1) Z L (by lia) U
 have e:(forIn [:n] b f:Sem β)=forIn (List.range' 0 n) b f:=by rw[vz];simp[Std.Legacy.Range.size]
 rw[e];exact go n 0 b s (by lia) start
def sub_dict_set:isSubtype (.type "dict") (.type "set")=pure false:=by rw[qt];kernel_rfl
def sub_dict_frozenset:isSubtype (.type "dict") (.type "frozenset")=pure false:=by rw[qt];kernel_rfl
section
variable{prog:Program}{w:World}{K:Type}[DecidableEq K]{knd:KeyKind prog w K}{pk:List K×Addr->Prop}{A:Around}{E:Y3}{s:Shared}
def G6(Z:s.TypeIs v T)(G:isSubtype (.type T) (.type "set")=pure false)(U:isSubtype (.type T) (.type "frozenset")=pure false)(h:Q false s) :
 wpAny (model prog w) A (Builtin.Frozenset.isAnySet v) Q E s:=by
 unfold Builtin.Frozenset.isAnySet;refine aa (iu Z G ?_);exact iu Z U h
def auk(Z:s.TypeIs v "set")(h:Q true s):wpAny (model prog w) A (Builtin.Frozenset.isAnySet v) Q E s:=by unfold Builtin.Frozenset.isAnySet;refine aa (iu Z sub_set_self ?_);exact aj h
def zg(w:World):Obj:={ cls:=.type "set",dict:=none,data:=.set #[] 0 (.fresh 0 0 (!bt w)) }
def aul(Z:h.get? a=some (zg w)):Cz knd pk h a (λ_=>False) 0:=
 ⟨[],zg w,#[],0,_,⟨Z,⟨rfl,rfl,rfl⟩,rfl,⟨.inl rfl,rfl,rfl,λi j a b e=>by simp[SetTable.fresh]at e,λi j e=>by simp[SetTable.fresh]at e,by simp[SetTable.fresh],λi j e a=>by simp[SetTable.fresh]at a⟩,
  rfl,λx G=>by simp at G,wk,rfl,rfl⟩,λk=>by simp,rfl,by simp[SetTable.fresh]⟩
set_option tactic.hygienic true in
def aum(hS:Cz knd pk s.heap a S n)(hl:n+m<64)(h:∀Z,Heap.SameBut a s.heap Z->Cz knd pk Z a S n->Q () { s with heap:=Z }):wpAny (model prog w) A (setRoomFor a m) Q E s:=by
 obtain⟨xs,o,es,ep,t,X,u,G,nf⟩:=hS;have R:=X.size;unfold setRoomFor;refine aa (f9 X.get X.dat X.tab.fits ?_);dsimp only;unfold roomFor;have C:=X.tab.Ur;split
 .rename_i Y e
  split at e
  .cases e
   obtain⟨g1,g2,g3,g4⟩:=ac6 (t.place.size+m) (c_ (v_ (f_ C)) (c_ (v_ (f_ R)) (c_ (v_ (f_ G)) hl)));refine ac8 X g1 (by lia) g4 λZ L o2 U J t2 sb X2 y em ps=>h Z sb ⟨L,o2,U,J,t2,X2,λk'=>?_,by rw[y.length_eq,G],?_⟩
   .exact(u k').trans (y.map (·.1)).mem_iff.symm
   .rw[ps,em];lia
  .cases e
 .exact aj (h s.heap (yc _ _) ⟨xs,o,es,ep,t,X,u,G,nf⟩)
theorem Cz.get(U:Cz knd pk h a S n):∃o Z G t,h.get? a=some o/\o.ExactSet/\o.data=.set Z G t/\t.fits Z.size=true:=
 let ⟨_,o,Z,G,t,X,_⟩:=U;⟨o,Z,G,t,X.get,X.exa,X.dat,X.tab.fits⟩
def Cz.typeIs(Z:Cz knd pk s.heap a S n):s.TypeIs (.ref a) "set":=
 let ⟨o,_,_,_,ho,hc,_⟩:=Z.get;⟨o,ho,hc.1⟩
def Cz.congr(Z:Cz knd pk h a S n)(e:∀k,S k↔G k):Cz knd pk h a G n:=
 let ⟨xs,o,es,ep,t,X,hm,r⟩:=Z;⟨xs,o,es,ep,t,X,λk=>(e k).symm.trans (hm k),r⟩
def anv(zz:Tn knd pk){id:String}(hu:A.units<cLine)(hS:Cz knd pk s.heap a S n)(hd:s.heap.DictOfH (tupleKind knd) d Z)(z0:(d==sysModules)=false)(z2:∀x∈Z,pk (x.1,x.2.1))(hl:n+Z.length<31)(h:∀G n',Heap.SameBut a s.heap G->Cz knd pk G a (λk=>S k\/k∈Z.map (·.1)) n'->Q () { s with heap:=G }) :
 wpAny (model prog w) A (Builtin.Frozenset.updateFrom id a (.ref d)) Q E s:=by
 have hT:=hd.typeIs;obtain⟨od,q4,yv,L,yk,U,q2,zk,z5⟩:=hd;obtain⟨o0,yy,z4,t0,q1,y0,q0,z9⟩:=hS.get;have Q3:d≠a:=by rintro rfl;rw[L]at q1;cases q1;rw[U]at q0;cases q0
 have qk:q4.size=Z.length:=size_of_entries q2;unfold Builtin.Frozenset.updateFrom;refine aa (G6 hT sub_dict_set sub_dict_frozenset ?_);simp only[bw,gm];refine aa (uf hT ?_);rw[bz (by decide)];refine aa (qx ?_);refine aa (m:=Builtin.Frozenset.addrOf (.ref d)) (aj ?_);rw[bc (by rw[z0];decide)];refine aa (wpAny_dictEpoch L U ?_);refine aa (j6 L U ?_);refine aa (aum hS (by lia) λh1 q3 q7=>?_);have z1:h1.get? d=some od:=(q3.2 d Q3).trans L;refine aa (j6 z1 U ?_);refine aa ?_;refine upto (λi _ z=>∃G n',z={ s with heap:=G }/\Cz knd pk G a (λk=>S k\/k∈(Z.take i).map (·.1)) n'/\n'<=n+i/\Heap.SameBut a s.heap G) (λi _ z lt qv=>?_) (λ_ z qv=>?_) ⟨h1,n,rfl,q7.congr (λk=>by simp),x_,q3⟩
 .obtain⟨G,n',rfl,Mf,Q9,qq⟩:=qv
  have q5:G.get? d=some od:=(qq.2 d Q3).trans L;refine aa (j6 q5 U ?_);have lx:i<Z.length:=b_ lt (f_ qk)
  have he:q4[i]?=some (entryOfKey (tupleKind knd) Z[i]):=by rw[entry_at q2];simp[lx]
  rw[he];have zw:IsTupleKey knd G Z[i].1 Z[i].2.1:=anr (zk _ (ph lx)) q1 q0 qq;show wpAny _ _ (holding [.ref Z[i].2.1] (setAddHashed a (.ref Z[i].2.1) (tupleKeyHash knd Z[i].1))>>=_) _ _ _;refine aa (fu (ant (s:={ s with heap:=G }) zz hu zw (z2 _ (ph lx)) Mf (by lia) λz3 q8 b q6 zv y1=>?_));refine aa (wpAny_dictEpoch ((q6.2 d Q3).trans q5) U ?_);rw[qb];refine aj ⟨z3,q8,rfl,zv.congr (λk=>?_),by lia,qq.trans q6⟩;rw[List.take_add_one,qj,du,show Z[i]?=some Z[i]by simp[lx]];simp[or_assoc]
 .obtain⟨G,n',rfl,Mf,Q9,qq⟩:=qv
  refine aj (h G n' qq (Mf.congr λk=>?_));rw[yp (g_ qk)]
end
section
variable{prog:Program}{w:World}{K:Type}[DecidableEq K]{knd:KeyKind prog w K}{pk:List K×Addr->Prop}{A:Around}{E:Y3}{s:Shared}
def auo(Z:R (.ref s.heap.objs.size) { s with heap:=s.heap.push (zg w) }) :
 codeAny (model prog w) A (.call (.builtin "set.__new__") ⟨[.type "set",v],[]⟩) (wants R E) s:=by
 refine codeAny_call_builtin F.plain_set_new F.entry_set_new (wpAny_of_eq (F.newCall_set_1 v) ?_);have G:=sub_set_self;unfold Builtin.«set.__new__» Builtin.Frozenset.newClass
 wp_walk
 exact yq (aj (aa (wpAny_alloc (aj (aj Z)))))
set_option maxHeartbeats 3200000 in
def Mg{R:Shared->Prop}(qq:wpAny (model prog w) A.in1.in1 (Builtin.Frozenset.updateFrom "set.__init__" s.heap.objs.size x) (λ_ s'=>R s') E { s with heap:=s.heap.push (zg w) })(h:∀s',R s'->Q (.ref s.heap.objs.size) s') :
 wpAny (model prog w) A (call (.type "set") [x]) Q E s:=by
 obtain⟨c,tl,q4⟩:=ud.mro;have q3:=ud.made;have q2:=ud.sub;refine wpAny_call (codeAny_of_tree ?_);show wpAny _ _ (callAny (.type "set") _) _ _ _;refine aj ⟨Code.quiet_builtin _ (by decide+kernel),jy F.entry_type_call ?_⟩;rw[Around.under_plain (weight_type_call_type "set" [x] []) rfl];have h1:=ud.notType;have h2:=ud.canCreate;have q0:=F.typeCall_set_1 x
 repeat (any_goals (first|assumption|wp_step))
 refine ue (auo (v:=x) (E:=E) (R:=λobj U=>obj=.ref s.heap.objs.size/\U={ s with heap:=s.heap.push (zg w) }) ⟨rfl,rfl⟩) λr U hr=>?_
 cases r with
 |error e=>exact hr
 |ok fl =>
  cases fl with
  |ret obj =>
   obtain⟨rfl,rfl⟩:=hr;have hS:(s.heap.push (zg w)).get? s.heap.objs.size=some (zg w):=bu _ rfl;have hT:Shared.TypeIs { s with heap:=s.heap.push (zg w) } (.ref s.heap.objs.size) "set":= ⟨_,hS,rfl⟩;have qv:=ud.init.lookup;have q1:=ud.init.bind (.ref s.heap.objs.size)
   repeat (any_goals (first|assumption|wp_step))
   refine ue (codeAny_call_builtin (R:=wants (λr G=>r=.none/\R G) E) ud.init.plain F.entry_set_init (check_set_init_1 hT ?_)) λqk G Z=>?_
   .unfold Builtin.«set.__init__» noKeywords
    generalize hUF:Builtin.Frozenset.updateFrom=UF at qq⊢;unfold zg at hS hT qq⊢
    wp_walk
    exact iz qq (λ_ s' hr=>aj ⟨rfl,hr⟩) (λe s' he=>he)
   .cases qk with
    |error e=>exact Z
    |ok L =>
     cases L with
     |ret r =>
      obtain⟨rfl,hq⟩:=Z
      repeat (any_goals (first|assumption|wp_step))
      exact h _ hq
     |_=>exact Z.elim
  |_=>exact hr.elim
end
open PyProof.Rows (F.entry_set_update_loop F.plain_set_update_loop)
section
variable{prog:Program}{w:World}{K:Type}[DecidableEq K]{knd:KeyKind prog w K}{pk:List K×Addr->Prop}{A:Around}{E:Y3}{s:Shared}
def Tq{wr:Xt}(G:IsTupleKey knd h U p)(Z:p∉wr)(L:∀b o,b∉wr->h.get? b=some o->h'.get? b=some o):IsTupleKey knd h' U p:=
 let ⟨o,items,n,ho,r⟩:=G;⟨o,items,n,L p o Z ho,r⟩
def Cz.moved{wr:Xt}(hS:Cz knd pk h a S n)(ha:a∉wr)(hw:∀(b:Addr) (U:List K),b∈wr->¬IsTupleKey knd h U b)(G:∀b o,b∉wr->h.get? b=some o->h'.get? b=some o):Cz knd pk h' a S n:=
 let ⟨xs,o,es,ep,t,X,r⟩:=hS
 ⟨xs,o,es,ep,t,⟨G a o ha X.get,X.exa,X.dat,X.tab,X.ent,λx Z=>⟨Tq (X.keys x Z).1 (λL=>hw _ _ L (X.keys x Z).1) G,(X.keys x Z).2⟩,X.nod,X.led,X.Zi⟩,r⟩
def aup(zz:Tn knd pk){I:Addr}{P:Nat->Value->Prop}(hu:A.in1.units<cLine)(W:WalksS prog w A.in1 I fp wr G n P St)(a:Addr)(q1:a∉fp)(Z:List (List K×Addr))(q0:Z.length=n)(z2:∀i v x,P i v->Z[i]?=some x->v=.ref x.2)(z1:∀x∈Z,pk x)(hb:n<31)(z3:∀x∈Z,x.2∉wr)(qv:∀i (s:Shared),St i s->∀(b:Addr) (Z:List K),b∈wr->¬IsTupleKey knd s.heap Z b) :
 ∀(k i n':Nat)(s:Shared),n-i=k->i<=n->St i s->(∀x∈Z,IsTupleKey knd s.heap x.1 x.2) ->
  Cz knd pk s.heap a (λk'=>k'∈(Z.take i).map (·.1)) n'->n'<=i ->
  (∀U q7,Moved (a::wr) G s U->Cz knd pk U.heap a (λk'=>k'∈Z.map (·.1)) q7->R (.ok (.ret .none)) U) ->
  codeAny (model prog w) A (.builtin "set.update.loop" ⟨[.ref a,.ref I],[]⟩) R s:=by
 have q2:a∉wr:=λh=>q1 (W.sub _ h)
 have q4:∀b∈wr,b∈a::wr:=λb hb=>bx _ hb
 intro k
 induction k with
 |zero =>
  intro i n' s hk hi Yx Wf hS Q9 hR;have zk:i=n:=by lia
  subst zk;refine jy qz ?_;rw[jm j8 _];show wpAny _ A.in1 (pyNext (.ref I)>>=_) _ _ s;refine aa (W.done s _ _ Yx λU hm=>?_);show wpAny _ A.in1 (ret Value.none) _ _ U;refine aj (hR U n' (hm.mono q4) ((hS.moved q2 (qv _ s Yx) hm.heap).congr λk=>?_));rw[yp (f_ q0)]
 |succ k ih =>
  intro i n' s hk hi Yx Wf hS Q9 hR;have G5:i<n:=by lia
  refine jy qz ?_;rw[jm j8 _];show wpAny _ A.in1 (pyNext (.ref I)>>=_) _ _ s;refine aa (W.item i s _ _ G5 Yx λv U hP q8 hm=>?_);have lx:i<Z.length:=b_ G5 (g_ q0)
  have q3:Z[i]?=some Z[i]:=by simp[lx]
  obtain rfl:=z2 i v _ hP q3;have qk:=ph lx;have Mf:=hS.moved q2 (qv _ s Yx) hm.heap;have qq:∀x∈Z,IsTupleKey knd U.heap x.1 x.2:=λx hx=>Tq (Wf x hx) (z3 x hx) hm.heap
  show wpAny _ A.in1 (holding [Value.ref Z[i].2] (setAdd a (.ref Z[i].2))>>=_) _ _ U;refine aa (fu ?_);unfold setAdd;refine fu ?_;refine aa (wpAny_pyHash_tuple hu (qq _ qk) ?_);refine ant (s:={ U with toks:=U.toks+(Z[i].1.length+1) }) zz hu (qq _ qk) (z1 _ qk) Mf (by lia) λh' n2 b L z4 Yy=>?_
  obtain⟨oa,z9,yk,ta,q6,z5,zw,yy⟩:=Mf.get;refine aj ⟨vm j8 _,ih (i+1) n2 _ (by lia) G5 (W.frame _ U _ _ q8 (Aq _ _) λb hb o e=>?_) (λx hx=>anr (qq x hx) q6 zw L) (z4.congr λk=>?_) (a_ Yy (v_ Q9)) λz0 n3 q5 zv=>?_⟩
  .rw[L.2 b (λh:b=a=>q1 (by rw[<-h];exact hb))];exact e
  .rw[List.take_add_one,qj,du,q3];simp
  .refine hR z0 n3 (Moved.trans W.gtrans ((hm.mono q4).then_heap (Aq _ _) λb o hb e=>?_) q5) zv
   rw[L.2 b (λh:b=a=>hb (by rw[h];exact dh))];exact e
def anz(q4:Tn knd pk){id:String}{ks:List (List K×Addr)}(hh:A.handled=none)(hu:A.in1.units+1<cLine)(hS:Cz knd pk s.heap a (λ_=>False) 0)(hl:s.heap.IsList l items)(qk:items.toList=ks.map λx=>.ref x.2)(Wf:∀x∈ks,IsTupleKey knd s.heap x.1 x.2)(q7:∀x∈ks,pk x)(qv:ks.length<31)(h:∀h' tk n',(∀b o,b≠a->s.heap.get? b=some o->h'.get? b=some o)->Cz knd pk h' a (λk=>k∈ks.map (·.1)) n'->Q () { s with heap:=h',toks:=tk }) :
 wpAny (model prog w) A (Builtin.Frozenset.updateFrom id a (.ref l)) Q E s:=by
 have hT:s.TypeIs (.ref l) "list":= let ⟨o,Z,U,_⟩:=hl;⟨o,Z,U⟩;have q0:items.size=ks.length:=by rw[<-jr,qk];simp
 obtain⟨oa,zw,z1,ta,G,zv,qq,z0⟩:=hS.get;unfold Builtin.Frozenset.updateFrom;refine aa (G6 hT F.sub_list_set F.sub_list_frozenset ?_);simp only[bw,gm];refine aa (uf hT ?_);rw[bc (by decide)];refine aa (wpAny_pyIter_list hl ?_);refine aa (wpAny_runValue ?_);have G5:l<s.heap.objs.size:=let ⟨o,Z,_⟩:=hl;aq Z
 have zk:a<s.heap.objs.size:=aq G
 have q1:l≠a:=by rintro rfl;obtain⟨o,Z,_,n,hd⟩:=hl;rw[Z]at G;cases G;rw[hd]at qq;cases qq
 have q3:l≠s.heap.objs.size:=dq G5;have q5:a∉[s.heap.objs.size,l]:=by simp only[cj,uo,or_false,not_or];exact⟨dq zk,λe=>q1 e.symm⟩
 have keep:∀b o,s.heap.get? b=some o->(s.heap.push { cls:=.type "list_iterator",data:=.fields #[.ref l,.int 0 0] }).get? b=some o:=λb o e=>ao _ e
 refine aup q4 (by lia) ((Walks.list (by simp[hh]) _ l q3 items).toS) a q5 ks q0.symm (λi v x hv hx=>?_) q7 (c_ (f_ q0) qv) (λx hx U=>?_) (λi s' st b kk hb q6=>?_) items.size 0 0 _ rfl (iy _)
  ⟨⟨_,bu _ rfl,rfl,rfl⟩,hl.push _⟩ (λx hx=>Tq (wr:=[]) (Wf x hx) (by simp) λb o _ e=>keep b o e) ?_ (cg _) ?_
 .have:items.toList[i]?=some v:=by simpa using hv
  rw[qk,dm,hx]at this;exact(ie this).symm
 .simp at U
  obtain⟨o,_,_,Z,_⟩:=Wf x hx;have:=aq Z;rw[U]at this;exact qd _ this
 .simp at hb
  subst hb;obtain⟨o,_,_,Z,U,_⟩:=q6;obtain⟨⟨o',Tf,L,_⟩,_⟩:=st;rw[Z]at Tf;cases Tf;rw[U]at L;exact absurd L (by decide)
 .refine(hS.moved (wr:=[]) (by simp) (by simp) λb o _ e=>keep b o e).congr λk=>by simp
 .intro s' q2 hm Mf
  obtain⟨h',g',d',zz,q8⟩:=s';have eg:g'=s.gens:=hm.gens;have ed:d'=s.drawn:=hm.drawn;have eo:q8=s.os:=hm.os;subst eg;subst ed;subst eo;show wpAny _ _ _ _ _ _;refine aj (h h' zz q2 (λb o hb e=>?_) Mf);refine hm.heap b o ?_ (keep b o e);simp only[cj,uo,or_false,not_or];exact⟨hb,dq (aq e)⟩
end
theorem Wg{Z:Type}:∀{l:List Z}{i:Nat}(h:i<l.length),(l[i]::l.eraseIdx i).Perm l
 |x::l,0,_=>m9 _
 |x::l,i+1,h=>by
  have G:=Wg (l:=l) (i:=i) (by simpa using h);simp only[List.getElem_cons_succ,List.eraseIdx_cons_succ];exact(List.Perm.swap x _ _).trans (G.cons x)
theorem aib{U:Type}(nx:Nat->Nat):∀(G k:Nat)(Z:List U)(out:Array U),Z.length=G->(pickOrder.go nx G k Z out).toList.Perm (out.toList++Z)
 |0,k,Z,out,h=>by
  have:Z=[]:=o7.mp h;subst this;unfold pickOrder.go;simp
 |G+1,k,Z,out,h=>by
  unfold pickOrder.go;have L:nx k%Z.length<Z.length:=Nat.mod_lt _ (by lia)
  rw[dz L];dsimp only;refine(aib nx G (k+1) _ _ (by rw[List.length_eraseIdx];split<;>lia)).trans ?_;rw[Array.toList_push,Ah];refine List.Perm.append_left _ ?_;exact Wg L
def Zj(nx:Nat->Nat)(Z:Array α):(pickOrder nx Z).toList.Perm Z.toList:=by unfold pickOrder;simpa using aib nx Z.size 0 Z.toList #[] (by simp)
theorem Wh{G:Type}[DecidableEq G]:∀{Z l2:List G},Z.Nodup->Z ⊆ l2->l2.length<=Z.length->∀x∈l2,x∈Z
 |[],l2,_,_,h,x,hx=>by
  have:l2=[]:=o7.mp (by simpa using h);subst this;simp at hx
 |a::Z,l2,hn,hs,h,x,hx=>by
  by_cases e:x=a
  .subst e;exact dh
  .refine bx _ ?_
   have ha:a∈l2:=hs dh;have L:=ju.mp hn;refine Wh (l2:=l2.erase a) L.2 (λy U=>?_) ?_ x ((Aj e).mpr hx)
   .exact(Aj (λ(e:y=a)=>L.1 (by rw[<-e];exact U))).mpr (hs (bx _ U))
   .rw[List.length_erase_of_mem ha];simp at h;omega
def aay:entryFor table "set.__ne__"= some Builtin.«frozenset.__ne__»:=
 entryFor_alias (id' :="frozenset.__ne__") (by kernel_rfl) rfl (by decide+kernel) (by kernel_rfl)
def sub_set_frozenset:isSubtype (.type "set") (.type "frozenset")=pure false:=by rw[qt];kernel_rfl
section
variable{prog:Program}{w:World}{K:Type}[DecidableEq K]{knd:KeyKind prog w K}{pk:List K×Addr->Prop}{A:Around}{E:Y3}{s:Shared}
set_option tactic.hygienic true in
def aus(X:Tp knd pk s.heap a C o Z U t)(h:∀l,l.toList.Perm Z.toList->Q l s):wpAny (model prog w) A (setWalk a) Q E s:=by
 unfold setWalk;refine aa (f9 X.get X.dat X.tab.fits ?_);dsimp only;refine aa (J8 ?_);split
 .exact aa (yq (aj (h _ (Zj _ _))))
 .rename_i G
  have G:bt w=false:=by simpa using G
  split
  .rename_i Y
   have Y:(!t.plain&&decide (Z.size > 1))=true:=Y;rw[X.Zi]at Y;cases Y
  .refine aa ?_
   have:wpAny (model prog w) A (if(!t.led&&decide (Z.size > 1))=true then unsupported "set:maker-not-led" else pure ()) (λ_ J=>wpAny (model prog w) A (pure Z) Q E J) E s:=by rw[X.led,G];simp only[uz,jc,Bool.false_and,bw,gm];exact aj (aj (h Z (m9 _)))
   exact this
def akx(Z:IsTupleKey knd s.heap G a)(h:Q false s):wpAny (model prog w) A (Builtin.Frozenset.quietEq (.ref a)) Q E s:=by
 unfold Builtin.Frozenset.quietEq;refine aa (o4 Z.typeIs v9.lookup ?_);refine aj ?_;have:(some (Value.builtin "tuple.__eq__")==some (Value.builtin "object.__eq__"))=false:=by decide
 rw[this];exact h
def aaz(X:Tp knd pk h a G o L ep t)(Z:e∈L.toList):∃x∈G,e=ent knd x:=by rw[X.ent]at Z;obtain⟨x,U,rfl⟩:=bf.mp Z;exact⟨x,U,rfl⟩
def aky(X:Tp knd pk s.heap a xs o es ep t)(Y:Tp knd pk s.heap b ys o' qv qk t')(h:∀l:List (Int×Value),l.Perm es.toList->Q l s):wpAny (model prog w) A (Builtin.Frozenset.walkUnseen a b) Q E s:=by
 unfold Builtin.Frozenset.walkUnseen;refine aa (j7 X.get X.dat X.tab.fits ?_);refine aa (j7 Y.get Y.dat Y.tab.fits ?_);refine aa ?_;refine jf _ (λZ r U=>r.1=none/\U=s/\∀e∈Z,∃ks p,e.2=.ref p/\IsTupleKey knd s.heap ks p) _ ?_ ?_ _ _ ⟨rfl,rfl,λe G=>?_⟩
 .rintro e Z r U ⟨hr,rfl,Dh⟩
  obtain⟨ks,p,qq,hk⟩:=Dh e dh;obtain⟨h0,x0⟩:=e;subst qq;dsimp only;refine aa (akx hk ?_);simp only[uz,jg];unfold Builtin.Frozenset.walk;refine aa (aa (aus X λl hl=>aj ?_));exact aj (aj (h _ hl))
 .rintro⟨r1,r2⟩ U ⟨hr,rfl,_⟩
  simp only at hr;subst hr;exact aj (h _ (m9 _))
 .rcases du.mp G with G|G
  .obtain⟨x,L,rfl⟩:=aaz X G
   exact⟨x.1,x.2,rfl,(X.keys x L).1⟩
  .obtain⟨x,L,rfl⟩:=aaz Y G
   exact⟨x.1,x.2,rfl,(Y.keys x L).1⟩
def a05{id:String}(hu:A.units<cLine)(hS:Cz knd pk s.heap a S n)(hT:Cz knd pk s.heap b T m)(h:∀c:Bool,(c=true↔n<=m/\∀k,S k->T k)->Q c s):wpAny (model prog w) A (Builtin.Frozenset.subsetOf id a b) Q E s:=by
 have qq:=hT;obtain⟨xs,o,es,ep,t,X,hm,hn,_⟩:=hS;obtain⟨ys,o',q0,qv,t',Y,q1,Q9,_⟩:=hT;have h1:=X.size;have h2:=Y.size;unfold Builtin.Frozenset.subsetOf Builtin.Frozenset.sizeOf;refine aa (aa (j7 X.get X.dat X.tab.fits (aj ?_)));refine aa (aa (j7 Y.get Y.dat Y.tab.fits (aj ?_)));split
 .exact aj (h false (by simp;lia))
 .refine aa (wpAny_setEpoch_of X.get X.dat X.tab.fits ?_)
  refine aa (aky X Y λl hl=>?_);refine aa ?_;refine jf _ (λG r s'=>r.1=none/\s'=s/\(∀e∈G,∃x∈xs,e=ent knd x)/\∀x∈xs,ent knd x∈G\/T x.1) _ ?_ ?_ _ _ ⟨rfl,rfl,λe he=>aaz X (hl.mem_iff.mp he),λx U=>.inl (hl.mem_iff.mpr (by rw[X.ent];exact bf.mpr ⟨x,U,rfl⟩))⟩
  .rintro e G r s' ⟨hr,rfl,Dh,L⟩
   obtain⟨x,U,rfl⟩:=Dh e dh;show wpAny _ _ (holding [.ref x.2] (setFind b (.ref x.2) (tupleKeyHash knd x.1))>>=_) _ _ _;refine aa (fu (auh hu (X.keys x U).1 qq λr hr=>?_));cases r with
   |none =>
    simp only[Option.isNone_none,jg];refine aj (aj (h false ?_));simp only[bw,false_iff,not_and,Classical.not_forall];intro _;refine⟨x.1,(hm x.1).mpr (bf.mpr ⟨x,U,rfl⟩),λZ=>?_⟩;have:=hr.mpr Z;cases this
   |some i =>
    simp only[Option.isNone_some,bw,gm];unfold Builtin.Frozenset.unchanged;refine aa (aa (wpAny_setEpoch_of X.get X.dat X.tab.fits ?_));rw[bc (by simp)];refine aj (aj ⟨rfl,rfl,λe he=>Dh e (bx _ he),λy hy=>?_⟩);rcases L y hy with Z|Z
    .rcases cj.mp Z with Z|Z
     .right
      have qk:T x.1:=hr.mp rfl;have e2:y.2=x.2:=by have:=lg Prod.snd Z;unfold ent at this;injection this
      have:y.1=x.1:=IsTupleKey.inj (X.keys y hy).1 (by rw[e2];exact(X.keys x U).1);rw[this];exact qk
     .exact .inl Z
    .exact .inr Z
  .rintro⟨r1,r2⟩ s' ⟨hr,rfl,_,L⟩
   simp only at hr;subst hr;refine aj (h true ?_);simp only[true_iff];refine⟨by lia,λk hk=>?_⟩;obtain⟨x,U,rfl⟩:=bf.mp ((hm k).mp hk);rcases L x U with Z|Z
   .simp at Z
   .exact Z
set_option tactic.hygienic true in
def a8o(hu:A.in1.units<cLine)(qq:A.units<cLine)(G:Cz knd pk s.heap a S n)(C:Cz knd pk s.heap b T m)(h:∀c:Bool,(c=true↔¬∀k,S k↔T k)->Q (.bool c) s):wpAny (model prog w) A (compareOp .NotEq (.ref a) (.ref b)) Q E s:=by
 show wpAny _ _ (richCompare .NotEq (.ref a) (.ref b)) _ _ _;refine wpAny_richCompare_same_room (op:=.NotEq) G.typeIs C.typeIs F.slot_set_ne (gh F.slot_set_ne G.typeIs aay ?_ (F.args_set_ne_2 _ _)) qq;have fin:∀c:Bool,(c=true↔∀k,S k↔T k)->Q (.bool !c) s:=λc hc=>h _ (by cases c<;>simp_all)
 have Mf:=G;have y:=C;obtain⟨xs,o,es,ep,t,X,u,L,_⟩:=Mf;obtain⟨ys,o',qv,qk,t',Y,Z,R,_⟩:=y;have h1:=X.size;have h2:=Y.size;have same:(∀k,S k↔T k)->n=m:=λe=>by
  have:(xs.map (·.1)).Perm (ys.map (·.1)):=(List.perm_ext_iff_of_nodup X.nod Y.nod).mpr λk=>by rw[<-u k,<-Z k];exact e k
  have:=this.length_eq;simp at this;exact u_ (a_ (g_ L) (a_ (f_ this) (f_ R))) (a_ (g_ R) (a_ (g_ this) (f_ L)))
 have J:n=m->(∀k,S k->T k)->∀k,S k↔T k:=λe hs k=>⟨hs k,λhk=>(u k).mpr (Wh X.nod (λk hk=>(Z k).mp (hs k ((u k).mpr hk))) (by simp;exact a_ (f_ R) (a_ (g_ e) (g_ L))) k ((Z k).mp hk))⟩
 show wpAny _ _ (Builtin.Frozenset.slot1 "__ne__" ⟨[.ref a,.ref b],[]⟩>>=_) _ _ _;unfold Builtin.Frozenset.slot1 slotArgs;simp only[List.isEmpty_nil,jc,bw,↓reduceIte,bind_assoc,gq,Ba,qb];refine aa (aj ?_)
 try dsimp only
 refine aa (aj ?_)
 try dsimp only
 refine aa (auk C.typeIs ?_);simp only[jc,bw,↓reduceIte];refine aa (m:=Builtin.Frozenset.addrOf (.ref a)) (aj ?_);refine aa (m:=Builtin.Frozenset.addrOf (.ref b)) (aj ?_);unfold Builtin.Frozenset.sizeOf;refine aa (aa (j7 X.get X.dat X.tab.fits (aj ?_)));refine aa (aa (j7 Y.get Y.dat Y.tab.fits (aj ?_)));refine aa ?_;split
 .rename_i Q3
  refine aj ?_;refine aj ⟨_,rfl,(λe=>nomatch e),fin false ?_⟩;simp only[bw,false_iff];intro e;have:=same e;simp at Q3;lia
 .rename_i Q3
  have U:n=m:=by simp at Q3;lia
  refine aa (aa (iu G.typeIs sub_set_frozenset ?_));refine aj ?_;simp only[bw,↓reduceIte];refine a05 hu G C λc hc=>?_
  exact aj ⟨_,rfl,(λe=>nomatch e),fin c (hc.trans ⟨λe=>J U e.2,λe=>⟨f_ U,λk=>(e k).mp⟩⟩)⟩
end
def aa0{prog:Program}{w:World}{A:Around}{G:Type}{Q:G->Shared->Prop}{E:Y3}{s:Shared}(U:A.handled=none)(q:∀Z x,(∀b o,s.heap.get? b=some o->Z.get? b=some o)->(∃o,Z.get? x=some o/\o.cls=.type "StopIteration")->E (.ref x) { s with heap:=Z }):wpAny (model prog w) A (newExc (.type "StopIteration") []>>=raiseNew) Q E s:=by simp only[newExc,newTuple];refine aa (aa (lz (aa (m:=firstArgMember _ _) (wpAny_of_eq (a:=Value.none) (by first|rfl|(simp only[firstArgMember];rfl)) (lz ?_ (by size_fits)))) (by size_fits)));simp only[raiseNew];refine aa (wpAny_handled ?_);rw[U];exact aa (aj (wpAny_throw (q _ _ (λb o e=>ao _ (ao _ e)) ⟨_,bu _ rfl,rfl⟩)))
def aut(k:Yr t Z)(F:Fst t h N)(room:t.place.size+1<=t.mask) :
 layNew t Z h x=(insertAt Z (t.put (P t.mask h N).j).2 (h,x),(t.put (P t.mask h N).j).1,false,false):=by
 have e:t.freeSlot h=some ((P t.mask h N).j,false):=by
  unfold freeSlot probe;rw[ac4];rcases anj k F (λ_=>h+1) (10*turns t.mask) 0 (iy _) (by have:=F.lt;exact c_ C_ this)with⟨a,_⟩|⟨m,i,_,_,_,c,_⟩
  .rw[a];rfl
  .lia
 have f:=(k.put (x:=x) F room).fits;unfold layNew;rw[e];show(insertAt Z (t.put (P t.mask h N).j).2 (h,x),(t.put (P t.mask h N).j).1.orStandIn (insertAt Z (t.put (P t.mask h N).j).2 (h,x)).size,false,!(t.put (P t.mask h N).j).1.fits (insertAt Z (t.put (P t.mask h N).j).2 (h,x)).size)=_;unfold orStandIn;rw[bz f,f];rfl
def akz(hm:Msk (sizeAbove wanted-1))(hz:es.size<=sizeAbove wanted-1) :
 ∃G t',relayAll t es wanted=(G,t',false)/\t'.mask=sizeAbove wanted-1/\Yr t' G/\G.toList.Perm es.toList/\t'.led=t.led/\t'.plain=t.plain:=by
 obtain⟨t',Z,e,e1,L,p,sz,hl,hp,_,U⟩:=Vx hm t.finger (t.movedTo (sizeAbove wanted-1)) t.led t.plain es hz;have er:t.relaid (es.map (·.1)) wanted=some (t',Z):=e;refine⟨Z.filterMap (es[·]?),t',?_,e1,L,p,hl,hp⟩;unfold relayAll;rw[er];dsimp only;rw[bz];rw[au];exact⟨by unfold coversAll;exact List.isPerm_iff.mpr U,L.fits⟩
noncomputable def enI(x:Int×Tok):Int×Value:=(hashInt x.1,.int x.1 x.2)
structure Bw(w:World)(h:Heap)(a:Addr)(xs:List (Int×Tok))(o:Obj)(es:Array (Int×Value))(ep:Nat)(t:SetTable):Prop where
 get:h.get? a=some o
 exa:o.ExactSet
 dat:o.data=.set es ep t
 tab:Yr t es
 ent:es.toList=xs.map enI
 nod:(xs.map (·.1)).Nodup
 led:t.led=!bt w
 Zi:t.plain=true
def za(w:World)(h:Heap)(a:Addr)(S:Int->Prop)(n:Nat):Prop:=∃Z o U G t,Bw w h a Z o U G t/\(∀k,S k↔k∈Z.map (·.1))/\Z.length=n/\t.place.size*5<t.mask*3
theorem Bw.size(X:Bw w h a Z o G U t):G.size=Z.length:=by have:=lg List.length X.ent;simpa using this
def Bw.elems(X:Bw w h a U o G L t):ElemsOf (intKind prog w) G.toList:=λe Z=>by rw[X.ent]at Z;obtain⟨x,_,rfl⟩:=bf.mp Z;exact⟨⟨x.1,by simp[enI,intKind,Value.isInt],rfl⟩,rfl⟩
def auu(X:Bw w h a xs o es U t)(T':Yr t' Z)(he:Z.toList=G.map enI)(hn:(G.map (·.1)).Nodup)(hl:t'.led=!bt w)(L:t'.plain=true) :
 Bw w (h.update a (Obj.putSet Z t')) a G { o with data:=.set Z (U+1) t' } Z (U+1) t':=by
 have hg:(h.update a (Obj.putSet Z t')).get? a=some { o with data:=.set Z (U+1) t' }:=by have:=jz (Obj.putSet Z t') X.get (by rw[putSet_of Z t' X.dat];rfl);rw[putSet_of Z t' X.dat]at this;exact this
 exact⟨hg,X.exa,rfl,T',he,hn,hl,L⟩
theorem za.get(U:za w h a S n):∃o Z G t,h.get? a=some o/\o.ExactSet/\o.data=.set Z G t/\t.fits Z.size=true:=
 let ⟨_,o,Z,G,t,X,_⟩:=U;⟨o,Z,G,t,X.get,X.exa,X.dat,X.tab.fits⟩
theorem agk:∀{a b:U1},a.Nodup->(∀x∈a,x∈b)->a.length<=b.length
 |[],_,_,_=>iy _
 |x::a,b,h,s=>by
  obtain⟨G,U⟩:=ju.mp h;have:=agk (b:=b.erase x) U λy Z=>(Aj (λe:y=x=>G (e▸Z))).mpr (s y (.tail _ Z))
  rw[List.length_erase_of_mem (s x (.head _))]at this;have:=List.length_pos_of_mem (s x (.head _));rw[gq];lia
def za.le(G:za w h a S n){B:U1}(L:∀k,S k->k∈B):n<=B.length:=by obtain⟨xs,o,es,ep,t,X,U,rfl,_⟩:=G;rw[<-dg (f:=(·.1))];exact agk X.nod λk Z=>L k ((U k).mpr Z)
def za.congr(Z:za w h a S n)(e:∀k,S k↔G k):za w h a G n:=
 let ⟨xs,o,es,ep,t,X,hm,r⟩:=Z;⟨xs,o,es,ep,t,X,λk=>(e k).symm.trans (hm k),r⟩
def za.moved(G:za w h a S n)(U:∀o,h.get? a=some o->Z.get? a=some o):za w Z a S n:=
 let ⟨xs,o,es,ep,t,X,r⟩:=G
 ⟨xs,o,es,ep,t,⟨U o X.get,X.exa,X.dat,X.tab,X.ent,X.nod,X.led,X.Zi⟩,r⟩
def ac9(Z:h.get? a=some (zg w)):za w h a (λ_=>False) 0:=
 ⟨[],zg w,#[],0,_,⟨Z,⟨rfl,rfl,rfl⟩,rfl,⟨.inl rfl,rfl,rfl,λi j a b e=>by simp[SetTable.fresh]at e,λi j e=>by simp[SetTable.fresh]at e,by simp[SetTable.fresh],λi j e a=>by simp[SetTable.fresh]at a⟩,
  rfl,wk,rfl,rfl⟩,λk=>by simp,rfl,by simp[SetTable.fresh]⟩
def aic(hS:za w s.heap a S n)(hn:n+1<32)(h:∀h' n' b,Heap.SameBut a s.heap h'->za w h' a (λU=>S U\/U=k) n'->n'<=n+1->Q b { s with heap:=h' }) :
 wpAny (model prog w) A (setAddHashed a (.int k tk) (hashInt k)) Q E s:=by
 obtain⟨xs,o,G,ep,t,X,hm,hl,nf⟩:=hS;obtain⟨N,F⟩:=X.tab.fst (hashInt k);have z2:=X.size;have q5:=X.elems (prog:=prog);have q7:(intKind prog w).is k (.int k tk)=true:=by simp[intKind,Value.isInt]
 unfold setAddHashed setAddHashedIn;refine fu (aa (f9 X.get X.dat X.tab.fits ?_));dsimp only;rw[byScan_of (knd:=intKind prog w) (x:=.int k tk) rfl (by unfold scanBound;lia) q5];simp only[↓reduceIte];unfold setAddByScan;refine aa ?_;refine aa (qx ?_);refine aa (wpAny_setScan_of (knd:=intKind prog w) (k:=k) q7 X.get X.dat X.tab.fits q5 ?_);cases hr:List.findIdx? (λe=>(intKind prog w).is k e.2) G.toList with
 |some j =>
  dsimp only;obtain⟨hj,q8,_⟩:=ug.mp hr;have zk:S k:=by
   obtain⟨x,hx,ex⟩:∃x∈xs,enI x=G.toList[j]:=by have Ib:=ph hj;generalize G.toList[j]=e at Ib;rw[X.ent]at Ib;exact bf.mp Ib
   have z3:(intKind prog w).is k (enI x).2=true:=by rw[ex];exact q8
   refine(hm k).mpr (bf.mpr ⟨x,hx,?_⟩);have:(intKind prog w).is x.1 (enI x).2=true:=by simp[enI,intKind,Value.isInt]
   exact(intKind prog w).inj _ _ _ this z3
  refine aj (aj ?_);have:=h s.heap n false (yc a s.heap) ⟨xs,o,G,ep,t,X,λU=>by
   rw[<-hm U];exact⟨λh=>h.elim id (λe=>e▸zk),.inl⟩,hl,nf⟩ x_
  exact this
 |none =>
  dsimp only;have z1:∀x∈xs,x.1≠k:=λx hx e=>by have:=yz.mp hr (enI x) (by rw[X.ent];exact bf.mpr ⟨x,hx,rfl⟩);subst e;simp[enI,intKind,Value.isInt]at this
  have room:t.place.size+1<=t.mask:=by have:=X.tab.msk;rcases this with e|e|e|e|e<;>lia
  have T':=X.tab.put (x:=.int k tk) F room;rw[aut X.tab F room];have Hz:(t.put (P t.mask (hashInt k) N).j).1.plain=true:=X.Zi;have q1:(t.put (P t.mask (hashInt k) N).j).1.led=!bt w:=X.led;obtain⟨L,ex,px⟩:=Av (f:=enI) (insertAt_perm G (t.put (P t.mask (hashInt k) N).j).2 (hashInt k,.int k tk)) (xs:=xs++[(k,tk)]) (by rw[Array.toList_push,X.ent,qj];rfl);have pm:=px.map (·.1);have q3:(L.map (·.1)).Nodup:=pm.nodup_iff.mpr (by
   rw[qj,xu];refine⟨X.nod,by simp,λa ha b hb=>?_⟩;simp at hb;subst hb;rintro rfl;obtain⟨x,hx,e⟩:=bf.mp ha;exact z1 x hx e)
  have hX:=auu X T' ex q3 q1 Hz;have Ib:∀U,(S U\/U=k)↔U∈L.map (·.1):=λU=>by rw[pm.mem_iff,qj,du,hm U];simp
  have qk:L.length=n+1:=by rw[px.length_eq];simp[hl]
  have qq:(insertAt G (t.put (P t.mask (hashInt k) N).j).2 (hashInt k,Value.int k tk)).size=G.size+1:=Ma _ _ _;have q6:(t.put (P t.mask (hashInt k) N).j).1.place.size=G.size+1:=by rw[T'.Ur,qq]
  have hf:(t.put (P t.mask (hashInt k) N).j).1.fill=G.size+1:=by unfold fill;rw[q6,T'.dum];rfl
  generalize insertAt G (t.put (P t.mask (hashInt k) N).j).2 (hashInt k,Value.int k tk)=es1 at *;generalize(t.put (P t.mask (hashInt k) N).j).1=t1 at *;dsimp only;refine aa (aj ?_);rw[Hz];simp only[jg];refine aa ?_;rw[hashByValue_scannable 8 (x:=.int k tk) rfl];refine aj ?_;have z0:plainKind (.int k tk)=true:=rfl;simp only[z0,jg];refine aa (ux X.get X.dat ?_ (Dk (by lia)))
  by_cases Z:t1.tooFull=true
  .rw[Z]
   simp only[uz,Bool.and_self,jg];obtain⟨g1,g2,g3,g4,g5⟩:=Zh (G.size+1) (c_ (v_ (f_ z2)) (c_ (v_ (f_ hl)) hn));obtain⟨q4,t2,e2,m2,T2,p2,l2,q2⟩:=akz (t:=t1) (es:=es1) (wanted:=grown (G.size+1)) g1 (a_ (f_ qq) g2);rw[qq,e2];dsimp only;refine aa (aj ?_);obtain⟨zw,zv,qv⟩:=Av p2 ex;have zz:=auu hX T2 zv ((qv.map _).nodup_iff.mpr q3) (l2.trans q1) (q2.trans Hz);have q0:q4.size=G.size+1:=by have:=p2.length_eq;simp at this;exact this.trans qq
   refine aa (ux hX.get rfl ?_ (Dk (a_ (f_ q0) (a_ g2 (a_ C_ g5)))));refine aj (aj (h _ (n+1) true ((gr s.heap a _).trans (gr _ a _)) ⟨zw,_,q4,_,t2,zz,λU=>?_,by rw[qv.length_eq,qk],?_⟩ (cg _)))
   .exact(Ib U).trans (qv.map (·.1)).mem_iff.symm
   .rw[T2.Ur,m2,q0];exact t_ g4
  .rw[Bool.not_eq_true]at Z
   rw[Z];simp only[Bool.and_false,bw,gm];refine aj (aj (h _ (n+1) true (gr s.heap a _) ⟨L,_,_,_,_,hX,Ib,qk,?_⟩ (cg _)));unfold tooFull at Z;rw[hf]at Z;rw[q6];simp at Z;exact Z
def an2{I:Addr}{P:Nat->Value->Prop}(W:WalksS prog w A.in1 I fp wr G n P St)(a:Addr)(q1:a∉fp)(U:U1)(qv:U.length=n)(zk:∀i v x,P i v->U[i]?=some x->∃tk,v=.int x tk){B:U1}(hB:∀k∈U,k∈B)(L:B.length<31) :
 ∀(k i n':Nat)(s:Shared),n-i=k->i<=n->St i s ->
  za w s.heap a (λk'=>k'∈U.take i) n'->n'<=B.length ->
  (∀Z q0,Moved (a::wr) G s Z->za w Z.heap a (λk'=>k'∈U) q0->q0<=B.length->R (.ok (.ret .none)) Z) ->
  codeAny (model prog w) A (.builtin "set.update.loop" ⟨[.ref a,.ref I],[]⟩) R s:=by
 have q2:a∉wr:=λh=>q1 (W.sub _ h)
 have q4:∀b∈wr,b∈a::wr:=λb L=>bx _ L
 intro k
 induction k with
 |zero =>
  intro i n' s hk hi Yx hS Q9 hR;have q7:i=n:=by lia
  subst q7;refine jy qz ?_;rw[jm j8 _];show wpAny _ A.in1 (pyNext (.ref I)>>=_) _ _ s;refine aa (W.done s _ _ Yx λZ hm=>?_);show wpAny _ A.in1 (ret Value.none) _ _ Z;refine aj (hR Z n' (hm.mono q4) ((hS.moved λo=>hm.heap a o q2).congr λk=>?_) Q9);rw[yp (f_ qv)]
 |succ k ih =>
  intro i n' s hk hi Yx hS Q9 hR;have G5:i<n:=by lia
  refine jy qz ?_;rw[jm j8 _];show wpAny _ A.in1 (pyNext (.ref I)>>=_) _ _ s;refine aa (W.item i s _ _ G5 Yx λv Z hP q6 hm=>?_);have lx:i<U.length:=b_ G5 (g_ qv)
  have q3:U[i]?=some U[i]:=by simp[lx]
  obtain⟨tk,rfl⟩:=zk i v _ hP q3;have Mf:=hS.moved λo=>hm.heap a o q2
  show wpAny _ A.in1 (holding [Value.int U[i] tk] (setAdd a (.int U[i] tk))>>=_) _ _ Z;refine aa (fu ?_);unfold setAdd;refine fu ?_;refine aa (wpAny_pyHash_int ?_);refine aic (s:={ Z with toks:=Z.toks+1 }) Mf (by lia) λh' n2 b qk zw Yy=>?_
  have qq:za w h' a (λk=>k∈U.take (i+1)) n2:=zw.congr λk=>by rw[List.take_add_one,du,q3];simp
  refine aj ⟨vm j8 _,ih (i+1) n2 _ (by lia) G5 (W.frame _ Z _ _ q6 (Aq _ _) λb L o e=>?_) qq (qq.le λk hk=>hB k (List.mem_of_mem_take hk)) λzz n3 q5 q8 zv=>?_⟩
  .rw[qk.2 b (λh:b=a=>q1 (by rw[<-h];exact L))];exact e
  .refine hR zz n3 (Moved.trans W.gtrans ((hm.mono q4).then_heap (Aq _ _) λb o L e=>?_) q5) q8 zv
   rw[qk.2 b (λh:b=a=>L (by rw[h];exact dh))];exact e
def auv{id T:String}{io lo:Obj}{Z:Q1}{St:Nat->Heap->Prop}(hS:za w s.heap a (λ_=>False) 0)(U:s.heap.get? l=some lo)(hc:lo.cls=.type T)(q0:∀es ep t,lo.data≠.set es ep t)(n1:isSubtype (.type T) (.type "set")=pure false)(n2:isSubtype (.type T) (.type "frozenset")=pure false)(nd:(Value.type T==.type "dict")=false)
 (hi:∀{Q:Y3},Q (.ref s.heap.objs.size) { s with heap:=s.heap.push io }->wpAny (model prog w) A (pyIter (.ref l)) Q E s) (W:l≠s.heap.objs.size->Walks prog w A.in1 s.heap.objs.size [s.heap.objs.size,l] [s.heap.objs.size] Z.size (λi v=>Z[i]?=some v) St) (h0:St 0 (s.heap.push io))
 (L:PyProof.Rows.IntsAre Z.toList ks) {B:U1} (hB:∀k∈ks,k∈B) (qq:B.length<31) (h:∀h' tk n',(∀b o,b≠a->s.heap.get? b=some o->h'.get? b=some o)->za w h' a (λk=>k∈ks) n'->n'<=B.length->Q () { s with heap:=h',toks:=tk }) :
 wpAny (model prog w) A (Builtin.Frozenset.updateFrom id a (.ref l)) Q E s:=by
 have hT:s.TypeIs (.ref l) T:=⟨lo,U,hc⟩;have q7:Z.size=ks.length:=by rw[<-jr];exact PyProof.Rows.IntsAre.length L
 obtain⟨oa,zz,zv,ta,G,q8,q2,zk⟩:=hS.get;unfold Builtin.Frozenset.updateFrom;refine aa (G6 hT n1 n2 ?_);simp only[bw,gm];refine aa (uf hT ?_);rw[bc (by rw[nd];simp)];refine aa (hi ?_);refine aa (wpAny_runValue ?_);have G5:l<s.heap.objs.size:=aq U
 have q6:a<s.heap.objs.size:=aq G
 have qk:l≠a:=by rintro rfl;rw[U]at G;cases G;exact q0 _ _ _ q2
 have q1:a∉[s.heap.objs.size,l]:=by simp only[cj,uo,or_false,not_or];exact⟨dq q6,λe=>qk e.symm⟩
 have keep:∀b o,s.heap.get? b=some o->(s.heap.push io).get? b=some o:=λb o e=>ao _ e
 refine an2 ((W (dq G5)).toS) a q1 ks q7.symm (λi v x hv hx=>?_) hB qq Z.size 0 0 _ rfl (iy _)
  h0 ?_ (iy _) ?_
 .obtain⟨tk,e⟩:=PyProof.Rows.IntsAre.int_at L i v (by rw[ir];exact hv)
  rw[gw,hx]at e;exact⟨tk,e⟩
 .refine(hS.moved λo e=>keep a o e).congr λk=>by simp
 .intro s' qv hm Mf q3
  obtain⟨h',g',d',q5,q4⟩:=s';have eg:g'=s.gens:=hm.gens;have ed:d'=s.drawn:=hm.drawn;have eo:q4=s.os:=hm.os;subst eg;subst ed;subst eo;show wpAny _ _ _ _ _ _;refine aj (h h' q5 qv (λb o hb e=>?_) Mf q3);refine hm.heap b o ?_ (keep b o e);simp only[cj,uo,or_false,not_or];exact⟨hb,dq (aq e)⟩
def an3{id:String}(hh:A.handled=none)(hS:za w s.heap a (λ_=>False) 0)(hl:s.heap.IsTuple l items)(L:PyProof.Rows.IntsAre items.toList ks){B:U1}(hB:∀k∈ks,k∈B)(Z:B.length<31)(h:∀U tk n',(∀b o,b≠a->s.heap.get? b=some o->U.get? b=some o)->za w U a (λk=>k∈ks) n'->n'<=B.length->Q () { s with heap:=U,toks:=tk }) :
 wpAny (model prog w) A (Builtin.Frozenset.updateFrom id a (.ref l)) Q E s:=by
 have G:=hl;obtain⟨o,ho,hc,n,hd⟩:=G;exact auv hS ho hc (λ_ _ _ z=>by rw[hd]at z;cases z) (by rw[qt];kernel_rfl) (by rw[qt];kernel_rfl) (by decide) (wu hl) (λne=>Walks.tuple (by simp[hh]) _ l ne items) ⟨⟨_,bu _ rfl,rfl,rfl⟩,o,ao _ ho,hc,n,hd⟩ L hB Z h
def ak0(hh:A.handled=none)(hl:s.heap.IsTuple l items)(qq:PyProof.Rows.IntsAre items.toList ks){B:U1}(hB:∀k∈ks,k∈B)(L:B.length<31)(h:∀Z U G,(∀b o,s.heap.get? b=some o->Z.get? b=some o)->za w Z s.heap.objs.size (λk=>k∈ks) G->G<=B.length->Q (.ref s.heap.objs.size) { s with heap:=Z,toks:=U }) :
 wpAny (model prog w) A (call (.type "set") [.ref l]) Q E s:=by
 refine Mg (R:=λs'=>∃Z U G,s'={ s with heap:=Z,toks:=U }/\(∀b o,s.heap.get? b=some o->Z.get? b=some o)/\za w Z s.heap.objs.size (λk=>k∈ks) G/\G<=B.length)
  (an3 (s:={ s with heap:=s.heap.push (zg w) }) (by simp[hh]) (ac9 (bu _ rfl)) (let ⟨o,ho,r⟩:=hl;⟨o,ao _ ho,r⟩) qq hB L λZ U G hk Mf Q9=>⟨Z,U,G,rfl,λb o e=>hk b o (dq (aq e)) (ao _ e),Mf,Q9⟩)
  λs' ⟨Z,U,G,e,hk,Mf,Q9⟩=>by subst e;exact h Z U G hk Mf Q9
def Wi:entryFor table "set.__iter__"= some Builtin.«frozenset.__iter__»:=
 entryFor_alias (id' :="frozenset.__iter__") (by kernel_rfl) rfl (by decide+kernel) (by kernel_rfl)
def Bg:Slot "set_iterator" "__next__" "set_iterator.__next__":=
 .of (owner :="set_iterator") (n :="__next__") (by rw[typeLookup_type,builtinLookup_eq_fast];kernel_rfl) (by decide+kernel) (by decide+kernel) (by decide+kernel)
  (by first|exact .inl (by decide+kernel)|exact .inr (by decide+kernel)) (by rw[qt];kernel_rfl)
def K5:Slot "set_iterator" "__iter__" "set_iterator.__iter__":=
 .of (owner :="set_iterator") (n :="__iter__") (by rw[typeLookup_type,builtinLookup_eq_fast];kernel_rfl) (by decide+kernel) (by decide+kernel) (by decide+kernel)
  (by first|exact .inl (by decide+kernel)|exact .inr (by decide+kernel)) (by rw[qt];kernel_rfl)
def Jj:entryFor table "set_iterator.__next__"= some Builtin.«set_iterator.__next__»:=entryFor_of_fast (by kernel_rfl)
def Tt:entryFor table "set_iterator.__iter__"= some Builtin.«dict_keyiterator.__iter__»:=
 entryFor_alias (id' :="dict_keyiterator.__iter__") (by kernel_rfl) rfl (by decide+kernel) (by kernel_rfl)
def K6(a:Value):argsOk "set_iterator.__next__" ⟨[a],[]⟩:=by unfold argsOk;kernel_rfl
def Vo(a:Value):argsOk "set_iterator.__iter__" ⟨[a],[]⟩:=by unfold argsOk;kernel_rfl
def agl(U:Srt Z):below Z 0=0:=by
 obtain⟨G,L,h3⟩:=Ef (j:=0) U;rcases Nat.eq_zero_or_pos (below Z 0)with e|e
 .exact e
 .have l:0<Z.size:=b_ e G
  have:=L 0 Z[0] (by simp[l]) e
  lia
def agm(G:Srt Z)(h:Z[i]?=some j):below Z (j+1)=i+1:=by
 obtain⟨L,h2,h3⟩:=Ef (j:=j+1) G;have a1:i<below Z (j+1):=by
  rcases uq i (below Z (j+1))with l|l
  .exact l
  .have:=h3 i j h l;lia
 have a2:¬i+1<below Z (j+1):=λl=>by
  have l2:i+1<Z.size:=b_ l L
  have U:Z[i+1]?=some Z[i+1]:=by simp[l2]
  have:=h2 (i+1) _ U l;have:=G i (i+1) j _ h U B_
  lia
 exact u_ (s_ a2) a1
def Tu(w:World)(a:Addr)(Z:Array (Int×Value))(G:Nat):Array (Int×Value):=if bt w then pickOrder (w.params.setOrder a G) Z else Z
def Ra:(Tu w a es ep).toList.Perm es.toList:=by
 unfold Tu;split
 .exact Zj _ _
 .exact m9 _
def Rb:(Tu w a Z G).size=Z.size:=by have:=(Ra (w:=w) (a:=a) (es:=Z) (ep:=G)).length_eq;simpa using this
noncomputable def itN(a:Addr)(Z i n G:Nat):Obj:={ cls:=.type "set_iterator",data:=.fields #[.int Z 0,.int i 0,.ref a,.int n 0,.int G 0] }
set_option tactic.hygienic true in
def azd(X:Bw w s.heap a xs o es Y t){Z:Nat}(u:bt w=false->below t.place Z=i)(L:∀e R,(Tu w a es Y)[i]?=some e->(bt w=false->below t.place R=i+1)->Q (some (e.2,R)) s)(C:(Tu w a es Y)[i]?=none->Q none s) :
 wpAny (model prog w) A (setNext a Z i Y) Q E s:=by
 unfold setNext;refine aa (f9 X.get X.dat X.tab.fits ?_);dsimp only;refine aa (J8 ?_);cases hbt:bt w with
 |true =>
  simp only[jg,qb,bw,gm];refine aa ?_;unfold setWalk;refine aa (f9 X.get X.dat X.tab.fits ?_);dsimp only;refine aa (J8 ?_);rw[hbt];simp only[jg];refine aa (yq (aj (aj ?_)));have G:Tu w a es Y=pickOrder (w.params.setOrder a Y) es:=by unfold Tu;rw[hbt];rfl
  show Q (((pickOrder (w.params.setOrder a Y) es)[i]?).map _) s;rw[<-G];cases hg:(Tu w a es Y)[i]? with
  |none=>exact C hg|some e=>exact L e Z hg (λc=>by rw[hbt]at c;cases c)
 |false =>
  have G:Tu w a es Y=es:=by unfold Tu;rw[hbt];rfl
  simp only[bw,gm];split
  .rename_i J
   have J:(!t.plain&&decide (es.size > 1))=true:=J;rw[X.Zi]at J;cases J
  .refine aa ?_
   have fin:Q (match es[below t.place Z]?,t.place[below t.place Z]? with|some (_,x),some j=>some (x,j+1)|_,_=>none) s:=by
    rw[u hbt];cases hg:es[i]? with
    |none=>exact C (by rw[G];exact hg)
    |some e =>
     have y:i<t.place.size:=by rw[X.tab.Ur];exact(jk.mp hg).1
     have U:t.place[i]?=some t.place[i]:=by simp[y]
     rw[U];exact L e _ (by rw[G];exact hg) (λ_=>agm X.tab.srt U)
   have:wpAny (model prog w) A (if(!t.led&&!es.isEmpty)=true then unsupported "set:maker-not-led" else pure ()) (λ_ S=>wpAny (model prog w) A (pure (match es[below t.place Z]?,t.place[below t.place Z]? with|some (_,x),some j=>some (x,j+1)|_,_=>none)) Q E S) E s:=by rw[X.led,hbt];simp only[uz,jc,Bool.false_and,bw,gm];exact aj (aj fin)
   exact this
set_option tactic.hygienic true in
def an4{I:Addr}(X:Bw w s.heap a xs o U G t){Z:Nat}(hI:s.heap.get? I=some (itN a Z i U.size G))(hb:bt w=false->below t.place Z=i)(Y:(Tu w a U G)[i]?=some e)(hQ:∀y J,y.get? I=some (itN a J (i+1) U.size G)->(bt w=false->below t.place J=i+1)->Heap.SameBut I s.heap y->Q (some e.2) { s with heap:=y }) :
 wpAny (model prog w) A (pyNext (.ref I)) Q E s:=by
 have u:s.TypeIs (.ref I) "set_iterator":= ⟨_,hI,rfl⟩;unfold pyNext;refine aa (vo (ji (name:=Str.ofString "__next__") u Bg
  (gh Bg u Jj ?_ (K6 _))))
 unfold Builtin.«set_iterator.__next__»;refine aa (m:=slotArgs "__next__" 0 _) (aj ?_);refine aa (wpAny_fieldsOf hI rfl ?_);show wpAny _ _ (setEntries a>>=_) _ _ s;refine aa (j7 X.get X.dat X.tab.fits ?_);rw[qb];simp only[bw,gm];show wpAny _ _ (setNext a Z i G>>=_) _ _ s;refine aa (azd X hb (λe' J C R=>?_) (λhn=>by rw[hn]at Y;cases Y));rw[C]at Y;cases Y;dsimp only;refine aa (je hI (by simp) λh1 g1 L=>?_);refine aa (je (s:={ s with heap:=h1 }) g1 (by simp) λh2 g2 S=>?_);exact aj ⟨_,rfl,aj (hQ h2 J (by rw[g2];rfl) R (L.trans S))⟩
set_option tactic.hygienic true in
def auw{I:Addr}(hh:A.handled=none)(X:Bw w s.heap a xs o L Y t){Z:Nat}(hI:s.heap.get? I=some (itN a Z i L.size Y))(hb:bt w=false->below t.place Z=i)(C:(Tu w a L Y)[i]?=none)(hQ:∀U,Heap.ExtBut I s.heap U->Q none { s with heap:=U }) :
 wpAny (model prog w) A (pyNext (.ref I)) Q E s:=by
 have R:s.TypeIs (.ref I) "set_iterator":= ⟨_,hI,rfl⟩;unfold pyNext;refine aa (vo (ji (name:=Str.ofString "__next__") R Bg
  (gh Bg R Jj ?_ (K6 _))))
 unfold Builtin.«set_iterator.__next__»;refine aa (m:=slotArgs "__next__" 0 _) (aj ?_);refine aa (wpAny_fieldsOf hI rfl ?_);show wpAny _ _ (setEntries a>>=_) _ _ s;refine aa (j7 X.get X.dat X.tab.fits ?_);rw[qb];simp only[bw,gm];show wpAny _ _ (setNext a Z i Y>>=_) _ _ s;refine aa (azd X hb (λe' sl G u=>by rw[G]at C;cases C) (λhn=>?_));dsimp only;refine aa (je hI (by simp) λh1 g1 J=>?_);show wpAny _ _ (newExc (.type "StopIteration") []>>=_) _ _ _;refine aa0 (show A.in1.handled=none from hh) λU x k z_=>?_
 obtain⟨o,S,y⟩:=z_;exact aa (iu (T :="StopIteration") (b:=true) ⟨o,S,y⟩ isSubtype_stop (aj (hQ _ λb o n z=>k b o (J.extBut b o n z))))
def ItS(w:World)(a I:Addr)(L:List (Int×Tok))(o:Obj)(U:Array (Int×Value))(G:Nat)(t:SetTable)(i:Nat)(h:Heap):Prop:=
 Bw w h a L o U G t/\∃Z,h.get? I=some (itN a Z i U.size G)/\(bt w=false->below t.place Z=i)
def Bw.at(X:Bw w h a Z o L U t)(e:G.get? a=some o):Bw w G a Z o L U t:=⟨e,X.exa,X.dat,X.tab,X.ent,X.nod,X.led,X.Zi⟩
theorem Walks.a08{I:Addr}(hh:A.handled=none)(Q3:a≠I)(xs:List (Int×Tok))(o:Obj)(es:Array (Int×Value))(ep:Nat)(t:SetTable) :
 Walks prog w A I [I,a] [I] es.size (λi v=>((Tu w a es ep)[i]?).map (·.2)=some v) (ItS w a I xs o es ep t)where
 sub:=λb Z=>by simp at Z;simp[Z]
 frame:=λ_ _ _ G hk=>⟨G.1.at (hk a (by simp) o G.1.get),let ⟨sl,e,r⟩:=G.2;⟨sl,hk I (by simp) _ e,r⟩⟩
 item:=λi s Q E hi G L=>by
  obtain⟨X,U,hI,Z⟩:=G;have he:(Tu w a es ep)[i]?=some ((Tu w a es ep)[i]'(by rw[Rb];exact hi)):=by simp[Rb,hi]
  refine an4 X hI Z he λh' sl g r sb=>L _ h' s.toks (by rw[he];rfl) ⟨X.at ((sb.2 a Q3).trans X.get),sl,g,r⟩ λb o Z e=>(sb.2 b (λh=>Z (by simp[h]))).trans e
 done:=λs Q E G L=>by obtain⟨X,U,hI,Z⟩:=G;exact auw hh X hI Z (by simp[Rb]) λh' qq=>L h' s.toks λb o Z e=>qq b o (λh=>Z (by simp[h])) e
 self:=λ_ s _ _ G L=>by obtain⟨X,U,hI,Z⟩:=G;have hT:s.TypeIs (.ref I) "set_iterator":= ⟨_,hI,rfl⟩;refine wpAny_pyIter_slot hT K5 (gh K5 hT Tt ?_ (Vo _));show wpAny _ _ (ret (.ref I)) _ _ s;exact aj ⟨_,rfl,"set_iterator",_,hT,Bg.lookup,L⟩
def a8r(X:Bw w s.heap a xs o Z U t)(L:Q (.ref s.heap.objs.size) { s with heap:=s.heap.push (itN a 0 0 Z.size U) }):wpAny (model prog w) A (pyIter (.ref a)) Q E s:=by
 have G:s.TypeIs (.ref a) "set":= ⟨o,X.get,X.exa.1⟩;refine wpAny_pyIter_slot G F.slot_set_iter (gh F.slot_set_iter G Wi ?_ (F.args_set_iter_1 _));unfold Builtin.«frozenset.__iter__» Builtin.Frozenset.slot0 slotArgs;simp only[List.isEmpty_nil,jc,bw,↓reduceIte,bind_assoc,Ba,qb];unfold Builtin.Frozenset.addrOf Builtin.Frozenset.sizeOf;refine aa (aj ?_)
 try dsimp only
 refine aa (aj ?_);refine aa (aa (j7 X.get X.dat X.tab.fits (aj ?_)));refine aa ?_;unfold setDrawn;refine aa (f9 X.get X.dat X.tab.fits ?_);dsimp only;refine aa (J8 (aj ?_));have hd:(!bt w&&(!t.plain&&decide (Z.size > 1)))=false:=by rw[X.Zi];simp
 show wpAny _ _ (if(!bt w&&(!t.plain&&decide (Z.size > 1)))=true then _ else _) _ _ s;rw[hd];simp only[bw,gm];refine aa (aj (aa (wpAny_setEpoch_of X.get X.dat X.tab.fits ?_)));exact aa (lz (aj ⟨_,rfl,"set_iterator",_,⟨_,bu _ rfl,rfl⟩,Bg.lookup,L⟩))
def a8s(Z:s.TypeIs (.ref a) "set")(h:Q false s):wpAny (model prog w) A (Builtin.List.listLengthHint (.ref a)) Q E s:=by
 unfold Builtin.List.listLengthHint;refine aa (o4 Z F.slot_set_len.lookup ?_)
 (generalize hid:("set.__len__": String)=id0;(fail_if_success (clear hid id0));wp_delta;rw[show splitId id0=some ("set","__len__")from by subst hid;decide+kernel];subst hid)
 refine aa (iu (b:=true) Z sub_set_self ?_);refine aa (uf Z ?_);exact aj h
def an5(hh:A.handled=none)(X:Bw w s.heap a xs o Z G t)(hz:Z.size<=sizeLine)(h:∀h' tk acc,(∀b o,s.heap.get? b=some o->h'.get? b=some o)->s.heap.objs.size<=h'.objs.size->ItemsOf (λi v=>((Tu w a Z G)[i]?).map (·.2)=some v) acc Z.size->Q acc.toList { s with heap:=h',toks:=tk }) :
 wpAny (model prog w) A (collect (.ref a)) Q E s:=by
 have G5:a<s.heap.objs.size:=aq X.get
 have qq:s.heap.objs.size≠a:=ou G5;unfold collect;refine aa (wpAny_runValue (jy F.entry_proto_collect ?_));rw[jm F.plain_proto_collect _];show wpAny _ A.in1 (newList []>>=λl=>again (.builtin "list.__iadd__" ⟨[l,.ref a],[]⟩)) _ _ s;refine aa (lz ?_);refine aj ⟨vm uw _,jy F.entry_list_iadd ?_⟩;rw[jm uw _];have X1:Bw w (s.heap.push { cls:=.type "list",data:=.seq ([]:Zl).toArray }) a xs o Z G t:=X.at (ao _ X.get);have q2:Shared.TypeIs { s with heap:=s.heap.push { cls:=.type "list",data:=.seq ([]:Zl).toArray } } (.ref a) "set":= ⟨o,X1.get,X1.exa.1⟩;have h1:Builtin.List.listSameRef (.ref s.heap.objs.size) (.ref a)=false:=by simp[Builtin.List.listSameRef,qq]
 show wpAny _ A.in1 (Builtin.List.listExtendWith (.ref s.heap.objs.size) (.ref a) (.ref s.heap.objs.size)) _ _ _;unfold Builtin.List.listExtendWith;refine aa (uf q2 ?_);rw[bc (by rw[h1];decide)];refine aa (a8r (s:={ s with heap:=s.heap.push { cls:=.type "list",data:=.seq ([]:Zl).toArray } }) X1 ?_);have q1:(s.heap.push { cls:=.type "list",data:=.seq ([]:Zl).toArray }).objs.size=s.heap.objs.size+1:=jt ..;show wpAny _ A.in1 (holding [.ref (s.heap.push { cls:=.type "list",data:=.seq ([]:Zl).toArray }).objs.size] (Builtin.List.listLengthHint (.ref a))>>=_) _ _ { s with heap:=(s.heap.push { cls:=.type "list",data:=.seq ([]:Zl).toArray }).push (itN a 0 0 Z.size G) };have gI:((s.heap.push { cls:=.type "list",data:=.seq ([]:Zl).toArray }).push (itN a 0 0 Z.size G)).get? (s.heap.push { cls:=.type "list",data:=.seq ([]:Zl).toArray }).objs.size=some (itN a 0 0 Z.size G):=bu _ rfl;have gS:((s.heap.push { cls:=.type "list",data:=.seq ([]:Zl).toArray }).push (itN a 0 0 Z.size G)).get? s.heap.objs.size=some { cls:=.type "list",data:=.seq ([]:Zl).toArray }:=ao _ (bu _ rfl);have L:∀b o,s.heap.get? b=some o->((s.heap.push { cls:=.type "list",data:=.seq ([]:Zl).toArray }).push (itN a 0 0 Z.size G)).get? b=some o:=λb o e=>ao _ (ao _ e)
 have q6:s.heap.objs.size<=((s.heap.push { cls:=.type "list",data:=.seq ([]:Zl).toArray }).push (itN a 0 0 Z.size G)).objs.size:=by rw[jt,q1];exact a_ x_ x_
 generalize(s.heap.push { cls:=.type "list",data:=.seq ([]:Zl).toArray }).push (itN a 0 0 Z.size G)=hp at *;rw[q1]at gI⊢;have X2:Bw w hp a xs o Z G t:=X.at (L a o X.get);refine aa (fu (a8s ⟨o,X2.get,X2.exa.1⟩ ?_));rw[bz (by decide+kernel)];refine aa (qx ?_);refine aa ?_;show wpAny _ A.in1 (updateSeq s.heap.objs.size (·.push .none)>>=λ_=>updateSeq s.heap.objs.size (·.pop)) _ _ _;refine aa (wpAny_updateSeq gS rfl ?_);have U:=jz (Obj.mapSeq (·.push Value.none)) gS rfl;refine wpAny_updateSeq (hz:=by seq_fits) U rfl ?_;have qv:=jz (Obj.mapSeq (·.pop)) U rfl;have qk:∀b o,b≠s.heap.objs.size->hp.get? b=some o->((hp.update s.heap.objs.size (Obj.mapSeq (·.push Value.none))).update s.heap.objs.size (Obj.mapSeq (·.pop))).get? b=some o:=
  λb o hb e=>(t7 _ _ (kj hb)).trans ((t7 _ _ (kj hb)).trans e)
 have q5:((hp.update s.heap.objs.size (Obj.mapSeq (·.push Value.none))).update s.heap.objs.size (Obj.mapSeq (·.pop))).objs.size=hp.objs.size:=by rw[Heap.size_update,Heap.size_update]
 generalize(hp.update s.heap.objs.size (Obj.mapSeq (·.push Value.none))).update s.heap.objs.size (Obj.mapSeq (·.pop))=h3 at *;have W:=(Walks.a08 (prog:=prog) (w:=w) (A:=A.in1) (I:=s.heap.objs.size+1) (a:=a) hh (dq (Nat.lt_succ_of_lt G5)) xs o Z G t).toS;refine aj ⟨vm F.plain_extend_loop _,codeAny_extend_loopS W hz _ (by simp only[cj,uo,or_false,not_or];exact⟨dq (qw _),qq⟩) _ Z.size 0 _ _ _ rfl (iy _)
  ⟨X.at (qk a o (kj qq) (L a o X.get)),0,qk _ _ (ou (qw _)) gI,λ_=>agl X.tab.srt⟩ qv (ItemsOf.nil _) λs' q0 c' hm Mf Dc=>?_⟩
 show wpAny _ A (load s.heap.objs.size>>=_) _ _ s';refine aa (wpAny_load Mf ?_);obtain⟨h',g',d',q4,q3⟩:=s';have eg:g'=s.gens:=hm.gens;have ed:d'=s.drawn:=hm.drawn;have eo:q3=s.os:=hm.os;subst eg;subst ed;subst eo;refine aj (h h' q4 q0 (λb o e=>?_) ?_ Dc)
 .have hb:=aq e
  exact hm.heap b o (by simp only[cj,uo,or_false,not_or];exact⟨dq hb,dq (Nat.lt_succ_of_lt hb)⟩) (qk b o (dq hb) (L b o e))
 .have:=aq Mf
  exact yh this
def agn{s:Shared}(X:Bw w s.heap a xs o Z ep t)(Dc:ItemsOf (λi v=>((Tu w a Z ep)[i]?).map (·.2)=some v) acc Z.size) :
 ∃ns:List Int,PyProof.Rows.IntsAre acc.toList ns/\ns.Perm (xs.map (·.1)):=by
 obtain⟨G,ey,L⟩:=Av (f:=enI) (Ra (w:=w) (a:=a) (es:=Z) (ep:=ep)) X.ent;have e1:acc.toList=G.map λy=>Value.int y.1 y.2:=by
  apply su;intro i;have hz:acc.toList.length=Z.size:=by simpa using Dc.1
  have hy:G.length=Z.size:=by rw[L.length_eq,<-X.size]
  by_cases U:i<Z.size
  .have e2:acc.toList[i]?=some (acc.toList[i]'(b_ U (g_ hz))):=by simp[hz,U]
   have e3:=Dc.2 i _ (by rw[<-ir];exact e2);rw[e2,<-e3,<-ir,ey,dm,dm];cases G[i]?<;>rfl
  .rw[j5 (a_ (f_ hz) (s_ U)),j5 (by simp;exact a_ (f_ hy) (s_ U))]
 refine⟨G.map (·.1),?_,L.map _⟩;rw[e1];clear e1 L ey Dc
 induction G with
 |nil=>exact .nil|cons y G ih=>exact .cons _ _ ih
def ada(hh:A.handled=none)(hS:za w s.heap a S n)(hn:n<31)(h:∀(h':Heap) (tk:Nat) (p:Addr) (out:Q1) (L:U1),(∀b o,s.heap.get? b=some o->h'.get? b=some o)->s.heap.objs.size<=p->PyProof.Rows.IntsAre out.toList L->L.Pairwise (·<=·)->L.Nodup->(∀k,S k↔k∈L) ->
 (∃c,h'.get? p=some (PyProof.Rows.seqObj "list" out c))->Q (.ref p) { s with heap:=h',toks:=tk }) :
 wpAny (model prog w) A (call (.builtin "sorted") [.ref a]) Q E s:=by
 obtain⟨xs,o,es,ep,t,X,hm,hl,nf⟩:=hS;have U:=X.size;refine vh PyProof.Rows.kind_sorted PyProof.Rows.plain_sorted PyProof.Rows.entry_sorted (PyProof.Rows.args_sorted1 _) ?_;unfold Builtin.«sorted»;refine aa (m:=checkCount "sorted" 1 1 _) (aj ?_);refine aa (an5 (by simpa using hh) X (by rw[jw];exact e_ (c_ (f_ U) (c_ (f_ hl) (b_ hn (by decide))))) λh1 tk acc keep qv Dc=>?_);obtain⟨L,hI,pn⟩:=agn X Dc;have Z:acc.toList.length=n:=by have:=Dc.1;simp;exact u_ (a_ (f_ this) (a_ (f_ U) (f_ hl))) (a_ (g_ hl) (a_ (g_ U) (g_ this)))
 have q0:acc=acc.toList.toArray:=by simp
 refine aa (wpAny_newList ?_ (by rw[jw];exact e_ (c_ (f_ Z) (b_ hn (by decide)))));have G:(h1.push (PyProof.Rows.seqObj "list" acc.toList.toArray 0)).get? h1.objs.size=some (PyProof.Rows.seqObj "list" acc.toList.toArray 0):=bu _ rfl;refine aa (fu (gh PyProof.Rows.slot_list_sort ⟨_,G,rfl⟩ PyProof.Rows.entry_list_sort (PyProof.Rows.list_sort_tree (s:={ s with heap:=h1.push (PyProof.Rows.seqObj "list" acc.toList.toArray 0),toks:=tk }) G hI (c_ (f_ Z) (b_ hn (by decide))) λout qk a1 a2 a3=>⟨_,rfl,?_⟩) (PyProof.Rows.args_list_sort _)));have p2:=a2.trans pn;refine aj ⟨_,rfl,h _ tk h1.objs.size out qk (λb o e=>?_) qv a1 a3 (p2.nodup_iff.mpr X.nod) (λk=>(hm k).trans p2.mem_iff.symm) (PyProof.Rows.sortedHeap_at G)⟩;have qq:=keep b o e;have G5:=aq qq;rw[PyProof.Rows.sortedHeap_old (dq G5) (by rw[jt];exact Nat.lt_succ_of_lt G5),Heap.get?_push_ne _ _ _ (dq G5)];exact qq
def a8u(X:Bw w s.heap a L o es Z t)(h:Q (Tu w a es Z) s):wpAny (model prog w) A (setWalk a) Q E s:=by
 unfold setWalk;refine aa (f9 X.get X.dat X.tab.fits ?_);dsimp only;refine aa (J8 ?_);cases hbt:bt w with
 |true =>
  simp only[jg];refine aa (yq (aj ?_));have G:Tu w a es Z=pickOrder (w.params.setOrder a Z) es:=by unfold Tu;rw[hbt];rfl
  rw[G]at h;exact h
 |false =>
  have G:Tu w a es Z=es:=by unfold Tu;rw[hbt];rfl
  rw[G]at h;simp only[bw,gm];have U:¬(!t.plain&&decide (es.size > 1))=true:=by rw[X.Zi];simp
  show wpAny _ _ (if(!t.plain&&decide (es.size > 1))=true then _ else _) _ _ _;rw[bc U];refine aa ?_;show wpAny _ _ (if(!t.led&&decide (es.size > 1))=true then _ else pure ()) _ _ _;rw[X.led,hbt];exact aj (aj h)
def a8v(X:Bw w s.heap a U o Z G t)(h:Q (Tu w a Z G) s):wpAny (model prog w) A (setWalkUnseen a others filled) Q E s:=by
 unfold setWalkUnseen;refine aa (f9 X.get X.dat X.tab.fits ?_);dsimp only;refine aa (J8 ?_);rw[X.led,X.Zi];have:(bt w||(!bt w&&true)||decide (Z.size<=1))=true:=by cases bt w<;>rfl
 rw[this];exact a8u X h
def an6(X:Bw w s.heap a G o U Z t)(h:Q Z s):wpAny (model prog w) A (setEpoch a) Q E s:=by unfold setEpoch;exact aa (f9 X.get X.dat X.tab.fits (aj h))
def auy(h:Q (.ref s.heap.objs.size) { s with heap:=s.heap.push (zg w) }):wpAny (model prog w) A (newSet (.type "set")) Q E s:=by unfold newSet;refine aa (J8 ?_);dsimp only;simp only[newObj];exact aa (wpAny_alloc (aj h))
def a8w(Z:s.TypeIs (.ref a) "set")(h:Q (.type "set") s):wpAny (model prog w) A (Builtin.Frozenset.baseOf a) Q E s:=by unfold Builtin.Frozenset.baseOf;refine aa (iu (T :="set") (b:=true) Z ?_ (aj h));rw[qt];kernel_rfl
def Bw.ty{s:Shared}(X:Bw w s.heap a Z o U G t):s.TypeIs (.ref a) "set":= ⟨o,X.get,X.exa.1⟩
def adb(X:Bw w h a L o es G t):∀e∈(Tu w a es G).toList,∃k U,e=(hashInt k,.int k U)/\k∈L.map (·.1):=λe Z=>by have Z:=Ra.mem_iff.mp Z;rw[X.ent]at Z;obtain⟨x,hx,rfl⟩:=bf.mp Z;exact⟨x.1,x.2,rfl,bf.mpr ⟨x,hx,rfl⟩⟩
def an7(X:Bw w h a L o es G t)(Z:k∈L.map (·.1)):∃U,(hashInt k,Value.int k U)∈(Tu w a es G).toList:=by obtain⟨x,hx,rfl⟩:=bf.mp Z;exact⟨x.2,Ra.mem_iff.mpr (by rw[X.ent];exact bf.mpr ⟨x,hx,rfl⟩)⟩
def a1a(X:Bw w s.heap a xs o G ep t)(hm:Msk (sizeAbove wanted-1))(hz:G.size<=sizeAbove wanted-1)(hb:sizeAbove wanted<=128)(h:∀h' U o' qq L t',Heap.SameBut a s.heap h'->Bw w h' a U o' qq L t'->U.Perm xs->t'.mask=sizeAbove wanted-1->t'.place.size=G.size->Q () { s with heap:=h' }) :
 wpAny (model prog w) A (setRelay a wanted) Q E s:=by
 obtain⟨t',Z,e,e1,T',p,sz,hl,hp,_⟩:=Vx hm t.finger (t.movedTo (sizeAbove wanted-1)) t.led t.plain G hz;unfold setRelay;refine aa (f9 X.get X.dat X.tab.fits ?_);dsimp only;rw[bc (by have:=Dk hb;exact j_ this)];have er:t.relaid (G.map (·.1)) wanted=some (t',Z):=e;rw[er];refine aa ?_;have qk:wpAny (model prog w) A (if((Z.filterMap (G[·]?)).size != G.size)=true then(do unsupported "internal:set-table-lost-an-element";pure (Z.filterMap (G[·]?),t'))else pure (Z.filterMap (G[·]?),t'))
  (λr s'=>wpAny (model prog w) A (storeSet a r.1 r.2) Q E s') E s:=by
  rw[bc (by simp[sz])];refine aj ?_;obtain⟨U,ex,px⟩:=Av p X.ent;have hX:=auu X T' ex ((px.map _).nodup_iff.mpr X.nod) (hl.trans X.led) (hp.trans X.Zi);exact ux X.get X.dat (h _ _ _ _ _ _ (gr s.heap a _) hX px e1 (by rw[T'.Ur,sz])) (Dk (by rw[sz];exact a_ hz (a_ C_ hb)))
 exact qk
set_option tactic.hygienic true in
def a8x(X:Bw w s.heap a C o es ep t)(hl:C.length+m<31)(h:∀Y Z o' R L t',Heap.SameBut a s.heap Y->Bw w Y a Z o' R L t'->Z.Perm C->(t'.place.size+m)*5<t'.mask*3->Q () { s with heap:=Y }):wpAny (model prog w) A (setRoomFor a m) Q E s:=by
 have qq:=X.size;have S:=X.tab.Ur;have hf:t.fill=t.place.size:=by unfold fill;rw[X.tab.dum];rfl
 unfold setRoomFor;refine aa (f9 X.get X.dat X.tab.fits ?_);dsimp only;unfold roomFor;rw[hf];split
 .rename_i G e
  split at e
  .cases e
   obtain⟨g1,g2,g3,g4⟩:=ac6 (t.place.size+m) (by lia);refine a1a X g1 (by lia) g4 λY y o2 U J t2 sb X2 u em ps=>h Y y o2 U J t2 sb X2 u ?_
   rw[ps,em,<-S];lia
  .cases e
 .rename_i e
  refine aj (h s.heap C o es ep t (yc _ _) X (m9 _) ?_);split at e
  .exact(e _ rfl).elim
  .lia
def Bw.nh(X:Bw w h a Z o es U t)(L:∀k,S k↔k∈Z.map (·.1))(G:t.place.size*5<t.mask*3):za w h a S Z.length:=⟨Z,o,es,U,t,X,L,rfl,G⟩
def an8{q5:Sem Unit}(hS:za w s.heap a S n)(Y:Bw w s.heap b ys o' es' q0 t')(ny:t'.place.size*5<t'.mask*3)(hl:n+ys.length<31)(ne:b≠a)(he:∀{Q:Unit->Shared->Prop} {h':Heap},Bw w h' b ys o' es' q0 t'->Q () { s with heap:=h' }->wpAny (model prog w) A q5 Q E { s with heap:=h' })
 (h:∀h' n',Heap.SameBut a s.heap h'->za w h' a (λk=>S k\/k∈ys.map (·.1)) n'->n'<=n+ys.length->Q () { s with heap:=h' }):wpAny (model prog w) A (setMerge a b q5) Q E s:=by
 obtain⟨xs,o,es,ep,t,X,hx,rfl,nx⟩:=hS;have qk:=Y.size;unfold setMerge;have e0:(a==b)=false:=by simp[ne.symm]
 rw[e0];simp only[bw,gm];refine aa (f9 Y.get Y.dat Y.tab.fits ?_);dsimp only
 by_cases c:es'.isEmpty=true
 .rw[bz c]
  have:ys=[]:=o7.mp (by rw[<-qk];simpa using c);subst this;exact aj (h s.heap _ (yc _ _) ((X.nh hx nx).congr λk=>by simp) x_)
 .rw[bc c]
  refine aa (a8x X (by rw[qk];exact hl) λZ q1 o1 z4 z3 G q6 U p1 r1=>?_);have Y1:Bw w Z b ys o' es' q0 t':=Y.at (by rw[q6.2 b ne];exact Y.get);have q8:∀k,S k↔k∈q1.map (·.1):=λk=>(hx k).trans (p1.map (·.1)).mem_iff.symm
  refine aa (f9 (s:={ s with heap:=Z }) U.get U.dat U.tab.fits ?_);dsimp only;have hf:G.fill=G.place.size:=by unfold fill;rw[U.tab.dum];rfl
  have em:(G.fill != 0)=false->q1=[]:=λz=>by rw[hf,U.tab.Ur,U.size]at z;exact o7.mp (by simpa using z)
  have q7:(G.led&&t'.led)=!bt w:=by rw[U.led,Y.led];cases bt w<;>rfl
  have Zi:(G.plain&&t'.plain)=true:=by rw[U.Zi,Y.Zi];rfl
  have fin:∀{qv:Array (Int×Value)}{t2:SetTable},q1=[]->Yr t2 qv->qv.toList.Perm es'.toList->t2.led=!bt w->t2.plain=true->t2.place.size*5<t2.mask*3->wpAny (model prog w) A (storeSet a qv t2) Q E { s with heap:=Z }:=fun{qv t2} z T2 pe l2 q2 n2=>by
   subst z;obtain⟨zs,ez,pz⟩:=Av pe Y.ent;have hX:=auu U T2 ez ((pz.map _).nodup_iff.mpr Y.nod) l2 q2;have sz:qv.size=ys.length:=by have:=pe.length_eq;simp at this;rw[this,qk]
   refine ux (s:={ s with heap:=Z }) U.get U.dat (h _ zs.length (q6.trans (gr Z a _)) (hX.nh (λk=>?_) n2) (by rw[pz.length_eq];exact Nat.le_add_left _ _)) (Dk (by lia));rw[(pz.map (·.1)).mem_iff,q8];simp
  have hr:G.road t'=if(G.fill != 0)=true then .oneByOne else if(G.mask==t'.mask&&t'.dummies.isEmpty)=true then .slotForSlot else .clean:=rfl
  by_cases c1:(G.fill != 0)=true
  .rw[hr,bz c1]
   dsimp only;refine aa (a8v (s:={ s with heap:=Z }) Y1 ?_);have z0:(Tu w b es' q0).size=ys.length:=by rw[Rb,qk]
   refine aa (PySem.MeetsSeq2.wpAny_forIn_array _ (λq4 _ s'=>∃qq h' n',(Tu w b es' q0).toList=qq++q4/\s'={ s with heap:=h' }/\Heap.SameBut a s.heap h'/\za w h' a (λk=>S k\/∃tk,(hashInt k,Value.int k tk)∈qq) n'/\n'<=xs.length+qq.length) _ (λe q4 u s' hI=>?_) (λu s' hI=>?_) _ _ ⟨[],Z,q1.length,rfl,rfl,q6,(U.nh q8 (by lia)).congr λk=>by simp,by rw[p1.length_eq];exact x_⟩)
   .obtain⟨qq,h',n',e1,rfl,sb,hS,hn⟩:=hI
    obtain⟨k,tk,rfl,hk⟩:=adb Y e (by rw[e1];simp);have lp:qq.length+1<=ys.length:=by
     have:=lg List.length e1;simp at this
     lia
    dsimp only;refine aa (fu (aic (s:={ s with heap:=h' }) hS (by lia) λh2 zw b2 zz zk Yy=>?_));have Y2:Bw w h2 b ys o' es' q0 t':=Y.at (by rw[zz.2 b ne,sb.2 b ne];exact Y.get);refine aa (he Y2 (aa (f9 (s:={ s with heap:=h2 }) Y2.get Y2.dat Y2.tab.fits ?_)));simp only[qb,bw,gm];refine aj ⟨qq++[(hashInt k,.int k tk)],h2,zw,by rw[e1];simp,rfl,sb.trans zz,zk.congr λk'=>?_,by simp;lia⟩;constructor
    .rintro((Z|⟨q3,Z⟩)|rfl)
     .exact .inl Z
     .exact .inr ⟨q3,xg _ Z⟩
     .exact .inr ⟨tk,by simp⟩
    .rintro(Z|⟨q3,Z⟩)
     .exact .inl (.inl Z)
     .rcases du.mp Z with z|z
      .exact .inl (.inr ⟨q3,z⟩)
      .have z:=uc.mp z
       injection z with z1 z2
       injection z2 with z2
       exact .inr z2
   .obtain⟨qq,h',n',e1,rfl,sb,hS,hn⟩:=hI
    rw[xr]at e1;refine aj (h h' n' sb (hS.congr λk=>?_) ?_)
    .rw[<-e1]
     constructor
     .rintro(Z|⟨tk,Z⟩)
      .exact .inl Z
      .obtain⟨k',q3,e,hk⟩:=adb Y _ Z
       injection e with e1 e2
       injection e2 with e2
       subst e2;exact .inr hk
     .rintro(Z|Z)
      .exact .inl Z
      .exact .inr (an7 Y Z)
    .have:=lg List.length e1
     simp at this
     lia
  .have z:=em (by simpa using c1)
   have mz:G.place.size=0:=by rw[U.tab.Ur,U.size,z];rfl
   by_cases c2:(G.mask==t'.mask&&t'.dummies.isEmpty)=true
   .rw[hr,bc c1,bz c2]
    dsimp only;have T2:Yr { t' with finger:=G.finger,led:=G.led&&t'.led,moves:=G.moves,plain:=G.plain&&t'.plain } es':=⟨Y.tab.msk,Y.tab.dum,Y.tab.Ur,Y.tab.srt,Y.tab.bnd,Y.tab.ful,Y.tab.rch⟩;exact fin z T2 (m9 _) q7 Zi ny
   .rw[hr,bc c1,bc c2]
    dsimp only;rw[mz,qk]at r1;obtain⟨t2,L,e,e1,T',p,sz,l2,q2,_⟩:=Vx U.tab.msk G.finger G.moves (G.led&&t'.led) (G.plain&&t'.plain) es' (by lia);rw[e];refine aa ?_;have zv:wpAny (model prog w) A (if((L.filterMap (es'[·]?)).size != es'.size)=true then(do unsupported "internal:set-table-lost-an-element";pure (L.filterMap (es'[·]?),t2))else pure (L.filterMap (es'[·]?),t2))
     (λr s'=>wpAny (model prog w) A (storeSet a r.1 r.2) Q E s') E { s with heap:=Z }:=by
     rw[bc (by simp[sz])];exact aj (fin z T' p (l2.trans q7) (q2.trans Zi) (by rw[T'.Ur,sz,qk,e1];lia))
    exact zv
def aa1:entryFor table "set.__or__"= some Builtin.«frozenset.__or__»:=entryFor_alias (id' :="frozenset.__or__") (by kernel_rfl) rfl (by decide+kernel) (by kernel_rfl)
theorem za.ty{s:Shared}(h:za w s.heap a S n):s.TypeIs (.ref a) "set":= by obtain⟨Z,o,U,G,t,X,_⟩:=h;exact X.ty
def a8y{Q:Y3}{id:String}(hS:za w s.heap a S n)(hT:za w s.heap b T m)(hn:n+m<31)(ne:b≠a)(h:∀U n',(∀c o,s.heap.get? c=some o->U.get? c=some o)->za w U s.heap.objs.size (λk=>S k\/T k) n'->n'<31->Q (.ref s.heap.objs.size) { s with heap:=U }) :
 wpAny (model prog w) A (do
  let result<-Builtin.Frozenset.copyOf a
  if Value.ref b != .ref a then holding [result] (Builtin.Frozenset.updateFrom id (<-Builtin.Frozenset.addrOf result) (.ref b))
  return result) Q E s:=by
 obtain⟨xs,o,es,ep,t,X,hx,lx,nx⟩:=hS;obtain⟨ys,o',qv,qk,t',Y,hy,ly,ny⟩:=hT;have la:a<s.heap.objs.size:=aq X.get
 have lb:b<s.heap.objs.size:=aq Y.get
 have up:∀c o,s.heap.get? c=some o->(s.heap.push (zg w)).get? c=some o:=λc o e=>ao _ e
 have hr:za w (s.heap.push (zg w)) s.heap.objs.size (λ_=>False) 0:=ac9 (bu _ rfl);unfold Builtin.Frozenset.copyOf;refine aa (aa (a8w X.ty (aa (auy (aa (m:=Builtin.Frozenset.addrOf _) (aj (aa ?_)))))));refine an8 (s:={ s with heap:=s.heap.push (zg w) }) hr (X.at (up _ _ X.get)) nx (by lia) (dq la) (λ_ q=>aj q) λL n1 G qq q2=>aj ?_
 have e0:(Value.ref b != Value.ref a)=true:=by simp[ne]
 rw[e0];simp only[jg];refine aa (m:=Builtin.Frozenset.addrOf _) (aj (aa (fu ?_)));have Y1:Bw w L b ys o' qv qk t':=Y.at (by rw[G.2 b (dq lb)];exact up _ _ Y.get);unfold Builtin.Frozenset.updateFrom;refine aa (auk (s:={ s with heap:=L }) Y1.ty ?_);simp only[jg];refine aa (m:=Builtin.Frozenset.addrOf _) (aj ?_);unfold Builtin.Frozenset.merge;refine aa (an6 (s:={ s with heap:=L }) Y1 ?_);refine an8 (s:={ s with heap:=L }) qq Y1 ny (by lia) (dq lb) (fun{Q U} Z q=>?_) λh2 n2 q0 q1 Yy=>aj (h h2 n2 (λc o e=>by
  have:=dq (aq e);rw[q0.2 c this,G.2 c this];exact up c o e) (q1.congr λk=>by rw[<-hx,<-hy];simp) (by lia))
 unfold Builtin.Frozenset.unchanged;refine aa (an6 (s:={ s with heap:=U }) Z ?_);simp only[qb,bw,gm];exact aj q
def a1b(U:za w s.heap a S n)(L:za w s.heap b T m)(hn:n+m<31)(ne:b≠a)(h:∀Z G,(∀c o,s.heap.get? c=some o->Z.get? c=some o)->za w Z s.heap.objs.size (λk=>S k\/T k) G->G<31->Q (.ref s.heap.objs.size) { s with heap:=Z }) :
 wpAny (model prog w) A (binaryOp .BitOr (.ref a) (.ref b)) Q E s:=by
 refine wpAny_binaryOp_same (op:=.BitOr) U.ty L.ty F.fills_set_or F.slot_set_or (gh F.slot_set_or U.ty aa1 ?_ (F.args_set_or_2 _ _));show wpAny _ _ (Builtin.Frozenset.slot1 "__or__" ⟨[.ref a,.ref b],[]⟩>>=_) _ _ _;unfold Builtin.Frozenset.slot1 slotArgs;simp only[List.isEmpty_nil,jc,bw,↓reduceIte,bind_assoc,gq,Ba,qb];refine aa (aj ?_)
 try dsimp only
 refine aa (aj ?_)
 try dsimp only
 refine aa (aa (auk U.ty ?_));simp only[toBool,↓reduceIte];refine auk L.ty ?_;simp only[jc,bw,↓reduceIte];refine aa (m:=Builtin.Frozenset.addrOf (.ref a)) (aj ?_);exact aa (a8y U L hn ne λZ G k hU Q9=>aj ⟨_,rfl,by simp,h Z G k hU Q9⟩)
end Q6
namespace MW
open PySem (Str)
set_option genInjectivity true in
inductive D where
 |non|bl (b:Bool)|int (i:Int)|str (s:Str)|tup (ds:List D)|vl (ds:List D)|fz (ds:List D)|ref (n:Nat)
noncomputable abbrev Kx:=Sum Int Str
set_option genInjectivity true in
inductive MO where
 |lst (ds:List D)|dT (kvs:List (List Kx×D))|dN (ks:List (List (List Int)))|ins (c:Nat) (fs:List (Nat×D))
noncomputable abbrev di:=List MO
noncomputable abbrev Env:=List (Option D)
set_option genInjectivity true in
inductive Res(α:Type)where
 |ok (a:α) (M:di)|bad
namespace Res
noncomputable def bind{Z β:Type}(r:Res Z)(f:Z->di->Res β):Res β:=
 match r with|ok a M=>f a M|bad=>bad
@[simp] def z7(a:α)(M:di)(f:α->di->Res β):(ok a M).bind f=f a M:=rfl
@[simp] def a8z(f:α->di->Res β):(bad:Res α).bind f=bad:=rfl
noncomputable def uy{α:Type}(o:Option α)(M:di):Res α:=match o with|some a=>ok a M|none=>bad
@[simp] def Cd(a:α)(M:di):uy (some a) M=ok a M:=rfl
@[simp] def a1c(M:di):uy (none:Option α) M=bad:=rfl
end Res
inductive Op2 where|add|ak2|sub|mul|fdiv|mod|pow
inductive Cp where|eq|ne|lt|le|gt|ge|inn|Uu
inductive Blt where
 |len|tuple|max|dict|all|isList|isTuple|isBool|isSeq|sortI|Uv|Wj|Wk
inductive Bm where|append|index|J9|extend
inductive Tg where
 |name (i:Nat)|names (is:Yf)
mutual
inductive Ex where
 |var (i:Nat)|cst (d:D)
 |bin (op:Op2) (a b:Ex)|neg (a:Ex)
 |cmp (op:Cp) (a b:Ex)|chain (o1 o2:Cp) (a b c:Ex)
 |and (a b:Ex)|or (a b:Ex)|not (a:Ex)|ite (c a b:Ex)
 |tup (es:Cv)|lst (es:Cv)|Hh (es:Cv)|ade|ak3 (e:Ex)
 |ix (a b:Ex)|cut (a:Ex) (lo hi:OEx)
 |call (f:Nat) (es:Cv)|make (c:Nat) (es:Cv)|meth (o:Ex) (m:Nat) (es:Cv)|fld (o:Ex) (f:Nat)
 |blt (b:Blt) (es:Cv)|bm (m:Bm) (o:Ex) (es:Cv)
 |comp (k:Nat) (t:Tg) (it:Ka) (e:Ex)|Bo (k:Nat) (t:Tg) (it:Ka) (c:Ex) (e:Ex)
 |Wl (a b:Ex)|Mh (a b:Ex)|agp (e:Ex)
inductive Cv where
 |nil|cons (e:Ex) (es:Cv)
inductive OEx where
 |none|some (e:Ex)
inductive Ka where
 |val (e:Ex)|Th (e:Ex)|enm (e:Ex)|zip (es:Cv)
end
noncomputable abbrev Ex.v:=Ex.var
noncomputable abbrev Ex.i(n:Int):Ex:=.cst (.int n)
noncomputable abbrev Ex.l(e:Ex):Ex:=.blt .len (.cons e .nil)
noncomputable abbrev Cv.z:=Cv.nil
noncomputable abbrev Cv.c:=Cv.cons
noncomputable abbrev Cv.o(a:Ex):Cv:=.cons a .nil
noncomputable abbrev Cv.p(a b:Ex):Cv:=.cons a (.cons b .nil)
noncomputable abbrev Cv.q(a b c:Ex):Cv:=.cons a (.cons b (.cons c .nil))
inductive Lv where
 |tg (t:Tg)|sub (o i:Ex)|fld (o:Ex) (f:Nat)
mutual
inductive Bx where
 |asg (l:Lv) (e:Ex)|expr (e:Ex)|iff (c:Ex) (a b:m5)|whl (c:Ex) (b:m5)|for_ (t:Tg) (it:Ka) (b:m5)
 |ret (e:Ex)|cont|raise
inductive m5 where
 |nil|cons (s:Bx) (r:m5)
end
noncomputable abbrev Bx.a(i:Nat)(e:Ex):Bx:=.asg (.tg (.name i)) e
noncomputable abbrev Bx.f(c:Ex)(b:m5):Bx:=.iff c b .nil
noncomputable abbrev m5.z:=m5.nil
noncomputable abbrev m5.c:=m5.cons
noncomputable abbrev m5.o(a:Bx):m5:=.cons a .nil
noncomputable abbrev m5.p(a b:Bx):m5:=.cons a (.cons b .nil)
noncomputable abbrev m5.q(a b c:Bx):m5:=.cons a (.cons b (.cons c .nil))
structure Fn where
 np:Nat
 ns:Nat
 body:m5
structure Cl where
 init:Nat
 meths:List (Nat×Nat)
noncomputable def gn(M:di):D->Option (List D)
 |.vl ds=>some ds|.ref n=>match M[n]? with|some (.lst ds)=>some ds|_=>none
 |_=>none
def Bk(M:di):D->Option (List D)
 |.tup ds=>some ds|d=>gn M d
noncomputable def agq:D->Option Kx
 |.int i=>some (.inl i)|.str s=>some (.inr s)|_=>none
def Wm:List D->Option (List Kx)
 |[]=>some []
 |d::ds=>match agq d,Wm ds with
  |some k,some ks=>some (k::ks)|_,_=>none
def Rc:D->Option (List Kx)
 |.tup ds=>Wm ds|_=>none
noncomputable def an9:Kx->D
 |.inl i=>.int i|.inr s=>.str s
def aoa(Z:List Kx):D:=.tup (Z.map an9)
def Dp:List D->Option (List (List Kx))
 |[]=>some []
 |d::ds=>match Rc d,Dp ds with
  |some k,some ks=>some (k::ks)|_,_=>none
noncomputable def Uw(f:D->D->Option Bool):List D->List D->Option Bool
 |[],[]=>some true
 |a::as,b::bs=>match f a b,Uw f as bs with
  |some x,some y=>some (x&&y)|_,_=>none
 |_,_=>some false
instance:DecidableEq Kx:=inferInstanceAs (DecidableEq (Sum Int Str))
noncomputable def Bp{G:Type}[DecidableEq G](Z:List (G×D))(k:G):Option D:=(Z.find? λp=>decide (p.1=k)).map (·.2)
def Mi(M:di):Nat->D->D->Option Bool
 |0,_,_=>none
 |n+1,a,b=>match a,b with
  |.int i,.int j=>some (decide (i=j))|.bl i,.bl j=>some (i==j)|.tup as,.tup bs=>Uw (Mi M n) as bs
  |a,b=>match gn M a,gn M b with
   |some as,some bs=>if as.length=bs.length then Uw (Mi M n) as bs else some false
   |_,_=>none
def Bq(M:di)(a b:D):Option Bool:=Mi M 6 a b
def Qe(M:di)(x:D):List D->Option (List Bool)
 |[]=>some []
 |y::ys=>match Bq M y x,Qe M x ys with
  |some a,some b=>some (a::b)|_,_=>none
def memD(M:di)(x:D)(Z:List D):Option Bool:=(Qe M x Z).map (·.any id)
def Wn(M:di)(x:D)(Z:List D):Option Nat:=(Qe M x Z).bind (·.findIdx? id)
noncomputable def Ys:List D->Option (List Int)
 |[]=>some []|.int i::r=>(Ys r).map (i::·)|_::_=>none
noncomputable def Yz(n:Nat)(i:Int):Option Nat:=if 0<=i then(if i<n then some i.toNat else none)else if -(n:Int)<=i then some (i+n).toNat else none
noncomputable def clip(n:Nat)(d:Nat):Option Int->Nat
 |none=>d|some i=>if 0<=i then min i.toNat n else(i+n).toNat
def agr(Z:List D)(G U:Option Int):List D:=(Z.drop (clip Z.length 0 G)).take (clip Z.length Z.length U-clip Z.length 0 G)
noncomputable def a1d:List Int->Option Int
 |[]=>none|a::r=>some (r.foldl (λm x=>if m<x then x else m) a)
noncomputable def insI(x:Int):List Int->List Int
 |[]=>[x]|y::ys=>if x<y then x::y::ys else y::insI x ys
def sortI(Z:U1):List Int:=Z.foldr insI []
noncomputable def Bt:List Int->List Int
 |[]=>[]|x::xs=>if x∈xs then Bt xs else x::Bt xs
noncomputable def Fw{Z:Type}[DecidableEq Z](lt:Z->Z->Bool):List Z->List Z->Bool
 |_,[]=>false|[],_::_=>true|a::as,b::bs=>if a=b then Fw lt as bs else lt a b
noncomputable def ltI(i j:Int):Bool:=decide (i<j)
abbrev ltT:List Int->List Int->Bool:=Fw ltI
abbrev ltN:List (List Int)->List (List Int)->Bool:=Fw ltT
noncomputable def Kc{Z:Type}(lt:Z->Z->Bool)(x:Z):List Z->List Z
 |[]=>[x]|y::ys=>if lt x y then x::y::ys else y::Kc lt x ys
def O6{α:Type}(lt:α->α->Bool)(Z:List α):List α:=Z.foldr (Kc lt) []
noncomputable def tI(r:U1):D:=.tup (r.map D.int)
def tN(k:List (List Int)):D:=.tup (k.map tI)
def toI:D->Option (List Int)
 |.tup ds=>Ys ds|_=>none
def Y0:List D->Option (List (List Int))
 |[]=>some []
 |d::ds=>match toI d,Y0 ds with
  |some k,some ks=>some (k::ks)|_,_=>none
def toN:D->Option (List (List Int))
 |.tup ds=>Y0 ds|_=>none
def keysOf(M:di)(d:D):Option (List D):=
 match d with
 |.ref n=>match M[n]? with
  |some (.dT kvs)=>some (kvs.map λp=>aoa p.1)
  |_=>gn M d
 |_=>gn M d
noncomputable def Fy{U:Type}[DecidableEq U](Z:List (U×D))(k:U)(v:D):List (U×D):=
 if(Z.any λG=>decide (G.1=k))=true then Z.map (λG=>if G.1=k then(G.1,v)else G)else Z++[(k,v)]
noncomputable def Dq(Z:List (List Kx)):Bool:=decide (Z.length<=30)&&Z.all λk=>k.all λx=>match x with|.inl _=>true|.inr _=>false
noncomputable def Ih(Z G:List (List Kx)):Bool:=Z.all (λx=>G.any λy=>decide (y=x))&&G.all (λy=>Z.any λx=>decide (x=y))
noncomputable def new(o:MO)(M:di):Res D:=.ok (.ref M.length) (M++[o])
def aob(a b:D)(M:di):Res D:=
 match a,b with
 |.int i,.int j=>.ok (.int (i+j)) M|.tup xs,.tup ys=>if xs.length+ys.length<=100000 then .ok (.tup (xs++ys)) M else .bad
 |x,y=>match gn M x,gn M y with
  |some xs,some ys=>if xs.length+ys.length<=100000 then .ok (.vl (xs++ys)) M else .bad
  |_,_=>.bad
def agt(x y:D)(M:di):Res D:=
 match gn M x,gn M y with
 |some xs,some ys=>if xs.length+ys.length<=100000 then new (.lst (xs++ys)) M else .bad
 |_,_=>.bad
noncomputable def ii{α:Type}(x y:D)(f:Int->Int->α)(z:α):α:=match x with|.int i=>(match y with|.int j=>f i j|_=>z)|_=>z
def agu(h:ii x y f z=r)(Z:z≠r):∃i j,x=.int i/\y=.int j/\f i j=r:=by
 cases x with
 |int i=>cases y with
  |int j=>exact⟨i,j,rfl,rfl,h⟩|_=>exact absurd h Z
 |_=>exact absurd h Z
@[simp] def be0(i j:Int)(f:Int->Int->α)(z:α):ii (.int i) (.int j) f z=f i j:=rfl
def a80(a b:D)(M:di):Res D:=ii a b (λi j=>.ok (.int (i-j)) M) .bad
def a81(a b:D)(M:di):Res D:=ii a b (λi j=>if(-(2^64)<i/\i<2^64)\/(-(2^64)<j/\j<2^64)then .ok (.int (i*j)) M else .bad) .bad
def a1e(a b:D)(M:di):Res D:=ii a b (λi j=>if 0<j/\j<1073741824 then .ok (.int (i/j)) M else .bad) .bad
def a82(a b:D)(M:di):Res D:=ii a b (λi j=>if 0<j then .ok (.int (i%j)) M else .bad) .bad
def azf(a b:D)(M:di):Res D:=ii a b (λi j=>if 0<=j/\j<=64/\i.natAbs<2^64 then .ok (.int (i^j.toNat)) M else .bad) .bad
def Eg(Z:Op2):D->D->di->Res D:=
 match Z with
 |.add=>aob|.ak2=>agt|.sub=>a80|.mul=>a81|.fdiv=>a1e|.mod=>a82|.pow=>azf
def Qf(M:di)(a b:D):Option Bool:=
 match b with
 |.ref n=>match M[n]? with
  |some (.dT kvs)=>(Rc a).map λk=>(Bp kvs k).isSome
  |_=>(Bk M b).bind (memD M a)
 |_=>(Bk M b).bind (memD M a)
def adf(f:Int->Int->Bool)(a b:D):Option Bool:=ii a b (λi j=>some (f i j)) none
def Mj(Z:Cp)(a b:D)(M:di):Option Bool:=
 match Z with
 |.lt=>adf (λi j=>decide (i<j)) a b
 |.le=>adf (λi j=>decide (i<=j)) a b
 |.gt=>adf (λi j=>decide (j<i)) a b
 |.ge=>adf (λi j=>decide (j<=i)) a b
 |.eq=>Bq M a b|.ne=>(Bq M a b).map not|.inn=>Qf M a b|.Uu=>(Qf M a b).map not
def Bj(a b:D)(M:di):Option D:=
 match a with
 |.ref n=>match M[n]? with
  |some (.dT kvs)=>(Rc b).bind (Bp kvs)
  |_=>match gn M a,b with
   |some ds,.int i=>(Yz ds.length i).bind λj=>ds[j]?
   |_,_=>none
 |.fz ds=>match b with
  |.int i=>(Yz ds.length i).bind λj=>ds[j]?
  |_=>none
 |_=>match Bk M a,b with
  |some ds,.int i=>(Yz ds.length i).bind λj=>ds[j]?
  |_,_=>none
noncomputable def allB:List D->Option Bool
 |[]=>some true|.bl b::r=>(allB r).map (b&&·)|_::_=>none
def adg(a:D)(G U:Option Int)(M:di):Option D:=(gn M a).map λZ=>.vl (agr Z G U)
noncomputable def agv(Z:List (List Kx×D)):Bool:=Z.all λp=>match p.1 with
 |[.inl i,.inl j]=>decide (-1<=i)&&decide (i<9)&&decide (-1<=j)&&decide (j<9)|_=>false
noncomputable def Ml(M:di):D->Res D
 |.ref n=>match M[n]? with
  |some (.lst ds)=>.ok (.int ds.length) M|some (.dN ks)=>.ok (.int ks.length) M|_=>.bad
 |.fz ds=>.ok (.int ds.length) M|.tup ds=>.ok (.int ds.length) M|.vl ds=>.ok (.int ds.length) M|_=>.bad
def Vy(M:di):D->Res D
 |.ref n=>match M[n]? with
  |some (.dT kvs)=>if agv kvs then new (.dT kvs) M else .bad
  |_=>.bad
 |_=>.bad
def isX(bt Z:Option Bool)(d:D):Option Bool:=match d with
 |.tup _=>bt|.int _=>Z|_=>none
def isR(bt Z:Option Bool)(M:di)(d:D):Res D:=Res.uy ((isX bt Z d).map D.bl) M
def two(Z:List D)(f:Int->Int->Int)(g:D->Option Int)(M:di):Res D:=
 match Z with
 |[a,b]=>(match a,b with|.int i,.int j=>.ok (.int (f i j)) M|_,_=>.bad)
 |[d]=>Res.uy ((g d).map D.int) M|_=>.bad
noncomputable def Dm(Z:List D)(g:D->Res D):Res D:=
 match Z with
 |[d]=>g d|_=>.bad
noncomputable def onN(o:D)(M:di)(f:List (List (List Int))->Res D):Res D:=match o with
 |.ref n=>match M[n]? with|some (.dN ks)=>f ks|_=>.bad
 |_=>.bad
def qy(b:Blt)(Z:List D)(M:di):Res D:=
 match b with
 |.len=>Dm Z (Ml M)|.tuple=>Dm Z λd=>Res.uy ((Bk M d).map D.tup) M
 |.max=>two Z (λi j=>if i<j then j else i) (λd=>((gn M d).bind Ys).bind a1d) M
 |.dict=>Dm Z (Vy M)|.all=>Dm Z λd=>Res.uy (((gn M d).bind allB).map D.bl) M
 |.isList=>Dm Z (isR (some false) none M)|.isTuple=>Dm Z (isR (some true) (some false) M)|.isBool=>Dm Z (isR none (some false) M)|.isSeq=>Dm Z (isR (some true) (some false) M)|.sortI=>Dm Z λd=>Res.uy (((gn M d).bind Ys).bind λis=>if is.length<31/\is.Nodup then some (D.vl ((sortI is).map D.int))else none) M
 |.Uv=>Dm Z λd=>Res.uy (((gn M d).bind Y0).bind λG=>if G.length<64/\[]∈G/\G.Nodup then some (D.vl ((O6 ltT G).map tI))else none) M
 |.Wj=>Dm Z λd=>onN d M λG=>if G.length<64/\[]∉G/\G.Nodup then .ok (.vl ((O6 ltN G).map tN)) M else .bad
 |.Wk=>Dm Z λd=>onN d M λG=>.ok (.vl (G.map tN)) M
def Vp(m:Bm)(x:D)(M:di):Bool:=
 match m with
 |.J9=>(match x with|.tup _=>true|_=>false)
 |_=>(gn M x).isSome
noncomputable def onL(o:D)(M:di)(f:Nat->List D->Res D):Res D:=match o with
 |.ref n=>match M[n]? with|some (.lst xs)=>f n xs|_=>.bad
 |_=>.bad
def Qg(m:Bm)(o:D)(G:List D)(M:di):Res D:=
 match m with
 |.append=>onL o M λn Z=>Dm G λd=>if Z.length<100000 then .ok .non (M.set n (.lst (Z++[d])))else .bad
 |.extend=>onL o M λn Z=>Dm G λy=>match y with
  |.vl ys=>if Z.length+ys.length<100000 then .ok .non (M.set n (.lst (Z++ys)))else .bad
  |_=>.bad
 |.index=>Dm G λd=>Res.uy (((Bk M o).bind (Wn M d)).map λ(j:Nat)=>D.int (j:Int)) M
 |.J9=>match o with
  |.tup Z=>Dm G λd=>Res.uy ((Wn M d Z).map λ(j:Nat)=>D.int (j:Int)) M
  |_=>.bad
def setOp(o i v:D)(M:di):Option di:=
 match o with
 |.ref n=>match M[n]? with
  |some (.lst xs)=>match i with
   |.int j=>(Yz xs.length j).map λq=>M.set n (.lst (xs.set q v))
   |_=>none
  |some (.dT kvs)=>(Rc i).bind λk=>if kvs.length<100000 then some (M.set n (.dT (Fy kvs k v)))else none
  |some (.dN ks)=>match v with
   |.bl true=>(toN i).bind λk=>if ks.length<100000 then some (M.set n (.dN (if k∈ks then ks else ks++[k])))else none
   |_=>none
  |_=>none
 |_=>none
noncomputable def Ux(f:Nat)(v:D):List (Nat×D)->List (Nat×D)
 |[]=>[(f,v)]|(g,x)::r=>if g=f then(g,v)::r else(g,x)::Ux f v r
noncomputable def Rf(o:D)(f:Nat)(M:di):Option D:=
 match o with
 |.ref n=>match M[n]? with
  |some (.ins _ fs)=>fs.lookup f|_=>none
 |_=>none
def Rg(o:D)(f:Nat)(v:D)(M:di):Option di:=
 match o with
 |.ref n=>match M[n]? with
  |some (.ins c fs)=>if fs.length<1000 then some (M.set n (.ins c (Ux f v fs)))else none
  |_=>none
 |_=>none
inductive Src where
 |con (ds:List D)|live (n:Nat) (len:Nat)|zl (n:Nat) (ys:List D)
noncomputable def Src.len:Src->Nat
 |.con ds=>ds.length|.live _ k=>k|.zl _ ys=>ys.length
noncomputable def Src.item(s:Src)(i:Nat)(M:di):Option D:=
 match s with
 |.con ds=>ds[i]?
 |.live n k=>match M[n]? with
  |some (.lst ds)=>if ds.length=k then ds[i]? else none
  |_=>none
 |.zl n ys=>match M[n]? with
  |some (.lst ds)=>if ds.length=ys.length then(ds[i]?).bind λx=>(ys[i]?).map λy=>.tup [x,y]else none
  |_=>none
noncomputable def Src.fin(s:Src)(M:di):Bool:=
 match s with
 |.con _=>true
 |.live n k=>match M[n]? with
  |some (.lst ds)=>ds.length==k|_=>false
 |.zl n ys=>match M[n]? with
  |some (.lst ds)=>ds.length==ys.length|_=>false
noncomputable def srcOf(M:di)(d:D):Option Src:=
 match d with
 |.tup ds=>some (.con ds)|.vl ds=>some (.con ds)
 |.ref n=>match M[n]? with
  |some (.lst ds)=>some (.live n ds.length)|_=>none
 |_=>none
inductive Flow where
 |next|brk|cont|ret (d:D)
noncomputable def Qh:List Nat->List D->Env->Env
 |i::is,d::ds,ρ=>Qh is ds (ρ.set i (some d))|_,_,ρ=>ρ
def Tg.put(t:Tg)(d:D)(Z:Env):Option Env:=
 match t with
 |.name i=>some (Z.set i (some d))
 |.names is=>match d with
  |.tup ds=>if ds.length=is.length then some (Qh is ds Z)else none
  |_=>none
structure G9 where
 call:Nat->List D->di->Res D
 cls:List Cl
def Cw(fin:di->Bool)(item:Nat->di->Option D)(Z:D->Env->di->Res (Flow×Env)):Nat->Nat->Env->di->Res (Flow×Env)
 |0,_,ρ,M=>if fin M then .ok (.next,ρ) M else .bad
 |k+1,i,ρ,M=>match item i M with
  |none=>.bad
  |some d=>(Z d ρ M).bind λr G=>match r.1 with
   |.next=>Cw fin item Z k (i+1) r.2 G|.cont=>Cw fin item Z k (i+1) r.2 G|.brk=>.ok (.next,r.2) G|.ret v=>.ok (.ret v,r.2) G
def Ce(fin:di->Bool)(item:Nat->di->Option D)(Z:D->di->Res (Option D)):Nat->Nat->di->Res (List D)
 |0,_,M=>if fin M then .ok [] M else .bad
 |k+1,i,M=>match item i M with
  |none=>.bad|some d=>(Z d M).bind λo L=>(Ce fin item Z k (i+1) L).bind λG U=>.ok (match o with|some x=>x::G|none=>G) U
def yt(s:Src)(Z:D->di->Res (Option D))(M:di):Res (List D):=if s.len<=100000 then Ce s.fin s.item Z s.len 0 M else .bad
def Fo(c:Env->di->Res D)(Z:Env->di->Res (Flow×Env)):Nat->Env->di->Res (Flow×Env)
 |0,_,_=>.bad
 |k+1,ρ,M=>(c ρ M).bind λb U=>match b with
  |.bl false=>.ok (.next,ρ) U
  |.bl true=>(Z ρ U).bind λr G=>match r.1 with
   |.next=>Fo c Z k r.2 G|.cont=>Fo c Z k r.2 G|.brk=>.ok (.next,r.2) G|.ret v=>.ok (.ret v,r.2) G
  |_=>.bad
noncomputable def ak5:Nat:=1000000
noncomputable def Wo:D->Option (List D)
 |.tup l=>some l|.vl l=>some l|_=>none
noncomputable def Ke(Z:List (List D))(n:Nat):List D:=(List.range n).map λi=>.tup (Z.map λl=>l.getD i .non)
noncomputable def Am(Z:List D):Nat->List D:=λn=>(Z.zipIdx n).map λp=>D.tup [.int p.2,p.1]
def agw(x:D)(Z:List D)(M:di):Res Src:=match Wo x with
 |some G=>if G.length=Z.length then .ok (.con (Ke [G,Z] Z.length)) M else .bad
 |none=>match x with
  |.ref n=>match M[n]? with
   |some (.lst G)=>if G.length=Z.length then .ok (.zl n Z) M else .bad
   |_=>.bad
  |_=>.bad
def ak6(G:List D)(M:di):Res Src:=match G with
 |[x,y]=>(match Wo y with|some Z=>agw x Z M|none=>.bad)
 |_=>.bad
mutual
def Ex.den(W:G9):Ex->Env->di->Res D
 |.var i,ρ,M=>match ρ[i]? with
  |some (some d)=>.ok d M|_=>.bad
 |.cst d,_,M=>.ok d M|.bin op a b,ρ,M=>(a.den W ρ M).bind λx Z=>(b.den W ρ Z).bind λy G=>Eg op x y G
 |.neg a,ρ,M=>(a.den W ρ M).bind λx Z=>match x with|.int i=>.ok (.int (-i)) Z|_=>.bad
 |.cmp op a b,ρ,M=>(a.den W ρ M).bind λx Z=>(b.den W ρ Z).bind λy G=>Res.uy ((Mj op x y G).map D.bl) G
 |.chain o1 o2 a b c,ρ,M=>(a.den W ρ M).bind λx Z=>(b.den W ρ Z).bind λy G=>(Res.uy (Mj o1 x y G) G).bind λq G=>if q then(c.den W ρ G).bind λz M3=>Res.uy ((Mj o2 y z M3).map D.bl) M3 else .ok (.bl false) G
 |.and a b,ρ,M=>(a.den W ρ M).bind λx Z=>match x with|.bl true=>b.den W ρ Z|.bl false=>.ok (.bl false) Z|_=>.bad
 |.or a b,ρ,M=>(a.den W ρ M).bind λx Z=>match x with|.bl true=>.ok (.bl true) Z|.bl false=>b.den W ρ Z|_=>.bad
 |.not a,ρ,M=>(a.den W ρ M).bind λx Z=>match x with|.bl b=>.ok (.bl !b) Z|_=>.bad
 |.ite c a b,ρ,M=>(c.den W ρ M).bind λx Z=>match x with|.bl true=>a.den W ρ Z|.bl false=>b.den W ρ Z|_=>.bad
 |.tup es,ρ,M=>(es.den W ρ M).bind λU Z=>.ok (.tup U) Z
 |.lst es,ρ,M=>(es.den W ρ M).bind λU Z=>new (.lst U) Z
 |.Hh es,ρ,M=>(es.den W ρ M).bind λU Z=>.ok (.vl U) Z
 |.ade,_,M=>new (.dT []) M
 |.ak3 e,ρ,M=>(e.den W ρ M).bind λx Z=>match toN x with
  |some k=>new (.dN [k]) Z|none=>.bad
 |.ix a b,ρ,M=>(a.den W ρ M).bind λx Z=>(b.den W ρ Z).bind λy G=>Res.uy (Bj x y G) G
 |.cut a lo hi,ρ,M=>(a.den W ρ M).bind λx Z=>(lo.den W ρ Z).bind λl G=>(hi.den W ρ G).bind λh M3=>Res.uy (adg x l h M3) M3
 |.call f es,ρ,M=>(es.den W ρ M).bind λU Z=>W.call f U Z
 |.make c es,ρ,M=>(es.den W ρ M).bind λU Z=>match W.cls[c]? with
  |some C=>(W.call C.init (.ref Z.length::U) (Z++[.ins c []])).bind λr G=>match r with|.non=>.ok (.ref Z.length) G|_=>.bad
  |none=>.bad
 |.meth o m es,ρ,M=>(o.den W ρ M).bind λx Z=>(es.den W ρ Z).bind λU G=>match x with
  |.ref n=>match Z[n]? with
   |some (.ins c _)=>match(W.cls[c]?).bind λC=>C.meths.lookup m with
    |some f=>W.call f (.ref n::U) G|none=>.bad
   |_=>.bad
  |_=>.bad
 |.fld o f,ρ,M=>(o.den W ρ M).bind λx Z=>Res.uy (Rf x f Z) Z
 |.blt b es,ρ,M=>(es.den W ρ M).bind λU Z=>qy b U Z
 |.bm m o es,ρ,M=>(o.den W ρ M).bind λx Z=>if Vp m x Z then(es.den W ρ Z).bind λU G=>Qg m x U G else .bad
 |.comp k t it e,ρ,M=>(it.den W ρ M).bind λs Z =>
  (yt s (λd M=>match t.put d (ρ++List.replicate k none)with
   |some L=>(e.den W L M).bind λx M'=>.ok (some x) M'
   | none=>.bad) Z).bind λU G=>.ok (.vl U) G
 |.Bo k t it c e,ρ,M=>(it.den W ρ M).bind λs Z =>
  (yt s (λd M=>match t.put d (ρ++List.replicate k none)with
   |some L=>(c.den W L M).bind λb M'=>match b with
    |.bl true=>(e.den W L M').bind λx qq=>.ok (some x) qq
    |.bl false=>.ok none M'|_=>.bad
   | none=>.bad) Z).bind λU G=>.ok (.vl U) G
 |.Wl a b,ρ,M=>(a.den W ρ M).bind λx Z =>
  match(keysOf Z x).bind Dp with
  |some xs=>if Dq xs then(b.den W ρ Z).bind λy G =>
   match(keysOf G y).bind Dp with
   |some ys=>if Dq ys then .ok (.bl !Ih xs ys) G else .bad
   |none=>.bad
   else .bad
  |none=>.bad
 |.Mh a b,ρ,M=>(a.den W ρ M).bind λx Z =>
  match toI x with
  |some xs=>if xs.length<31 then(b.den W ρ Z).bind λy G =>
   match toI y with
   |some ys=>if xs.length+ys.length<31 then .ok (.vl ((sortI (Bt (xs++ys))).map D.int)) G else .bad
   |none=>.bad
   else .bad
  |none=>.bad
 |.agp e,ρ,M=>(e.den W ρ M).bind λx Z=>match x with
  |.int i=>if i.natAbs<=100000 then .ok (.tup ((List.range i.toNat).map λ(k:Nat)=>D.int (k:Int))) Z else .bad
  |_=>.bad
def Cv.den(W:G9):Cv->Env->di->Res (List D)
 |.nil,_,M=>.ok [] M|.cons e es,ρ,M=>(e.den W ρ M).bind λx U=>(es.den W ρ U).bind λZ G=>.ok (x::Z) G
def OEx.den(W:G9):OEx->Env->di->Res (Option Int)
 |.none,_,M=>.ok none M|.some e,ρ,M=>(e.den W ρ M).bind λx Z=>match x with|.int i=>.ok (some i) Z|_=>.bad
def Ka.den(W:G9):Ka->Env->di->Res Src
 |.val e,ρ,M=>(e.den W ρ M).bind λx Z=>Res.uy (srcOf Z x) Z
 |.Th e,ρ,M=>(e.den W ρ M).bind λx Z=>match x with
  |.int i=>if i.natAbs<=100000 then .ok (.con ((List.range i.toNat).map λ(k:Nat)=>D.int (k:Int))) Z else .bad
  |_=>.bad
 |.enm e,ρ,M=>(e.den W ρ M).bind λx Z=>match x with
  |.tup ds=>.ok (.con (Am ds 0)) Z|_=>.bad
 |.zip es,ρ,M=>(es.den W ρ M).bind ak6
end
def Lv.put(W:G9)(l:Lv)(d:D)(Z:Env)(M:di):Res Env:=
 match l with
 |.tg t=>Res.uy (t.put d Z) M|.sub o i=>(o.den W Z M).bind λx U=>(i.den W Z U).bind λy G=>(Res.uy (setOp x y d G) G).bind λL _=>.ok Z L
 |.fld o f=>(o.den W Z M).bind λx U=>(Res.uy (Rg x f d U) U).bind λG _=>.ok Z G
mutual
def Bx.den(W:G9):Bx->Env->di->Res (Flow×Env)
 |.asg l e,Z,M=>(e.den W Z M).bind λx G=>(l.put W x Z G).bind λU L=>.ok (.next,U) L
 |.expr e,Z,M=>(e.den W Z M).bind λ_ G=>.ok (.next,Z) G
 |.iff c a b,Z,M=>(c.den W Z M).bind λx G=>match x with|.bl true=>a.den W Z G|.bl false=>b.den W Z G|_=>.bad
 |.whl c b,Z,M=>Fo (c.den W) (b.den W) ak5 Z M
 | .for_ t it b,Z,M=>(it.den W Z M).bind λs G=>Cw s.fin s.item (λd Z M=>match t.put d Z with
  | some U=>b.den W U M|none=>.bad) s.len 0 Z G
 |.ret e,Z,M=>(e.den W Z M).bind λx G=>.ok (.ret x,Z) G
 |.cont,Z,M=>.ok (.cont,Z) M|.raise,_,_=>.bad
def m5.den(W:G9):m5->Env->di->Res (Flow×Env)
 |.nil,ρ,M=>.ok (.next,ρ) M
 |.cons s r,ρ,M=>(s.den W ρ M).bind λp Z=>match p.1 with
  |.next=>r.den W p.2 Z|.brk=>.ok (.brk,p.2) Z|.cont=>.ok (.cont,p.2) Z|.ret d=>.ok (.ret d,p.2) Z
end
structure Prog where
 fns:List Fn
 cls:List Cl
def Fn.run(W:G9)(f:Fn)(Z:List D)(M:di):Res D:=
 if Z.length=f.np then
  (f.body.den W (Z.map some++List.replicate (f.ns-f.np) none) M).bind λp G=>match p.1 with
   |.ret d=>.ok d G|.next=>.ok .non G|_=>.bad
 else .bad
def Prog.call(P:Prog):Nat->Nat->List D->di->Res D
 |0,_,_,_=>.bad
 |n+1,f,ds,M=>match P.fns[f]? with
  |some F=>F.run ⟨P.call n,P.cls⟩ ds M|none=>.bad
@[simp] def aid(i:Nat):(Ex.var i).den W Z M=match Z[i]? with|some (some d)=>.ok d M|_=>.bad:=rfl
@[simp high] theorem be1(d:D)(r:Env):(Ex.var 0).den W (some d::r) M=.ok d M:=rfl
@[simp high] theorem be2(Z:Option D)(d:D)(r:Env):(Ex.var 1).den W (Z::some d::r) M=.ok d M:=rfl
@[simp high] theorem be3(G Z:Option D)(d:D)(r:Env):(Ex.var 2).den W (G::Z::some d::r) M=.ok d M:=rfl
@[simp high] theorem be4(U Z G:Option D)(d:D)(r:Env):(Ex.var 3).den W (U::Z::G::some d::r) M=.ok d M:=rfl
@[simp high] theorem be5(L G U Z:Option D)(d:D)(r:Env):(Ex.var 4).den W (L::G::U::Z::some d::r) M=.ok d M:=rfl
@[simp high] theorem be6(G U L Z a4:Option D)(d:D)(r:Env):(Ex.var 5).den W (G::U::L::Z::a4::some d::r) M=.ok d M:=rfl
@[simp high] theorem be7(G U L Z a4 a5:Option D)(d:D)(r:Env):(Ex.var 6).den W (G::U::L::Z::a4::a5::some d::r) M=.ok d M:=rfl
@[simp high] theorem be8(G U L Z a4 a5 a6:Option D)(d:D)(r:Env):(Ex.var 7).den W (G::U::L::Z::a4::a5::a6::some d::r) M=.ok d M:=rfl
@[simp high] theorem be9(G U L Z a4 a5 a6 a7:Option D)(d:D)(r:Env):(Ex.var 8).den W (G::U::L::Z::a4::a5::a6::a7::some d::r) M=.ok d M:=rfl
@[simp high] theorem bfa(G U L Z a4 a5 a6 a7 a8:Option D)(d:D)(r:Env):(Ex.var 9).den W (G::U::L::Z::a4::a5::a6::a7::a8::some d::r) M=.ok d M:=rfl
@[simp high] theorem bdj(U L a2 Z a4 a5 a6 a7 a8 G:Option D)(d:D)(r:Env):(Ex.var 10).den W (U::L::a2::Z::a4::a5::a6::a7::a8::G::some d::r) M=.ok d M:=rfl
@[simp high] theorem bdk(L a1 a2 G a4 a5 a6 a7 a8 U Z:Option D)(d:D)(r:Env):(Ex.var 11).den W (L::a1::a2::G::a4::a5::a6::a7::a8::U::Z::some d::r) M=.ok d M:=rfl
@[simp high] theorem bdl(a0 a1 a2 U a4 a5 a6 a7 a8 L G Z:Option D)(d:D)(r:Env):(Ex.var 12).den W (a0::a1::a2::U::a4::a5::a6::a7::a8::L::G::Z::some d::r) M=.ok d M:=rfl
@[simp] def aa3(d:D):(Ex.cst d).den W Z M=.ok d M:=rfl
@[simp] def auz(Z:Op2)(a b:Ex):(Ex.bin Z a b).den W G M=(a.den W G M).bind λx U=>(b.den W G U).bind λy M2=>Eg Z x y M2:=rfl
@[simp] def au0(a:Ex):(Ex.neg a).den W Z M=(a.den W Z M).bind λx G=>match x with|.int i=>.ok (.int (-i)) G|_=>.bad:=rfl
@[simp] def aie(Z:Cp)(a b:Ex):(Ex.cmp Z a b).den W G M=(a.den W G M).bind λx U=>(b.den W G U).bind λy M2=>Res.uy ((Mj Z x y M2).map D.bl) M2:=rfl
@[simp] def ak7(G U:Cp)(a b c:Ex):(Ex.chain G U a b c).den W Z M=(a.den W Z M).bind λx M1=>(b.den W Z M1).bind λy M2=>(Res.uy (Mj G x y M2) M2).bind λq M2=>if q then(c.den W Z M2).bind λz L=>Res.uy ((Mj U y z L).map D.bl) L else .ok (.bl false) M2:=rfl
def Rh(a b:Ex):(Ex.and a b).den W Z M=(a.den W Z M).bind λx G=>match x with|.bl true=>b.den W Z G|.bl false=>.ok (.bl false) G|_=>.bad:=rfl
def agx(a b:Ex):(Ex.or a b).den W Z M=(a.den W Z M).bind λx G=>match x with|.bl true=>.ok (.bl true) G|.bl false=>b.den W Z G|_=>.bad:=rfl
@[simp] def aif(a:Ex):(Ex.not a).den W Z M=(a.den W Z M).bind λx G=>match x with|.bl b=>.ok (.bl !b) G|_=>.bad:=rfl
def au1(c a b:Ex):(Ex.ite c a b).den W Z M=(c.den W Z M).bind λx G=>match x with|.bl true=>a.den W Z G|.bl false=>b.den W Z G|_=>.bad:=rfl
@[simp] def au2(Z:Cv):(Ex.tup Z).den W U M=(Z.den W U M).bind λG M1=>.ok (.tup G) M1:=rfl
@[simp] def au3(Z:Cv):(Ex.lst Z).den W U M=(Z.den W U M).bind λG M1=>new (.lst G) M1:=rfl
@[simp] def aoc(Z:Cv):(Ex.Hh Z).den W U M=(Z.den W U M).bind λG M1=>.ok (.vl G) M1:=rfl
@[simp] def aod:Ex.ade.den W Z M=new (.dT []) M:=rfl
@[simp] def a1h(a b:Ex):(Ex.ix a b).den W Z M=(a.den W Z M).bind λx G=>(b.den W Z G).bind λy M2=>Res.uy (Bj x y M2) M2:=rfl
@[simp] def au4(a:Ex)(G U:OEx):(Ex.cut a G U).den W Z M=(a.den W Z M).bind λx L=>(G.den W Z L).bind λl M2=>(U.den W Z M2).bind λh M3=>Res.uy (adg x l h M3) M3:=rfl
@[simp] def aoe(f:Nat)(Z:Cv):(Ex.call f Z).den W U M=(Z.den W U M).bind λG M1=>W.call f G M1:=rfl
@[simp] theorem aof{W:G9}{G:Env}{M:di}(c:Nat)(U:Cv):(Ex.make c U).den W G M=(U.den W G M).bind λL Z=>match W.cls[c]? with
 |some C=>(W.call C.init (.ref Z.length::L) (Z++[.ins c []])).bind λr M2=>match r with|.non=>.ok (.ref Z.length) M2|_=>.bad
 |none=>.bad:=rfl
@[simp] theorem Hi{W:G9}{Z:Env}{M:di}(o:Ex)(m:Nat)(U:Cv):(Ex.meth o m U).den W Z M=(o.den W Z M).bind λx G=>(U.den W Z G).bind λL M2=>match x with
 |.ref n=>match G[n]? with
  |some (.ins c _)=>match(W.cls[c]?).bind λC=>C.meths.lookup m with
   |some f=>W.call f (.ref n::L) M2|none=>.bad
  |_=>.bad
 |_=>.bad:=rfl
@[simp] def au5(o:Ex)(f:Nat):(Ex.fld o f).den W Z M=(o.den W Z M).bind λx M1=>Res.uy (Rf x f M1) M1:=rfl
@[simp] def aa4(b:Blt)(Z:Cv):(Ex.blt b Z).den W U M=(Z.den W U M).bind λG M1=>qy b G M1:=rfl
@[simp] def aog(m:Bm)(o:Ex)(U:Cv):(Ex.bm m o U).den W G M=(o.den W G M).bind λx Z=>if Vp m x Z then(U.den W G Z).bind λL M2=>Qg m x L M2 else .bad:=rfl
theorem Wq(a b:Ex):(Ex.Mh a b).den W G M=(a.den W G M).bind λx L =>
 match toI x with
 |some Z=>if Z.length<31 then(b.den W G L).bind λy M2 =>
  match toI y with
  |some U=>if Z.length+U.length<31 then .ok (.vl ((sortI (Bt (Z++U))).map D.int)) M2 else .bad
  |none=>.bad
  else .bad
 |none=>.bad:=rfl
theorem adh(e:Ex):(Ex.ak3 e).den W Z M=(e.den W Z M).bind λx G=>match toN x with
 |some k=>new (.dN [k]) G|none=>.bad:=rfl
@[simp] theorem aoh{W:G9}{Z:Env}{M:di}(e:Ex):(Ex.agp e).den W Z M=(e.den W Z M).bind λx G=>match x with
 |.int i=>if i.natAbs<=100000 then .ok (.tup ((List.range i.toNat).map λ(k:Nat)=>D.int (k:Int))) G else .bad
 |_=>.bad:=rfl
def Mm(k:Nat)(t:Tg)(it:Ka)(e:Ex):(Ex.comp k t it e).den W G M=(it.den W G M).bind λs L =>
 (yt s (λd M=>match t.put d (G++List.replicate k none)with
  |some Z=>(e.den W Z M).bind λx M'=>.ok (some x) M'
  | none=>.bad) L).bind λU M2=>.ok (.vl U) M2:=rfl
def Wr(k:Nat)(t:Tg)(it:Ka)(c e:Ex):(Ex.Bo k t it c e).den W L M=(it.den W L M).bind λs M1 =>
 (yt s (λd M=>match t.put d (L++List.replicate k none)with
  |some Z=>(c.den W Z M).bind λb U=>match b with
   |.bl true=>(e.den W Z U).bind λx G=>.ok (some x) G
   |.bl false=>.ok none U|_=>.bad
  | none=>.bad) M1).bind λds M2=>.ok (.vl ds) M2:=rfl
@[simp] def Mp:Cv.nil.den W Z M=.ok [] M:=rfl
@[simp] def Hg(e:Ex)(Z:Cv):(Cv.cons e Z).den W G M=(e.den W G M).bind λx L=>(Z.den W G L).bind λU M2=>.ok (x::U) M2:=rfl
@[simp] def ak8:OEx.none.den W Z M=.ok none M:=rfl
@[simp] def ak9(e:Ex):(OEx.some e).den W Z M=(e.den W Z M).bind λx G=>match x with|.int i=>.ok (some i) G|_=>.bad:=rfl
@[simp] def Ii(e:Ex):(Ka.val e).den W Z M=(e.den W Z M).bind λx M1=>Res.uy (srcOf M1 x) M1:=rfl
@[simp] theorem Ri{W:G9}{Z:Env}{M:di}(e:Ex):(Ka.Th e).den W Z M=(e.den W Z M).bind λx G=>match x with
 |.int i=>if i.natAbs<=100000 then .ok (.con ((List.range i.toNat).map λ(k:Nat)=>D.int (k:Int))) G else .bad
 |_=>.bad:=rfl
@[simp] theorem Vz{W:G9}{Z:Env}{M:di}(e:Ex):(Ka.enm e).den W Z M=(e.den W Z M).bind λx G=>match x with
 |.tup ds=>.ok (.con (Am ds 0)) G|_=>.bad:=rfl
@[simp] def au6(Z:Cv):(Ka.zip Z).den W G M=(Z.den W G M).bind ak6:=rfl
@[simp] def aa5(l:Lv)(e:Ex):(Bx.asg l e).den W G M=(e.den W G M).bind λx U=>(l.put W x G U).bind λZ M2=>.ok (.next,Z) M2:=rfl
@[simp] def au7(e:Ex):(Bx.expr e).den W Z M=(e.den W Z M).bind λ_ M1=>.ok (.next,Z) M1:=rfl
def a1i(c:Ex)(a b:m5):(Bx.iff c a b).den W Z M=(c.den W Z M).bind λx G=>match x with|.bl true=>a.den W Z G|.bl false=>b.den W Z G|_=>.bad:=rfl
@[simp] def a1j(e:Ex):(Bx.ret e).den W Z M=(e.den W Z M).bind λx M1=>.ok (.ret x,Z) M1:=rfl
@[simp] def au8:Bx.cont.den W Z M=.ok (.cont,Z) M:=rfl
@[simp] def aoi:Bx.raise.den W Z M=.bad:=rfl
def agy(c:Ex)(b:m5):(Bx.whl c b).den W Z M=Fo (c.den W) (b.den W) ak5 Z M:=rfl
def Tv(t:Tg)(it:Ka)(b:m5):(Bx.for_ t it b).den W Z M=(it.den W Z M).bind λs M1=>Cw s.fin s.item (λd Z M=>match t.put d Z with
 | some G=>b.den W G M|none=>.bad) s.len 0 Z M1:=rfl
@[simp] def au9:m5.nil.den W Z M=.ok (.next,Z) M:=rfl
theorem aoj{W:G9}{Z:Env}{M:di}(s:Bx)(r:m5):(m5.cons s r).den W Z M=(s.den W Z M).bind λp M1=>match p.1 with
 |.next=>r.den W p.2 M1|.brk=>.ok (.brk,p.2) M1|.cont=>.ok (.cont,p.2) M1|.ret d=>.ok (.ret d,p.2) M1:=rfl
def aok(W:G9)(r:m5)(x:Res (Flow×Env)):Res (Flow×Env):=x.bind λp Z=>match p.1 with
 |.next=>r.den W p.2 Z|.brk=>.ok (.brk,p.2) Z|.cont=>.ok (.cont,p.2) Z|.ret d=>.ok (.ret d,p.2) Z
@[simp] def bdm(s:Bx)(r:m5):(m5.cons s r).den W Z M=aok W r (s.den W Z M):=rfl
@[simp] def a83(r:m5):aok W r (.ok (.next,Z) M)=r.den W Z M:=rfl
@[simp] def bdn(r:m5):aok W r (.ok (.brk,Z) M)=.ok (.brk,Z) M:=rfl
@[simp] def a84(r:m5):aok W r (.ok (.cont,Z) M)=.ok (.cont,Z) M:=rfl
@[simp] def bdo(r:m5)(d:D):aok W r (.ok (.ret d,Z) M)=.ok (.ret d,Z) M:=rfl
def ifK{α:Type}(a b:di->Res α)(x:Res D):Res α:=x.bind λx Z=>match x with|.bl true=>a Z|.bl false=>b Z|_=>.bad
@[simp] def a85(c:Ex)(a b:m5):(Bx.iff c a b).den W Z M=ifK (a.den W Z) (b.den W Z) (c.den W Z M):=rfl
@[simp] def bfb(c a b:Ex):(Ex.ite c a b).den W Z M=ifK (a.den W Z) (b.den W Z) (c.den W Z M):=rfl
@[simp] def bfc(a b:Ex):(Ex.and a b).den W Z M=ifK (b.den W Z) (.ok (.bl false)) (a.den W Z M):=rfl
@[simp] def bi0(a b:Ex):(Ex.or a b).den W Z M=ifK (.ok (.bl true)) (b.den W Z) (a.den W Z M):=rfl
@[simp] def bi1(a b:di->Res α):ifK a b (.ok (.bl true) M)=a M:=rfl
@[simp] def bi2(a b:di->Res α):ifK a b (.ok (.bl false) M)=b M:=rfl
theorem Zk{W:G9}{Z:Env}{M:di}(a b:Ex):(Ex.Wl a b).den W Z M=(a.den W Z M).bind λx G =>
 match(keysOf G x).bind Dp with
 |some U=>if Dq U then(b.den W Z G).bind λy M2 =>
  match(keysOf M2 y).bind Dp with
  |some L=>if Dq L then .ok (.bl !Ih U L) M2 else .bad
  |none=>.bad
  else .bad
 |none=>.bad:=rfl
@[simp] def aol(t:Tg)(d:D):(Lv.tg t).put W d Z M=Res.uy (t.put d Z) M:=rfl
@[simp] def ava(o i:Ex)(d:D):(Lv.sub o i).put W d Z M=(o.den W Z M).bind λx U=>(i.den W Z U).bind λy G=>(Res.uy (setOp x y d G) G).bind λM3 _=>.ok Z M3:=rfl
@[simp] def avb(o:Ex)(f:Nat)(d:D):(Lv.fld o f).put W d Z M=(o.den W Z M).bind λx G=>(Res.uy (Rg x f d G) G).bind λM2 _=>.ok Z M2:=rfl
@[simp] def a1k(i:Nat)(d:D):(Tg.name i).put d Z=some (Z.set i (some d)):=rfl
@[simp] def azg(is:Yf)(Z:List D)(h:Z.length=is.length):(Tg.names is).put (.tup Z) G=some (Qh is Z G):=by simp[Tg.put,h]
@[simp] def azh(i:Nat)(is:Yf)(d:D)(Z:List D):Qh (i::is) (d::Z) G=Qh is Z (G.set i (some d)):=rfl
@[simp] def a1l(Z:List D):Qh [] Z ρ=ρ:=by cases Z<;>rfl
@[simp] def a86(i j:Int):Eg .add (.int i) (.int j) M=.ok (.int (i+j)) M:=rfl
@[simp] def a87(i j:Int):Eg .sub (.int i) (.int j) M=.ok (.int (i-j)) M:=rfl
def Mq(i j:Int)(h:(-(2^64)<i/\i<2^64)\/(-(2^64)<j/\j<2^64)):Eg .mul (.int i) (.int j) M=.ok (.int (i*j)) M:=bz h
def Zm(i j:Int)(h:0<j)(Z:j<1073741824):Eg .fdiv (.int i) (.int j) M=.ok (.int (i/j)) M:=bz ⟨h,Z⟩
@[simp] def a88(i j:Int)(h:0<j):Eg .mod (.int i) (.int j) M=.ok (.int (i%j)) M:=bz h
@[simp] def a1m:Eg .pow (.int 10) (.int 18) M=.ok (.int (10^18)) M:=by simp[Eg,azf]
def Zn(xs ys:List D)(h:xs.length+ys.length<=100000):Eg .add (.vl xs) (.vl ys) M=.ok (.vl (xs++ys)) M:=bz h
@[simp] def bfd(i j:Int):Mj .lt (.int i) (.int j) M=some (decide (i<j)):=rfl
@[simp] def bfe(i j:Int):Mj .le (.int i) (.int j) M=some (decide (i<=j)):=rfl
@[simp] def cmp_gt(i j:Int):Mj .gt (.int i) (.int j) M=some (decide (j<i)):=rfl
@[simp] def bff(i j:Int):Mj .ge (.int i) (.int j) M=some (decide (j<=i)):=rfl
@[simp] def bfg(a b:D):Mj .eq a b M=Bq M a b:=rfl
@[simp] def bfh(a b:D):Mj .ne a b M=(Bq M a b).map not:=rfl
@[simp] def bfi(a b:D):Mj .inn a b M=Qf M a b:=rfl
@[simp] def a7o(a b:D):Mj .Uu a b M=(Qf M a b).map not:=rfl
def avc(n:Nat)(i j:Int):Mi M (n+1) (.int i) (.int j)=some (decide (i=j)):=rfl
def Hj(G:f a b=some x)(U:Uw f Z bs=some y):Uw f (a::Z) (b::bs)=some (x&&y):=by simp[Uw,G,U]
@[simp] def eq_int(i j:Int):Bq M (.int i) (.int j)=some (decide (i=j)):=rfl
@[simp] def bi3(i j:Bool):Bq M (.bl i) (.bl j)=some (i==j):=rfl
@[simp] def ala(ds:List D):gn M (.vl ds)=some ds:=rfl
@[simp] def a89(ds:List D):Bk M (.vl ds)=some ds:=rfl
@[simp] def a7p(ds:List D):Bk M (.tup ds)=some ds:=rfl
def q9(h:M[n]?=some (.lst ds)):gn M (.ref n)=some ds:=by simp[gn,h]
def Mr(h:gn M d=some ds):Bk M d=some ds:=by cases d<;>first|exact h|(simp[gn]at h)
set_option tactic.hygienic true in
def len_list(h:gn M d=some ds):qy .len [d] M=.ok (.int ds.length) M:=by
 show Ml M d=_;cases d with
 |vl Z=>simp[gn]at h;subst h;rfl
 |ref n =>
  simp only[gn]at h;split at h<;>simp at h;rename_i Z Y;subst h;simp[Ml,Y]
 |_=>simp[gn]at h
@[simp] def a9a(d:D)(g:D->Res D):Dm [d] g=g d:=rfl
@[simp] def a9b(g:D->Res D):Dm [] g=.bad:=rfl
@[simp] def a7q(a b:D)(l:List D)(g:D->Res D):Dm (a::b::l) g=.bad:=rfl
@[simp] def bfj(i j:Int)(f:Int->Int->Int)(g:D->Option Int):two [.int i,.int j] f g M=.ok (.int (f i j)) M:=rfl
@[simp] def avd(d:D)(f:Int->Int->Int)(g:D->Option Int):two [d] f g M=Res.uy ((g d).map D.int) M:=rfl
@[simp] def a1n(Z:List D):Ml M (.tup Z)=.ok (.int Z.length) M:=rfl
@[simp] theorem azi{M:di}(n:Nat):Vy M (.ref n)=match M[n]? with
 |some (.dT kvs)=>if agv kvs then new (.dT kvs) M else .bad
 |_=>.bad:=rfl
def Fp(h:gn M d=some ds)(U:0<=i)(hx:ds[i.toNat]?=some x):Bj d (.int i) M=some x:=by
 obtain⟨G,Z⟩:=ak.mp hx;have L:i<ds.length:=by lia
 cases d with
 |vl xs=>simp[gn]at h;subst h;simp[Bj,Bk,Yz,U,L,G,Z]
 |ref n =>
  simp only[gn]at h;cases e:M[n]? with
  |none=>rw[e]at h;simp at h|some o=>rw[e]at h;cases o<;>simp at h<;>subst h<;>simp[Bj,gn,e,Yz,U,L,G,Z]
 |_=>simp[gn]at h
def Iz(U:0<=i)(L:ds[i.toNat]?=some x):Bj (.tup ds) (.int i) M=some x:=by
 obtain⟨G,Z⟩:=ak.mp L;have hi:i<ds.length:=by lia
 simp[Bj,Bk,Yz,U,hi,G,Z]
def a9c(U:0<=i)(L:ds[i.toNat]?=some x):Bj (.fz ds) (.int i) M=some x:=by
 obtain⟨G,Z⟩:=ak.mp L;have hi:i<ds.length:=by lia
 simp[Bj,Yz,U,hi,G,Z]
def aom:qy .len [.fz ds] M=.ok (.int ds.length) M:=rfl
@[simp] def bdp(x:D)(r:List D):Bj (.tup (x::r)) (.int 0) M=some x:=Iz (by decide) rfl
@[simp] def bdq(x y:D)(r:List D):Bj (.tup (x::y::r)) (.int 1) M=some y:=Iz (by decide) rfl
@[simp] def bdr(x y z:D)(r:List D):Bj (.tup (x::y::z::r)) (.int 2) M=some z:=Iz (by decide) rfl
def Zo(h:M[n]?=some (.dT kvs))(Z:Rc b=some k):Bj (.ref n) b M=Bp kvs k:=by simp[Bj,h,Z]
def azj(h:M[n]?=some (.dT kvs))(Z:Rc b=some k):Qf M b (.ref n)=some (Bp kvs k).isSome:=by simp[Qf,h,Z]
@[simp] def Zq(i j:Int):Rc (.tup [.int i,.int j])=some [.inl i,.inl j]:=rfl
@[simp] def bi4(i:Int):agq (.int i)=some (.inl i):=rfl
def Eh(h:M[n]?=some (.lst Z)):Vp .append (.ref n) M=true:=by simp[Vp,gn,h]
def alb(Z G:List D)(h:Z.length+G.length<=100000):Eg .ak2 (.vl Z) (.vl G) M=new (.lst (Z++G)) M:=bz h
def Dr(h:M[n]?=some (.lst Z))(G:Z.length<100000):Qg .append (.ref n) [d] M=.ok .non (M.set n (.lst (Z++[d]))):=by simp[Qg,onL,h,G]
def aih(h:M[n]?=some (.lst Z))(G:0<=i)(U:i<Z.length):setOp (.ref n) (.int i) d M=some (M.set n (.lst (Z.set i.toNat d))):=by simp[setOp,h,Yz,G,U]
def agz(h:M[n]?=some (.dT kvs))(Z:Rc b=some k)(G:kvs.length<100000):setOp (.ref n) b d M=some (M.set n (.dT (Fy kvs k d))):=by simp[setOp,h,Z,G]
def ye{M:di}(h:M[a]?=some o):a<M.length:=(ak.mp h).1
def rm{M:di}(h:M[a]?=some p):(M.set a o)[a]?=some o:=by rw[z6 (ye h)]
def yf{M:di}(h:b≠a):(M.set b o)[a]?=M[a]?:=xf h
def o5{M:di}{a:Nat}(h:M[a]?=some o):(M++X)[a]?=some o:=by rw[jx (ye h)];exact h
@[simp] def bds{M:di}:(M++[o])[M.length]?=some o:=by simp
theorem Ws(x:Int):∀l,(insI x l).Perm (x::l)
 |[]=>m9 _
 |y::l=>by
  unfold insI;split
  .exact m9 _
  .exact((Ws x l).cons y).trans (List.Perm.swap x y l)
theorem Cm:∀l,(sortI l).Perm l
 |[]=>m9 _|x::l=>(Ws x _).trans ((Cm l).cons x)
theorem aon(x:Int):∀{l:U1},l.Pairwise (·<=·)->(insI x l).Pairwise (·<=·)
 |[],_=>List.pairwise_singleton _ _
 |y::l,h=>by
  obtain⟨G,U⟩:=wg.mp h;unfold insI;split
  .refine wg.mpr ⟨λz Z=>?_,h⟩
   rcases cj.mp Z with rfl|Z
   .lia
   .have:=G z Z;lia
  .refine wg.mpr ⟨λz Z=>?_,aon x U⟩
   rcases cj.mp ((Ws x l).mem_iff.mp Z)with rfl|Z
   .lia
   .exact G z Z
theorem V0:∀l,(sortI l).Pairwise (·<=·)
 |[]=>List.Pairwise.nil|x::l=>aon x (V0 l)
set_option tactic.hygienic true in
theorem Tw(k:Int):∀l,k∈Bt l↔k∈l
 |[]=>Iff.rfl
 |x::l=>by
  unfold Bt;split
  .rename_i h
   rw[Tw k l,cj];exact⟨.inr,λz=>z.elim (λe=>e▸h) id⟩
  .rw[cj,cj,Tw k l]
set_option tactic.hygienic true in
theorem aa6:∀l,(Bt l).Nodup
 |[]=>wk
 |x::l=>by
  unfold Bt;split
  .exact aa6 l
  .rename_i h
   exact ju.mpr ⟨λz=>h ((Tw x l).mp z),aa6 l⟩
theorem ag0:∀l,(Bt l).length<=l.length
 |[]=>cg _
 |x::l=>by
  have:=ag0 l;unfold Bt;split<;>simp<;>omega
theorem aii:∀{a b:U1},a.Pairwise (·<=·)->b.Pairwise (·<=·)->a.Nodup->b.Nodup->(∀k,k∈a↔k∈b)->a=b
 |[],[],_,_,_,_,_=>rfl|[],y::b,_,_,_,_,h=>nomatch(h y).mpr dh|x::a,[],_,_,_,_,h=>nomatch(h x).mp dh
 |x::a,y::b,ha,hb,na,nb,h=>by
  obtain⟨U,a2⟩:=wg.mp ha;obtain⟨b1,b2⟩:=wg.mp hb;obtain⟨G,c2⟩:=ju.mp na;obtain⟨L,Z⟩:=ju.mp nb;have e:x=y:=by
   rcases cj.mp ((h x).mp dh)with e|m
   .exact e
   .rcases cj.mp ((h y).mpr dh)with e|m'
    .exact e.symm
    .have:=b1 x m;have:=U y m';lia
  subst e
  congr 1
  refine aii a2 b2 c2 Z λk=>⟨λm=>?_,λm=>?_⟩
  .rcases cj.mp ((h k).mp (bx _ m))with rfl|m'
   .exact absurd m G
   .exact m'
  .rcases cj.mp ((h k).mpr (bx _ m))with rfl|m'
   .exact absurd m L
   .exact m'
def aij(G:ns.Pairwise (·<=·))(Z:ns.Nodup)(U:∀k,k∈l↔k∈ns):ns=sortI (Bt l):=
 aii G (V0 _) Z ((Cm _).nodup_iff.mpr (aa6 l)) λk=>by rw[(Cm _).mem_iff,Tw,U]
structure Tot{α:Type}(lt:α->α->Bool):Prop where
 asy:∀a b,lt a b=true->lt b a=false
 tr:∀a b c,lt a b=true->lt b c=true->lt a c=true
 eq:∀a b,lt a b=false->lt b a=false->a=b
def Tot.irr{Z:Type}{lt:Z->Z->Bool}(h:Tot lt)(a:Z):lt a a=false:=by
 cases e:lt a a with
 |false=>rfl|true=>exact absurd (h.asy a a e) (by simp[e])
def aoo:Tot ltI:=⟨λa b h=>by simp[ltI]at h⊢;lia,λa b c h k=>by simp[ltI]at h k⊢;lia,λa b h k=>by simp[ltI]at h k;lia⟩
theorem V1{α:Type}[DecidableEq α]{lt:α->α->Bool}(h:Tot lt):Tot (Fw lt)where
 asy:=λa=>by
  induction a with
  |nil=>intro b;cases b<;>simp[Fw]
  |cons x a L =>
   intro b;cases b with
   |nil=>simp[Fw]
   |cons y b =>
    by_cases e:x=y
    .simp only[Fw,bz e,bz e.symm];exact L b
    .simp only[Fw,bc e,bc (kj e)];exact h.asy x y
 tr:=λa=>by
  induction a with
  |nil =>
   intro b c G Z;cases c with
   |nil=>cases b<;>simp[Fw]at Z|cons _ _=>simp[Fw]
  |cons x a L =>
   intro b c G Z;cases b with
   |nil=>simp[Fw]at G
   |cons y b =>
    cases c with
    |nil=>simp[Fw]at Z
    |cons z c =>
     simp only[Fw]at G Z⊢
     by_cases e1:x=y
     .subst e1
      rw[bz rfl]at G
      by_cases U:x=z
      .rw[bz U]at Z⊢;exact L b c G Z
      .rw[bc U]at Z⊢;exact Z
     .rw[bc e1]at G
      by_cases U:y=z
      .subst U
       rw[bc e1];exact G
      .rw[bc U]at Z
       have h3:=h.tr x y z G Z;have:¬x=z:=λe=>by rw[e,h.irr]at h3;cases h3
       rw[bc this];exact h3
 eq:=λa=>by
  induction a with
  |nil =>
   intro b G Z;cases b with
   |nil=>rfl|cons _ _=>simp[Fw]at G
  |cons x a L =>
   intro b G Z;cases b with
   |nil=>simp[Fw]at Z
   |cons y b =>
    simp only[Fw]at G Z
    by_cases e:x=y
    .subst e
     rw[bz rfl]at G Z;rw[L b G Z]
    .rw[bc e]at G
     rw[bc (kj e)]at Z;exact absurd (h.eq x y G Z) e
section
variable{α:Type}{lt:α->α->Bool}
theorem Zr(x:α):∀l,(Kc lt x l).Perm (x::l)
 |[]=>m9 _
 |y::l=>by
  unfold Kc;split
  .exact m9 _
  .exact((Zr x l).cons y).trans (List.Perm.swap x y l)
theorem Ow:∀l:List α,(O6 lt l).Perm l
 |[]=>m9 _|x::l=>(Zr x _).trans ((Ow l).cons x)
theorem Zt(h:Tot lt)(x y:α):∀l,Kc lt x (Kc lt y l)=Kc lt y (Kc lt x l)
 |[]=>by
  cases a:lt x y with
  |true=>simp[Kc,a,h.asy x y a]
  |false=>cases b:lt y x with
   |true=>simp[Kc,a,b]|false=>rw[h.eq x y a b]
 |z::l=>by
  cases a:lt x z with
  |true=>cases b:lt y z with
   |true =>
    cases c:lt x y with
    |true=>simp[Kc,a,b,c,h.asy x y c]
    |false=>cases d:lt y x with
     |true=>simp[Kc,a,b,c,d]|false=>rw[h.eq x y c d]
   |false =>
    have c:lt x y=true:=by
     cases c:lt x y with
     |true=>rfl
     |false=>cases d:lt y x with
      |true=>rw[h.tr y x z d a]at b;cases b|false=>rw[h.eq x y c d,b]at a;cases a
    simp[Kc,a,b,h.asy x y c]
  |false=>cases b:lt y z with
   |true =>
    have c:lt y x=true:=by
     cases c:lt y x with
     |true=>rfl
     |false=>cases d:lt x y with
      |true=>rw[h.tr x y z d b]at a;cases a|false=>rw[h.eq x y d c,b]at a;cases a
    simp[Kc,a,b,h.asy y x c]
   |false=>simp[Kc,a,b,Zt h x y l]
def aik(h:Tot lt){l l':List α}(p:l.Perm l'):O6 lt l=O6 lt l':=by
 induction p with
 |nil=>rfl|cons x _ Z=>show Kc lt x (O6 lt _)=Kc lt x (O6 lt _);rw[Z]
 |swap x y l=>exact Zt h y x (O6 lt l)|trans _ _ a b=>exact a.trans b
end
theorem aa7{fin:di->Bool}{item:Nat->di->Option D}{U:D->Env->di->Res (Flow×Env)}(I:Nat->Env->di->Prop){n:Nat}
 (step:∀i Z M,i<n->I i Z M->∃d fl G L,item i M=some d/\U d Z M=.ok (fl,G) L/\(fl=.next\/fl=.cont)/\I (i+1) G L) (Qi:∀Z M,I n Z M->fin M=true) :
 ∀(k i:Nat)(Z:Env)(M:di),i+k=n->I i Z M->∃G L,Cw fin item U k i Z M=.ok (.next,G) L/\I n G L
 |0,i,Z,M,e,h=>by
  have q:i=n:=by lia
  rw[q]at h;exact⟨Z,M,by simp[Cw,Qi Z M h],h⟩
 |k+1,i,Z,M,e,h=>by
  obtain⟨d,fl,qk,M1,h1,h2,h3,h4⟩:=step i Z M (by lia) h;obtain⟨qq,M2,g1,g2⟩:=aa7 I step Qi k (i+1) qk M1 (by lia) h4;refine⟨qq,M2,?_,g2⟩;rcases h3 with rfl|rfl<;>simp[Cw,h1,h2,g1]
def V2(I:Nat->Env->di->Prop)(h0:I 0 G M)(step:∀i d G M,ds[i]?=some d->I i G M->∃U Z M',body d G M=.ok (U,Z) M'/\(U=.next\/U=.cont)/\I (i+1) Z M') :
 ∃Z M',Cw (Src.con ds).fin (Src.con ds).item body (Src.con ds).len 0 G M=.ok (.next,Z) M'/\I ds.length Z M':=by
 refine aa7 I (λi G M L h=>?_) (λ_ _ _=>rfl) ds.length 0 G M (rz _) h0;obtain⟨U,Z,M',a,b,c⟩:=step i ds[i] G M (by simp[L]) h;exact⟨ds[i],U,Z,M',by simp[Src.item,L],a,b,c⟩
def aa8(I:Nat->Env->di->Prop)(h0:I 0 ρ M)(step:∀i ρ M,i<n->I i ρ M->∃U Z M',body (.int i) ρ M=.ok (U,Z) M'/\(U=.next\/U=.cont)/\I (i+1) Z M') :
 ∃Z M',Cw (Src.con ((List.range n).map λ(k:Nat)=>D.int (k:Int))).fin (Src.con ((List.range n).map λ(k:Nat)=>D.int (k:Int))).item body (Src.con ((List.range n).map λ(k:Nat)=>D.int (k:Int))).len 0 ρ M=.ok (.next,Z) M'/\I n Z M':=by
 have:=V2 (ds:=(List.range n).map λ(k:Nat)=>D.int (k:Int)) (body:=body) I h0 (λi d ρ M G h=>by
  have L:i<n:=by have:=(ak.mp G).1;simpa using this
  rw[dm,lq L]at G;have G:D.int (i:Int)=d:=by simpa using G
  subst G;exact step i ρ M L h)
 simpa using this
def aop(I:Nat->Env->di->Prop)(h0:I 0 G M)(stay:∀i G M,I i G M->M[p]?=some (.lst ds))(step:∀i d G M,ds[i]?=some d->I i G M->∃U Z M',body d G M=.ok (U,Z) M'/\(U=.next\/U=.cont)/\I (i+1) Z M') :
 ∃Z M',Cw (Src.live p ds.length).fin (Src.live p ds.length).item body (Src.live p ds.length).len 0 G M=.ok (.next,Z) M'/\I ds.length Z M':=by
 refine aa7 I (λi G M L h=>?_) (λG M h=>by simp[Src.fin,stay _ G M h]) ds.length 0 G M (rz _) h0;obtain⟨U,Z,M',a,b,c⟩:=step i ds[i] G M (by simp[L]) h;exact⟨ds[i],U,Z,M',by simp[Src.item,stay i G M h,L],a,b,c⟩
theorem Fz{fin:di->Bool}{item:Nat->di->Option D}{body:D->di->Res (Option D)}(I:Nat->List D->di->Prop){n:Nat}
 (step:∀i Z M,i<n->I i Z M->∃d o G,item i M=some d/\body d M=.ok o G/\I (i+1) (Z++o.toList) G) (L:∀Z M,I n Z M->fin M=true) :
 ∀(k i:Nat)(Z:List D)(M:di),i+k=n->I i Z M->∃U G,Ce fin item body k i M=.ok U G/\I n (Z++U) G
 |0,i,Z,M,e,h=>by
  have q:i=n:=by lia
  rw[q]at h;exact⟨[],M,by simp[Ce,L Z M h],by simpa using h⟩
 |k+1,i,Z,M,e,h=>by
  obtain⟨d,o,M1,h1,h2,h3⟩:=step i Z M (by lia) h;obtain⟨U,M2,g1,g2⟩:=Fz I step L k (i+1) (Z++o.toList) M1 (by lia) h3;refine⟨o.toList++U,M2,?_,by rw[<-Ah];exact g2⟩;cases o<;>simp[Ce,h1,h2,g1]
def Tz{s:Src}{ds:List D}(Qi:s.fin M=true)(hl:s.len=ds.length)(hi:∀i,i<ds.length->s.item i M=ds[i]?)(h:∀d∈ds,body d M=.ok (g d) M) :
 Ce s.fin s.item body s.len 0 M=.ok (ds.filterMap g) M:=by
 obtain⟨ys,Z,e,h1,L⟩:=Fz (fin:=s.fin) (item:=s.item) (body:=body) (λi U Z=>Z=M/\U=(ds.take i).filterMap g) (n:=ds.length) (λi U Z G hI=>by
  obtain⟨rfl,rfl⟩:=hI;refine⟨ds[i],g ds[i],Z,by rw[hi i G];simp[G],h _ (ph G),rfl,?_⟩;rw[List.take_succ,List.filterMap_append];simp[G];cases e:g ds[i]<;>simp[e]) (λU Z h=>by rw[h.1];exact Qi) ds.length 0 [] M (rz _) ⟨rfl,rfl⟩
 rw[hl,e,h1];simp at L;rw[L]
def aoq(h:∀d∈ds,body d M=.ok (some (g d)) M) :
 Ce (Src.con ds).fin (Src.con ds).item body (Src.con ds).len 0 M=.ok (ds.map g) M:=by
 rw[Tz (s:=.con ds) (ds:=ds) (g:=λd=>some (g d)) rfl rfl (λi _=>rfl) h,List.filterMap_eq_map']
end MW
namespace MW
theorem T3{c:Env->di->Res D}{U:Env->di->Res (Flow×Env)}(I:Nat->Env->di->Prop)(qq:Env->di->Prop)
 (step:∀m G M,I m G M->(∃L,c G M=.ok (.bl false) L/\qq G L) \/
  ∃L fl Z M2 m',c G M=.ok (.bl true) L/\U G L=.ok (fl,Z) M2/\(fl=.next\/fl=.cont)/\m'<m/\I m' Z M2) :
 ∀(k m:Nat)(G:Env)(M:di),m<k->I m G M->∃Z M',Fo c U k G M=.ok (.next,Z) M'/\qq Z M'
 |0,m,_,_,h,_=>absurd h (Bb _)
 |k+1,m,G,M,h,hI=>by
  rcases step m G M hI with⟨L,h1,h2⟩|⟨L,fl,qv,M2,m',h1,h2,h3,h4,h5⟩
  .exact⟨G,L,by simp[Fo,h1],h2⟩
  .obtain⟨qk,M3,g1,g2⟩:=T3 I qq step k m' qv M2 (b_ h4 (z_ h)) h5
   refine⟨qk,M3,?_,g2⟩;rcases h3 with rfl|rfl<;>simp[Fo,h1,h2,g1]
end MW
namespace MW
def w6(M Z:di):Prop:=∀(a:Nat)(o:MO),M[a]?=some o->Z[a]?=some o
def w6.refl(M:di):w6 M M:=λ_ _ h=>h
def w6.trans(a:w6 M Z)(b:w6 Z M2):w6 M M2:=λx o h=>b x o (a x o h)
def w6.app(M X:di):w6 M (M++X):=λ_ _ h=>o5 h
def w6.len(k:w6 M Z):M.length<=Z.length:=by
 rcases Nat.eq_zero_or_pos M.length with h|h
 .exact a_ (f_ h) (iy _)
 .have:=ye (k (M.length-1) M[M.length-1] (by simp))
  lia
theorem w6.gn(k:w6 M Z)(h:gn M d=some ds):MW.gn Z d=some ds:=by
 cases d with
 |vl G=>exact h
 |ref n =>
  simp only[MW.gn]at h⊢;cases e:M[n]? with
  |none=>rw[e]at h;simp at h|some o=>rw[e]at h;rw[k n o e];exact h
 |_=>simp[MW.gn]at h
def Wt(I:Nat->Env->di->Prop)(G:gn M d=some ds)(L:I 0 ρ M)(stay:∀i ρ M,I i ρ M->gn M d=some ds)(step:∀i x ρ M,ds[i]?=some x->I i ρ M->∃U Z M',body x ρ M=.ok (U,Z) M'/\(U=.next\/U=.cont)/\I (i+1) Z M') :
 ∃s,srcOf M d=some s/\∃Z M',Cw s.fin s.item body s.len 0 ρ M=.ok (.next,Z) M'/\I ds.length Z M':=by
 cases d with
 |vl xs=>simp[gn]at G;subst G;exact⟨_,rfl,V2 I L step⟩
 |ref n =>
  cases e:M[n]? with
  |none=>simp[gn,e]at G
  |some o =>
   cases o with
   |lst xs =>
    simp[gn,e]at G;subst G;refine⟨.live n xs.length,by simp[srcOf,e],aop I L (λi ρ M h=>?_) step⟩;have:=stay i ρ M h;simp only[gn]at this;split at this<;>simp_all
   |_=>simp[gn,e]at G
 |_=>simp[gn]at G
def ail(Z:ds.length<=100000)(h:∀d∈ds,body d M=.ok (some (g d)) M):yt (.con ds) body M=.ok (ds.map g) M:=by rw[yt,bz (show(Src.con ds).len<=100000 from Z)];exact aoq h
def Wu(Z:ds.length<=100000)(h:∀d∈ds,body d M=.ok (g d) M):yt (.con ds) body M=.ok (ds.filterMap g) M:=by rw[yt,bz (show(Src.con ds).len<=100000 from Z)];exact Tz (s:=.con ds) rfl rfl (λ_ _=>rfl) h
def Uy(Z:gn M d=some ds)(U:ds.length<=100000)(h:∀x∈ds,body x M=.ok (g x) M) :
 ∃s,srcOf M d=some s/\yt s body M=.ok (ds.filterMap g) M:=by
 cases d with
 |vl G=>simp[gn]at Z;subst Z;exact⟨_,rfl,Wu U h⟩
 |ref n =>
  cases e:M[n]? with
  |none=>simp[gn,e]at Z
  |some o =>
   cases o with
   |lst G =>
    simp[gn,e]at Z;subst Z;exact⟨.live n G.length,by simp[srcOf,e],by rw[yt,bz (show(Src.live n G.length).len<=100000 from U)];exact Tz (s:=.live n G.length) (by simp[Src.fin,e]) rfl (λi _=>by simp[Src.item,e]) h⟩
   |_=>simp[gn,e]at Z
 |_=>simp[gn]at Z
def Ei(k:Nat)(t:Tg)(it:Ka)(e:Ex):(Ex.comp k t it e).den W Z M=(it.den W Z M).bind λs U =>
 (yt s (λd M=>(Res.uy (t.put d (Z++List.replicate k none)) M).bind λG M=>(e.den W G M).bind λx M'=>.ok (some x) M') U).bind λL M2=>.ok (.vl L) M2:=by
 rw[Mm]
 congr 1;funext s U;congr 2;funext d M
 cases t.put d (Z++List.replicate k none)<;>rfl
def Ms(k:Nat)(t:Tg)(it:Ka)(c e:Ex):(Ex.Bo k t it c e).den W U M=(it.den W U M).bind λs M1 =>
 (yt s (λd M=>(Res.uy (t.put d (U++List.replicate k none)) M).bind λZ M=>(c.den W Z M).bind λb L =>
  match b with
   |.bl true=>(e.den W Z L).bind λx G=>.ok (some x) G
   | .bl false=>.ok none L|_=>.bad) M1).bind λds M2=>.ok (.vl ds) M2:=by
 rw[Wr]
 congr 1;funext s M1;congr 2;funext d M
 cases t.put d (U++List.replicate k none)<;>rfl
def Rj(t:Tg)(it:Ka)(b:m5):(Bx.for_ t it b).den W Z M=(it.den W Z M).bind λs M1=>Cw s.fin s.item (λd Z M=>(Res.uy (t.put d Z) M).bind λG M=>b.den W G M) s.len 0 Z M1:=by
 rw[Tv]
 congr 1;funext s M1;congr 1;funext d Z M
 cases t.put d Z<;>rfl
def Dl(L:it.den W ρ M=.ok (.int (n:Int)) M1)(hn:n<=100000)(I:Nat->Env->di->Prop)(h0:I 0 ρ M1)(step:∀i ρ M,i<n->I i ρ M->∃G U Z M',t.put (.int i) ρ=some G/\b.den W G M=.ok (U,Z) M'/\(U=.next\/U=.cont)/\I (i+1) Z M') :
 ∃Z M',(Bx.for_ t (.Th it) b).den W ρ M=.ok (.next,Z) M'/\I n Z M':=by
 rw[Rj,Ri,L];have Q9:((n:Int)).natAbs<=100000:=by lia
 simp only[Res.z7,Q9,jg,u9];exact aa8 I h0 (λi ρ M hi h=>by
  obtain⟨G,U,Z,M',a,b,c,d⟩:=step i ρ M hi h;exact⟨U,Z,M',by rw[a];exact b,c,d⟩)
def Rk(L:it.den W ρ M=.ok d M1)(hd:gn M1 d=some ds)(I:Nat->Env->di->Prop)(h0:I 0 ρ M1)(stay:∀i ρ M,I i ρ M->gn M d=some ds)(step:∀i x ρ M,ds[i]?=some x->I i ρ M->∃G U Z M',t.put x ρ=some G/\b.den W G M=.ok (U,Z) M'/\(U=.next\/U=.cont)/\I (i+1) Z M') :
 ∃Z M',(Bx.for_ t (.val it) b).den W ρ M=.ok (.next,Z) M'/\I ds.length Z M':=by
 rw[Rj,Ii,L];obtain⟨s,h1,h2⟩:=Wt (body:=λd ρ M=>(Res.uy (t.put d ρ) M).bind λZ M=>b.den W Z M) I hd h0 stay (λi x ρ M hx h=>by
  obtain⟨G,U,Z,M',a,b,c,d⟩:=step i x ρ M hx h;exact⟨U,Z,M',by rw[a];exact b,c,d⟩)
 simp only[Res.z7,h1,Res.Cd];exact h2
def adi(L:it.den W ρ M=.ok (.tup ds) M1)(I:Nat->Env->di->Prop)(h0:I 0 ρ M1)(step:∀i x ρ M,ds[i]?=some x->I i ρ M->∃G U Z M',t.put x ρ=some G/\b.den W G M=.ok (U,Z) M'/\(U=.next\/U=.cont)/\I (i+1) Z M') :
 ∃Z M',(Bx.for_ t (.val it) b).den W ρ M=.ok (.next,Z) M'/\I ds.length Z M':=by
 rw[Rj,Ii,L];exact V2 I h0 (λi x ρ M hx h=>by
  obtain⟨G,U,Z,M',a,b,c,d⟩:=step i x ρ M hx h;exact⟨U,Z,M',by rw[a];exact b,c,d⟩)
def Mt(qq:it.den W ρ M=.ok (.tup ds) M1)(I:Nat->Env->di->Prop)(h0:I 0 ρ M1)(step:∀i x ρ M,ds[i]?=some x->I i ρ M->∃G L Z M',t.put (.tup [.int i,x]) ρ=some G/\b.den W G M=.ok (L,Z) M'/\(L=.next\/L=.cont)/\I (i+1) Z M') :
 ∃Z M',(Bx.for_ t (.enm it) b).den W ρ M=.ok (.next,Z) M'/\I ds.length Z M':=by
 rw[Rj,Vz,qq];have:=V2 (ds:=Am ds 0) (body:=λd ρ M=>(Res.uy (t.put d ρ) M).bind λZ M=>b.den W Z M) I h0 (λi x ρ M hx h=>by
  have U:i<ds.length:=by have:=(ak.mp hx).1;simpa[Am]using this
  have Wv:x=.tup [.int i,ds[i]]:=by simp[Am,U]at hx;exact hx.symm
  subst Wv;obtain⟨G,L,Z,M',a,b,c,d⟩:=step i ds[i] ρ M (by simp[U]) h;exact⟨L,Z,M',by rw[a];exact b,c,d⟩)
 have e:(Am ds 0).length=ds.length:=by simp[Am]
 rw[e]at this;exact this
def Bv(L:it.den W G M=.ok d M1)(hd:gn M1 d=some ds)(hl:ds.length<=100000)(h:∀x∈ds,∃Z,t.put x (G++List.replicate k none)=some Z/\e.den W Z M1=.ok (g x) M1) :
 (Ex.comp k t (.val it) e).den W G M=.ok (.vl (ds.map g)) M1:=by
 rw[Ei,Ii,L];obtain⟨s,h1,h2⟩:=Uy (g:=λx=>some (g x)) (body:=λd M=>(Res.uy (t.put d (G++List.replicate k none)) M).bind λU M=>(e.den W U M).bind λx M'=>.ok (some x) M') hd hl (λx hx=>by
  obtain⟨Z,a,b⟩:=h x hx;rw[a];simp[b])
 simp only[Res.z7,h1,Res.Cd,h2,List.filterMap_eq_map']
def aa9(L:it.den W G M=.ok (.tup ds) M1)(hl:ds.length<=100000)(h:∀x∈ds,∃Z,t.put x (G++List.replicate k none)=some Z/\e.den W Z M1=.ok (g x) M1) :
 (Ex.comp k t (.val it) e).den W G M=.ok (.vl (ds.map g)) M1:=by
 rw[Ei,Ii,L];have h2:=ail (g:=g) (M:=M1) (body:=λd M=>(Res.uy (t.put d (G++List.replicate k none)) M).bind λU M=>(e.den W U M).bind λx M'=>.ok (some x) M') hl (λx hx=>by
  obtain⟨Z,a,b⟩:=h x hx;rw[a];simp[b])
 show(yt (.con ds) _ M1).bind _=_;rw[h2];rfl
def Mu(G:it.den W U M=.ok (.int (n:Int)) M1)(L:n<=100000)(h:∀i,i<n->∃Z,t.put (.int i) (U++List.replicate k none)=some Z/\c.den W Z M1=.ok (.bl (q i)) M1/\(q i=true->e.den W Z M1=.ok (g i) M1)) :
 (Ex.Bo k t (.Th it) c e).den W U M=.ok (.vl (((List.range n).filter q).map g)) M1:=by
 rw[Ms,Ri,G];have Q9:((n:Int)).natAbs<=100000:=by lia
 simp only[Res.z7,Q9,jg,u9];rw[Wu (ds:=(List.range n).map λ(k:Nat)=>D.int (k:Int)) (g:=λd=>match d with|.int i=>if q i.toNat then some (g i.toNat)else none|_=>none) (by simpa using L) (λx hx=>by
  obtain⟨i,hi,rfl⟩:=bf.mp hx;obtain⟨Z,a,b,c⟩:=h i (iw.mp hi);rw[a,Res.Cd,Res.z7,b,Res.z7];cases e:q i with
  | true=>simp[e,c e]|false=>simp[e])]
 have:(((List.range n).map λ(k:Nat)=>D.int (k:Int)).filterMap λd=>match d with|.int i=>if q i.toNat then some (g i.toNat)else none|_=>none)=((List.range n).filter q).map g:=by
  rw[List.filterMap_map]
  induction List.range n with
  |nil=>rfl|cons a l ih=>by_cases e:q a=true<;>simp[e,ih]
 rw[this];rfl
def Ww(L:it.den W ρ M=.ok (.tup ds) M1)(hl:ds.length<=100000)(h:∀(i:Nat) (x:D),ds[i]?=some x->∃Z,t.put (.tup [.int i,x]) (ρ++List.replicate k none)=some Z/\c.den W Z M1=.ok (.bl (q i)) M1/\(q i=true->e.den W Z M1=.ok (g i) M1)) :
 (Ex.Bo k t (.enm it) c e).den W ρ M=.ok (.vl (((List.range ds.length).filter q).map g)) M1:=by
 rw[Ms,Vz,L];simp only[Res.z7];rw[Wu (ds:=Am ds 0) (g:=λd=>match d with|.tup [.int i,_]=>if q i.toNat then some (g i.toNat)else none|_=>none) (by simpa[Am]using hl) (λx hx=>by
  obtain⟨i,hi,ei⟩:=pq hx;have G:i<ds.length:=by simpa[Am]using hi
  have Wv:x=.tup [.int i,ds[i]]:=by rw[<-ei];simp[Am]
  subst Wv;obtain⟨Z,a,b,c⟩:=h i ds[i] (by simp[G]);rw[a,Res.Cd,Res.z7,b,Res.z7];cases e:q i with
  | true=>simp[e,c e]|false=>simp[e])]
 have:((Am ds 0).filterMap λd=>match d with|.tup [.int i,_]=>if q i.toNat then some (g i.toNat)else none|_=>none)=((List.range ds.length).filter q).map g:=by
  have U:∀(l:List D)(s:Nat),((Am l s).filterMap λd=>match d with|.tup [.int i,_]=>if q i.toNat then some (g i.toNat)else none|_=>none)=((List.range' s l.length).filter q).map g:=by
   intro l
   induction l with
   |nil=>intro s;rfl
   |cons a l ih =>
    intro s;have e1:Am (a::l) s=.tup [.int s,a]::Am l (s+1):=by simp[Am]
    rw[e1,gq,zu]
    by_cases e:q s=true<;>simp[e,ih]
  rw[U,List.range_eq_range']
 rw[this];rfl
def Rm(qq:it.den W ρ M=.ok (.int (n:Int)) M1)(hn:n<=100000)(I:Nat->List D->di->Prop)(h0:I 0 [] M1)(step:∀i G M,i<n->I i G M->∃Z x M',t.put (.int i) (ρ++List.replicate k none)=some Z/\e.den W Z M=.ok x M'/\I (i+1) (G++[x]) M') :
 ∃U M',(Ex.comp k t (.Th it) e).den W ρ M=.ok (.vl U) M'/\I n U M':=by
 rw[Ei,Ri,qq];have Q9:((n:Int)).natAbs<=100000:=by lia
 simp only[Res.z7,Q9,jg,u9];obtain⟨U,M',g,h⟩:=Fz (fin:=(Src.con ((List.range n).map λ(k:Nat)=>D.int (k:Int))).fin) (item:=(Src.con ((List.range n).map λ(k:Nat)=>D.int (k:Int))).item) (body:=λd M=>(Res.uy (t.put d (ρ++List.replicate k none)) M).bind λL M=>(e.den W L M).bind λx M'=>.ok (some x) M') I (n:=n) (λi G M hi h=>by
  obtain⟨Z,x,M',a,b,c⟩:=step i G M hi h;exact⟨.int i,some x,M',by simp[Src.item,hi],by rw[a];simp[b],by simpa using c⟩) (λ_ _ _=>rfl) n 0 [] M1 (rz _) h0
 have hl:(Src.con ((List.range n).map λ(k:Nat)=>D.int (k:Int))).len=n:=by simp[Src.len]
 refine⟨U,M',?_,by simpa using h⟩;rw[yt,hl,bz hn,g];rfl
set_option tactic.hygienic true in
def Y4(J:it.den W ρ M=.ok d M1)(C:gn M1 d=some ds)(S:ds.length<=100000)(I:Nat->List D->di->Prop)(h0:I 0 [] M1)(stay:∀i Z M,I i Z M->gn M d=some ds)(step:∀i y Z M,ds[i]?=some y->I i Z M->∃Y x M',t.put y (ρ++List.replicate k none)=some Y/\e.den W Y M=.ok x M'/\I (i+1) (Z++[x]) M') :
 ∃G M',(Ex.comp k t (.val it) e).den W ρ M=.ok (.vl G) M'/\I ds.length G M':=by
 rw[Ei,Ii,J];obtain⟨s,u,R,hi,hf⟩:∃s,srcOf M1 d=some s/\s.len=ds.length/\(∀M i,gn M d=some ds->s.item i M=ds[i]?)/\∀M,gn M d=some ds->s.fin M=true:=by
  cases d with
  |vl zs=>cases C;exact⟨.con ds,rfl,rfl,λ_ _ _=>rfl,λ_ _=>rfl⟩
  |ref p =>
   have get:∀{M:di},gn M (.ref p)=some ds->M[p]?=some (.lst ds):=fun{M} h=>by
    simp only[gn]at h;split at h
    .rename_i z;cases h;exact z
    .cases h
   refine⟨.live p ds.length,by simp[srcOf,get C],rfl,λM i h=>by simp[Src.item,get h],λM h=>by simp[Src.fin,get h]⟩
  |_=>cases C
 simp only[Res.z7,u,Res.Cd];obtain⟨G,M',g,h⟩:=Fz (fin:=s.fin) (item:=s.item) (body:=λd M=>(Res.uy (t.put d (ρ++List.replicate k none)) M).bind λU M=>(e.den W U M).bind λx M'=>.ok (some x) M') I (n:=ds.length) (λi Z M L h=>by
  obtain⟨Y,x,M',a,b,c⟩:=step i ds[i] Z M (by simp[L]) h;exact⟨ds[i],some x,M',by rw[hi M i (stay i Z M h)];simp[L],by rw[a];simp[b],by simpa using c⟩) (λZ M h=>hf M (stay _ Z M h)) ds.length 0 [] M1 (rz _) h0
 refine⟨G,M',?_,by simpa using h⟩;rw[yt,R,bz S,g];rfl
abbrev Goes(I:Nat->Env->di->Prop)(R:D->di->Prop)(i:Nat)(r:Res (Flow×Env)):Prop:=∃fl ρ' M',r=.ok (fl,ρ') M'/\((fl=.next/\I i ρ' M')\/∃v,fl=.ret v/\R v M')
theorem aim{fin:di->Bool}{item:Nat->di->Option D}{G:D->Env->di->Res (Flow×Env)}(I:Nat->Env->di->Prop)(R:D->di->Prop){n:Nat}
 (step:∀i Z M,i<n->I i Z M->∃d,item i M=some d/\Goes I R (i+1) (G d Z M)) (hf:∀Z M,I n Z M->fin M=true) :
 ∀k i Z M,i+k=n->I i Z M->Goes I R n (Cw fin item G k i Z M)
 |0,i,Z,M,e,h=>by
  obtain rfl:i=n:=by lia
  exact⟨_,Z,M,by simp[Cw,hf Z M h],.inl ⟨rfl,h⟩⟩
 |k+1,i,Z,M,e,h=>by
  obtain⟨d,h1,fl,U,M',h2,⟨rfl,L⟩|⟨v,rfl,L⟩⟩:=step i Z M (by lia) h
  .have:=aim I R step hf k (i+1) U M' (by lia) L
   simpa[Cw,h1,h2]using this
  .exact⟨.ret v,U,M',by simp[Cw,h1,h2],.inr ⟨v,rfl,L⟩⟩
section
variable{W:G9}{ρ:Env}{M M1:di}{t:Tg}{b:m5}
def Rn{it:Ka}{s:Src}{n:Nat}(G:it.den W ρ M=.ok s M1)(U:s.len=n)(I:Nat->Env->di->Prop)(R:D->di->Prop)(L:I 0 ρ M1)(hf:∀ρ M,I n ρ M->s.fin M=true)
 (step:∀i ρ M,i<n->I i ρ M->∃d Z,s.item i M=some d/\t.put d ρ=some Z/\Goes I R (i+1) (b.den W Z M)):Goes I R n ((Bx.for_ t it b).den W ρ M):=by
 rw[Rj,G,Res.z7,U];exact aim I R (λi ρ M hi h=>by
  obtain⟨d,Z,a,b,c⟩:=step i ρ M hi h;exact⟨d,a,by rw[b];exact c⟩) hf n 0 ρ M1 (rz n) L
def Hk{it:Ka}{s:Src}{n:Nat}(U:it.den W ρ M=.ok s M1)(L:s.len=n)(I:Nat->Env->di->Prop)(h0:I 0 ρ M1)(hf:∀ρ M,I n ρ M->s.fin M=true)
 (step:∀i ρ M,i<n->I i ρ M->∃d G,s.item i M=some d/\t.put d ρ=some G/\∃Z M',b.den W G M=.ok (.next,Z) M'/\I (i+1) Z M'):∃Z M',(Bx.for_ t it b).den W ρ M=.ok (.next,Z) M'/\I n Z M':=by
 obtain⟨fl,Z,M',e,⟨rfl,h⟩|⟨v,rfl,h⟩⟩:=Rn U L I (λ_ _=>False) h0 hf λi ρ M hi h=>by obtain⟨d,G,a,b,Z,M',c,e⟩:=step i ρ M hi h;exact⟨d,G,a,b,.next,Z,M',c,.inl ⟨rfl,e⟩⟩
 .exact⟨Z,M',e,h⟩
 .exact h.elim
end
theorem aos{Z:Type}[DecidableEq Z]:∀{f S:List Z},f.Nodup->(∀p∈f,p∈S)->f.length<=S.length
 |[],_,_,_=>iy _
 |x::f,S,hn,h=>by
  obtain⟨L,n2⟩:=ju.mp hn;have U:=h x (by simp);have:=aos (f:=f) (S:=S.erase x) n2 λp G=>(Aj (λe:p=x=>L (e▸G))).mpr (h p (bx _ G))
  rw[List.length_erase_of_mem U]at this;have:=List.length_pos_of_mem U
  simp;lia
theorem ain{Z:Type}[DecidableEq Z]:∀{a b:List Z},a.Nodup->b.Nodup->(∀x,x∈a↔x∈b)->a.Perm b
 |[],b,_,_,h=>by
  cases b with
  |nil=>exact .refl _|cons y b=>exact absurd ((h y).mpr (by simp)) (by simp)
 |x::a,b,ha,hb,h=>by
  obtain⟨G,L⟩:=ju.mp ha;have U:=(h x).mp (by simp);refine(List.Perm.cons x (ain L (hb.erase x) λy=>?_)).trans (List.perm_cons_erase U).symm;rw[hb.mem_erase_iff,<-h y,cj];constructor
  .intro q;exact⟨λe=>G (e▸q),.inr q⟩
  .rintro⟨q,rfl|r⟩
   .exact absurd rfl q
   .exact r
noncomputable def cr(Z c:U1):List Int:=Z.filter λw=>decide (w∈c)
def Mv:w∈cr Z c↔w∈Z/\w∈c:=by rw[cr,jq,cu]
def Mw(h:∀w∈Z,w∈c↔w∈c'):cr Z c=cr Z c':=List.filter_congr λw G=>by rw[qe,cu,cu];exact h w G
def aot:cr Z (cr Z c)=cr Z c:=Mw λw G=>by rw[Mv];exact⟨And.right,λh=>⟨G,h⟩⟩
def Clo(Z:U1)(R:Int->List Int)(c:U1):Prop:=cr Z c=c/\∀w∈c,∀v∈R w,v∈c
noncomputable def add(Z:List (List Int))(c:U1):List (List Int):=if c∈Z then Z else Z++[c]
def ave:x∈add cs c↔x∈cs\/x=c:=by
 unfold add;split
 .rename_i h
  exact⟨.inl,λq=>q.elim id λe=>e▸h⟩
 .rw[du,uc]
def a1q(h:cs.Nodup):(add cs c).Nodup:=by
 unfold add;split
 .exact h
 .rename_i g
  exact xu.mpr ⟨h,ju.mpr ⟨by simp,wk⟩,λa G b Z e=>g (by rw[uc]at Z;rw[<-Z,<-e];exact G)⟩
def adds(Z l:List (List Int)):List (List Int):=l.foldl add Z
def aou(Z l:List (List Int))(c:U1):adds Z (l++[c])=add (adds Z l) c:=by rw[adds,List.foldl_append];rfl
theorem Ro:∀{l Z:List (List Int)},x∈adds Z l↔x∈Z\/x∈l
 |[],Z=>by simp[adds]
 |c::l,Z=>by
  show x∈adds (add Z c) l↔_;rw[Ro,ave,cj,or_assoc]
theorem aba:∀{l cs:List (List Int)},cs.Nodup->(adds cs l).Nodup
 |[],_,h=>h|c::l,cs,h=>aba (l:=l) (cs:=add cs c) (a1q h)
def Ij(G:U1)(R:Int->List Int)(Z:List (List Int))(w:Int):List (List Int):=adds Z (Z.map λc=>cr G (c++R w))
def Fd(Z:U1)(R:Int->List Int)(L:U1):List (List Int):=L.foldl (Ij Z R) [[]]
def a1r(Z:U1)(R:Int->List Int)(L:U1)(w:Int):Fd Z R (L++[w])=Ij Z R (Fd Z R L) w:=by rw[Fd,List.foldl_append];rfl
def Rp:x∈Ij Z R cs w↔x∈cs\/∃c∈cs,x=cr Z (c++R w):=by
 rw[Ij,Ro,bf];constructor<;>rintro(h|⟨c,h,e⟩)
 .exact .inl h
 .exact .inr ⟨c,h,e.symm⟩
 .exact .inl h
 .exact .inr ⟨c,h,e.symm⟩
theorem Wx{ws:U1}{R:Int->List Int}:∀{L:U1}{cs:List (List Int)},(∀c∈cs,cr ws c=c)->(x∈L.foldl (Ij ws R) cs↔∃c∈cs,∃T:List Int,(∀t∈T,t∈L)/\x=cr ws (c++T.flatMap R))
 |[],cs,hc=>by
  constructor
  .intro h;exact⟨x,h,[],by simp,by simp[hc x h]⟩
  .rintro⟨c,h,T,G,rfl⟩
   have:T=[]:=List.eq_nil_iff_forall_not_mem.mpr λt Z=>by simpa using G t Z
   subst this;simpa[hc c h]using h
 |w::L,cs,hc=>by
  rw[Ae,Wx (L:=L) (cs:=Ij ws R cs w) λc h=>by
   rcases Rp.mp h with h|⟨d,_,rfl⟩
   .exact hc c h
   .exact aot]
  constructor
  .rintro⟨c,h,T,G,rfl⟩
   rcases Rp.mp h with h|⟨d,hd,rfl⟩
   .exact⟨c,h,T,λt Z=>bx _ (G t Z),rfl⟩
   .refine⟨d,hd,w::T,λt Z=>?_,Mw λv U=>?_⟩
    .rcases cj.mp Z with rfl|Z
     .simp
     .exact bx _ (G t Z)
    .rw[du,Mv,List.flatMap_cons,du,du,du]
     constructor
     .rintro(⟨_,h|h⟩|h)
      .exact .inl h
      .exact .inr (.inl h)
      .exact .inr (.inr h)
     .rintro(h|h|h)
      .exact .inl ⟨U,.inl h⟩
      .exact .inl ⟨U,.inr h⟩
      .exact .inr h
  .rintro⟨c,h,T,G,rfl⟩
   by_cases hw:w∈T
   .refine⟨cr ws (c++R w),Rp.mpr (.inr ⟨c,h,rfl⟩),T.filter (λt=>decide (t≠w)),λt Z=>?_,Mw λv U=>?_⟩
    .obtain⟨h1,h2⟩:=jq.mp Z
     rcases cj.mp (G t h1)with e|e
     .exact absurd e (by simpa using h2)
     .exact e
    .rw[du,du,Mv,du,um,um]
     constructor
     .rintro(h|⟨t,Z,h⟩)
      .exact .inl ⟨U,.inl h⟩
      .by_cases e:t=w
       .exact .inl ⟨U,.inr (e▸h)⟩
       .exact .inr ⟨t,jq.mpr ⟨Z,by simpa using e⟩,h⟩
     .rintro(⟨_,h|h⟩|⟨t,Z,h⟩)
      .exact .inl h
      .exact .inr ⟨w,hw,h⟩
      .exact .inr ⟨t,(jq.mp Z).1,h⟩
   .refine⟨c,Rp.mpr (.inl h),T,λt Z=>?_,rfl⟩
    rcases cj.mp (G t Z)with e|e
    .exact absurd (e▸Z) hw
    .exact e
theorem aio:∀{L:U1}{cs:List (List Int)},cs.Nodup->(L.foldl (Ij Z R) cs).Nodup
 |[],_,h=>h|w::L,cs,h=>aio (L:=L) (cs:=Ij Z R cs w) (aba h)
structure Rel(ws:U1)(R:Int->List Int):Prop where
 self:∀w,w∈R w
 sub:∀w∈ws,∀v∈R w,v∈ws
 on:∀w∈ws,∀v∈R w,∀u∈R v,u∈R w
def aov(h:Rel Z R)(hL:∀w,w∈L->w∈Z):c∈Fd Z R L->Clo Z R c:=λhc=>by
 obtain⟨d,hd,T,hT,rfl⟩:=(Wx (by simp[cr])).mp hc;have:d=[]:=by simpa using hd
 subst this;rw[List.nil_append];refine⟨aot,λw hw v G=>?_⟩;obtain⟨h1,h2⟩:=Mv.mp hw;obtain⟨t,U,h3⟩:=um.mp h2;exact Mv.mpr ⟨h.sub w h1 v G,um.mpr ⟨t,U,h.on t (hL t (hT t U)) w h3 v G⟩⟩
def a1s(h:Rel G R)(hL:∀w,w∈G->w∈L)(U:Clo G R c):c∈Fd G R L:=by
 refine(Wx (by simp[cr])).mpr ⟨[],by simp,c,λt Z=>?_,?_⟩
 .rw[<-U.1]at Z
  exact hL t (Mv.mp Z).1
 .rw[List.nil_append]
  conv=>lhs;rw[<-U.1]
  refine Mw λw _=>?_
  rw[um];exact⟨λq=>⟨w,q,h.self w⟩,λ⟨t,Z,q⟩=>U.2 t Z w q⟩
def Rq:(Fd Z R L).Nodup:=aio (by simp)
noncomputable def dbl(S:List (List Int))(w:Int):List (List Int):=S++S.map (·++[w])
def subs(l:U1):List (List Int):=l.foldl dbl [[]]
def aow(l:U1)(w:Int):subs (l++[w])=dbl (subs l) w:=by rw[subs,List.foldl_append];rfl
def V3:c∈dbl S w↔c∈S\/∃d∈S,c=d++[w]:=by
 rw[dbl,du,bf];constructor<;>rintro(h|⟨d,h,e⟩)
 .exact .inl h
 .exact .inr ⟨d,h,e.symm⟩
 .exact .inl h
 .exact .inr ⟨d,h,e.symm⟩
theorem adk:∀{l:U1}{S:List (List Int)},c∈l.foldl dbl S↔∃G∈S,∃d:List Int,d.Sublist l/\c=G++d
 |[],S=>by
  constructor
  .intro h;exact⟨c,h,[],.slnil,by simp⟩
  .rintro⟨G,h,d,Z,rfl⟩
   cases Z;simpa using h
 |w::l,S=>by
  rw[Ae,adk (l:=l) (S:=dbl S w)];constructor
  .rintro⟨G,h,d,Z,rfl⟩
   rcases V3.mp h with h|⟨c1,h1,rfl⟩
   .exact⟨G,h,d,.cons w Z,rfl⟩
   .exact⟨c1,h1,w::d,.cons_cons w Z,by simp⟩
  .rintro⟨G,h,d,Z,rfl⟩
   cases Z with
   |cons _ Z=>exact⟨G,V3.mpr (.inl h),d,Z,rfl⟩|cons_cons _ Z=>exact⟨G++[w],V3.mpr (.inr ⟨G,h,rfl⟩),_,Z,by simp⟩
def Rr:c∈subs l↔c.Sublist l:=by
 rw[subs,adk];constructor
 .rintro⟨G,h,d,Z,rfl⟩
  have:G=[]:=by simpa using h
  subst this;exact Z
 .intro h;exact⟨[],by simp,c,h,rfl⟩
theorem adl:∀{l:U1}{S:List (List Int)},(l.foldl dbl S).length=S.length*2^l.length
 |[],S=>by simp
 |w::l,S=>by
  rw[Ae,adl (l:=l) (S:=dbl S w)];simp[dbl,Nat.pow_succ];rw[<-Nat.two_mul,Nat.mul_comm 2,Nat.mul_assoc,Nat.mul_comm 2]
def Wy(l:U1):(subs l).length=2^l.length:=by rw[subs,adl];simp
theorem aip:∀{l:U1}{S:List (List Int)},l.Nodup->S.Nodup->(∀c∈S,∀w∈l,w∉c)->(l.foldl dbl S).Nodup
 |[],_,_,h,_=>h
 |w::l,S,hl,hS,hd=>by
  obtain⟨G,n2⟩:=ju.mp hl;refine aip (l:=l) (S:=dbl S w) n2 (xu.mpr ⟨hS,?_,λa ha b L e=>?_⟩) λc U v Z=>?_
  .exact qp.mpr (zf.mpr ((qp.mp hS).imp λh e=>h (List.append_cancel_right e)))
  .obtain⟨d,h,rfl⟩:=bf.mp L
   exact hd a ha w (by simp) (by rw[e];simp)
  .rcases V3.mp U with h|⟨d,h,rfl⟩
   .exact hd c h v (bx _ Z)
   .rw[du,uc]
    rintro(q|rfl)
    .exact hd d h v (bx _ Z) q
    .exact G Z
def avf(h:l.Nodup):(subs l).Nodup:=aip h (by simp) (by simp)
theorem abb:∀{l d:U1},l.Nodup->d.Sublist l->cr l d=d
 |[],d,_,h=>by cases h;rfl
 |a::l,d,hn,h=>by
  obtain⟨Z,G⟩:=ju.mp hn;cases h with
  |cons _ h =>
   have:¬a∈d:=λq=>Z (h.subset q)
   rw[cr,List.filter_cons,bc (by simpa using this)];exact abb G h
  |cons_cons _ h =>
   rw[cr,List.filter_cons,bz (by simp)]
   congr 1
   have:=abb G h;refine Eq.trans (List.filter_congr λx U=>?_) this;have:x≠a:=λe=>Z (e▸U)
   simp[this]
def ag1(h:cr l d=d):d.Sublist l:=by rw[<-h];exact List.filter_sublist
def few{rest:U1}{R:Int->List Int}(hn:(u::rest).Nodup)(U:rest.length<=5)(hu:R u=u::rest){Z:List (List Int)}(nd:Z.Nodup)(L:∀c∈Z,Clo (u::rest) R c):Z.length<=33:=by
 have h:=aos (f:=Z) (S:=(u::rest)::subs rest) nd λc h=>by
  obtain⟨G,h2⟩:=L c h
  by_cases q:u∈c
  .have:cr (u::rest) c=u::rest:=List.filter_eq_self.mpr λw hw=>by rw[cu];exact h2 u q w (by rw[hu];exact hw)
   rw[<-G,this];simp
  .refine bx _ (Rr.mpr ?_)
   have s:=ag1 G;cases s with
   |cons _ s=>exact s|cons_cons _ s=>exact absurd (by simp) q
 have e:2^rest.length<=2^5:=Ak (by decide) U
 rw[gq,Wy]at h;have:(2:Nat)^5=32:=rfl
 lia
end MW
namespace K51
open MW
noncomputable section
def Jk:m5:=.c (.expr (.call 9 (.p (.v 1) (.v 2)))) (.c (.expr (.call 10 (.p (.v 2) (.v 3)))) (.c (.expr (.call 11 (.p (.v 2) (.v 3)))) (.q (.asg (.fld (.v 0) 2) (.v 1)) (.asg (.fld (.v 0) 1) (.v 2)) (.asg (.fld (.v 0) 0) (.blt .dict (.o (.v 3)))))))
def Jl:Fn:=⟨4,4,Jk⟩
def K7:m5:=.o (.ret (.fld (.v 0) 2))
def K8:Fn:=⟨1,1,K7⟩
def Jm:m5:=.o (.ret (.fld (.v 0) 1))
def Jo:Fn:=⟨1,1,Jm⟩
def Jp:m5:=.o (.ret (.call 6 (.q (.fld (.v 0) 0) (.v 1) (.v 2))))
def Jq:Fn:=⟨3,3,Jp⟩
def Ej:Ex:=.Bo 2 (.names [2,3]) (.enm (.fld (.v 0) 1)) (.cmp .eq (.ix (.v 3) (.i 0)) (.v 1)) (.v 2)
def Mx:m5:=.o (.ret (.bin .ak2 (.Hh (.o (.i (-1)))) Ej))
def My:Fn:=⟨2,2,Mx⟩
def Ja:m5:=.p (.f (.cmp .eq (.v 2) (.i (-1))) (.o (.ret (.v 1)))) (.ret (.ix (.ix (.fld (.v 0) 1) (.v 2)) (.i 1)))
def Jb:Fn:=⟨3,3,Ja⟩
def Ik:m5:=.q (.f (.cmp .eq (.v 1) (.i (-1))) (.o (.ret (.v 2)))) (.f (.cmp .eq (.v 2) (.i (-1))) (.o (.ret (.v 1)))) (.ret (.ix (.v 0) (.tup (.p (.v 1) (.v 2)))))
def Il:Fn:=⟨3,3,Ik⟩
def Bh:m5:=.o (.f (.cmp .eq (.ix (.v 3) (.i 1)) (.ix (.v 5) (.i 0))) (.o (.expr (.bm .append (.v 1) (.o (.tup (.p (.v 2) (.v 4))))))))
def Im:Bx:=.for_ (.names [4,5]) (.enm (.v 0)) Bh
def Dt:m5:=.o Im
def Ip:Bx:=.for_ (.names [2,3]) (.enm (.v 0)) Dt
def K9:m5:=.q (.a 1 (.lst .z)) Ip (.ret (.v 1))
def La:Fn:=⟨1,6,K9⟩
def Ek:m5:=.p (.f (.cmp .eq (.v 1) (.i (-1))) (.o (.ret (.cmp .eq (.v 2) (.v 3))))) (.ret (.and (.chain .le .lt (.i 0) (.v 1) (.l (.v 0))) (.cmp .eq (.ix (.v 0) (.v 1)) (.tup (.p (.v 2) (.v 3))))))
def El:Fn:=⟨4,4,Ek⟩
def Em:m5:=.o (.f (.not (.and (.chain .le .lt (.i 0) (.ix (.v 2) (.i 0)) (.v 0)) (.chain .le .lt (.i 0) (.ix (.v 2) (.i 1)) (.v 0)))) (.o .raise))
def Jr:Bx:=.for_ (.name 2) (.val (.v 1)) Em
def Mz:m5:=.q (.f (.not (.chain .le .le (.i 1) (.v 0) (.i 3))) (.o .raise)) (.f (.cmp .gt (.l (.v 1)) (.i 5)) (.o .raise)) Jr
def M7:Fn:=⟨2,3,Mz⟩
def Gh:m5:=.o (.f (.not (.call 8 (.c (.v 0) (.q (.ix (.v 1) (.tup (.p (.v 3) (.v 4)))) (.ix (.ix (.v 0) (.v 3)) (.i 0)) (.ix (.ix (.v 0) (.v 4)) (.i 1)))))) (.o .raise))
def Lb:Bx:=.for_ (.names [3,4]) (.val (.v 2)) Gh
def O8:m5:=.q (.a 2 (.call 7 (.o (.v 0)))) (.f (.Wl (.v 1) (.v 2)) (.o .raise)) Lb
def O9:Fn:=⟨2,5,O8⟩
def Cq:m5:=.c (.f (.cmp .Uu (.tup (.p (.v 4) (.v 5))) (.v 1)) (.o .cont)) (.q (.a 6 (.call 6 (.q (.v 1) (.ix (.v 1) (.tup (.p (.v 3) (.v 4)))) (.v 5)))) (.a 7 (.call 6 (.q (.v 1) (.v 3) (.ix (.v 1) (.tup (.p (.v 4) (.v 5))))))) (.f (.cmp .ne (.v 6) (.v 7)) (.o .raise)))
def Js:Bx:=.for_ (.name 5) (.Th (.l (.v 0))) Cq
def Eo:m5:=.o Js
def Jt:Bx:=.for_ (.names [3,4]) (.val (.v 2)) Eo
def Nb:m5:=.p (.a 2 (.call 7 (.o (.v 0)))) Jt
def Nf:Fn:=⟨2,8,Nb⟩
def Hl:m5:=.p (.f (.cmp .lt (.v 1) (.l (.v 0))) (.o (.ret (.ix (.v 0) (.v 1))))) (.ret (.i 0))
def Hm:Fn:=⟨2,2,Hl⟩
def Kf:m5:=.q (.a 2 (.call 12 (.p (.v 0) (.v 1)))) (.f (.cmp .ge (.v 2) (.bin .pow (.i 10) (.i 18))) (.o (.ret (.lst (.p (.bin .sub (.v 2) (.bin .pow (.i 10) (.i 18))) (.cst (.bl true))))))) (.ret (.lst (.p (.bin .mod (.v 2) (.i 2147483647)) (.cst (.bl false)))))
def Kg:Fn:=⟨2,3,Kf⟩
def Ng:m5:=.c (.f (.ix (.v 0) (.i 1)) (.q (.a 2 (.bin .mod (.ix (.v 0) (.i 0)) (.v 1))) (.asg (.sub (.v 0) (.i 0)) (.bin .fdiv (.ix (.v 0) (.i 0)) (.v 1))) (.ret (.v 2)))) (.c (.asg (.sub (.v 0) (.i 0)) (.bin .mod (.bin .add (.bin .mul (.ix (.v 0) (.i 0)) (.i 48271)) (.i 29)) (.i 2147483647))) (.q (.a 3 (.bin .mod (.bin .add (.bin .add (.bin .mul (.ix (.v 0) (.i 0)) (.ix (.v 0) (.i 0))) (.bin .mul (.i 39373) (.ix (.v 0) (.i 0)))) (.i 7)) (.i 2147483629))) (.a 3 (.bin .mod (.bin .add (.bin .mul (.v 3) (.v 3)) (.bin .mul (.i 16807) (.v 3))) (.i 2147483587))) (.ret (.bin .mod (.bin .fdiv (.v 3) (.i 8)) (.v 1)))))
def Nh:Fn:=⟨2,4,Ng⟩
def Hn:Ex:=.comp 1 (.name 12) (.Th (.ix (.v 7) (.v 10))) (.call 14 (.p (.v 0) (.ix (.v 7) (.v 11))))
def Du:m5:=.q (.a 10 (.call 14 (.p (.v 0) (.v 6)))) (.a 11 (.call 14 (.p (.v 0) (.v 6)))) (.expr (.bm .append (.v 8) (.o (.tup (.q (.v 10) (.v 11) (.blt .tuple (.o Hn)))))))
def Ho:Bx:=.for_ (.name 9) (.Th (.call 14 (.p (.v 0) (.i 4)))) Du
def Hq:Ex:=.comp 1 (.name 12) (.Th (.v 6)) (.bin .add (.i 1) (.call 14 (.p (.v 0) (.i 3))))
def Kh:m5:=.c (.a 1 (.call 14 (.p (.v 0) (.i 12)))) (.c (.f (.cmp .lt (.v 1) (.i 7)) (.c (.a 2 (.Hh (.p (.tup (.q (.i 0) (.i 1) (.tup (.p (.i 0) (.i 1))))) (.tup (.q (.i 0) (.i 1) (.tup (.p (.i 1) (.i 0)))))))) (.c (.a 3 (.Hh (.q (.tup (.q (.i 0) (.i 1) (.tup (.c (.i 0) (.q (.i 0) (.i 1) (.i 1)))))) (.tup (.q (.i 0) (.i 1) (.tup (.c (.i 0) (.q (.i 1) (.i 0) (.i 1)))))) (.tup (.q (.i 1) (.i 0) (.tup (.p (.i 0) (.i 3)))))))) (.q (.a 4 (.Hh (.o (.tup (.q (.i 0) (.i 0) (.tup (.p (.i 1) (.i 0)))))))) (.a 5 (.Hh (.c (.v 2) (.c (.v 3) (.c (.v 4) (.c (.Hh (.o (.tup (.q (.i 0) (.i 0) (.tup (.q (.i 1) (.i 2) (.i 0))))))) (.q (.Hh (.o (.tup (.q (.i 0) (.i 0) (.tup (.p (.i 0) (.i 0))))))) (.Hh .z) (.Hh (.p (.tup (.q (.i 0) (.i 1) (.tup (.p (.i 0) (.i 1))))) (.tup (.q (.i 1) (.i 2) (.tup (.q (.i 0) (.i 0) (.i 1)))))))))))))) (.ret (.ix (.v 5) (.v 1))))))) (.c (.a 6 (.bin .add (.i 1) (.call 14 (.p (.v 0) (.i 3))))) (.c (.a 7 Hq) (.q (.a 8 (.lst .z)) Ho (.ret (.v 8))))))
def Cr:Fn:=⟨1,12,Kh⟩
def Gi:Ex:=.comp 1 (.name 10) (.val (.ix (.v 7) (.i 2))) (.ix (.ix (.v 8) (.i 2)) (.v 10))
def Bu:m5:=.c (.a 4 (.tup .z)) (.q (.f (.cmp .eq (.ix (.v 7) (.i 1)) (.ix (.v 8) (.i 0))) (.o (.a 4 (.blt .tuple (.o Gi))))) (.a 9 (.tup (.q (.ix (.v 7) (.i 0)) (.ix (.v 8) (.i 1)) (.v 4)))) (.f (.and (.cmp .ne (.v 4) (.tup .z)) (.and (.cmp .Uu (.v 9) (.v 1)) (.or (.cmp .ne (.ix (.v 9) (.i 0)) (.ix (.v 9) (.i 1))) (.cmp .ne (.v 4) (.agp (.l (.v 4))))))) (.o (.expr (.bm .append (.v 1) (.o (.v 9)))))))
def Gj:Bx:=.for_ (.names [7,8]) (.val (.Hh (.p (.tup (.p (.ix (.v 1) (.v 5)) (.ix (.v 1) (.v 6)))) (.tup (.p (.ix (.v 1) (.v 6)) (.ix (.v 1) (.v 5))))))) Bu
def Gk:m5:=.o Gj
def Gm:Bx:=.for_ (.name 6) (.Th (.l (.v 1))) Gk
def Ld:m5:=.p Gm (.a 5 (.bin .add (.v 5) (.i 1)))
def Gn:Bx:=.whl (.and (.cmp .lt (.v 5) (.l (.v 1))) (.cmp .lt (.l (.v 1)) (.i 6))) Ld
def zy:m5:=.o (.f (.and (.or (.cmp .ne (.v 2) (.v 3)) (.cmp .ne (.v 4) (.agp (.l (.v 4))))) (.cmp .Uu (.tup (.q (.v 2) (.v 3) (.v 4))) (.v 1))) (.o (.expr (.bm .append (.v 1) (.o (.tup (.q (.v 2) (.v 3) (.v 4))))))))
def Gp:Bx:=.for_ (.names [2,3,4]) (.val (.v 0)) zy
def Pa:m5:=.c (.a 1 (.lst .z)) (.c Gp (.q (.a 5 (.i 0)) Gn (.ret (.v 1))))
def Pb:Fn:=⟨1,10,Pa⟩
def Ep:Ex:=.comp 3 (.names [8,9,10]) (.val (.v 2)) (.tup (.p (.v 8) (.v 9)))
def Er:Ex:=.comp 1 (.name 8) (.val (.ix (.ix (.v 2) (.v 5)) (.i 2))) (.ix (.ix (.ix (.v 2) (.v 6)) (.i 2)) (.v 8))
def Ay:m5:=.o (.f (.cmp .eq (.ix (.ix (.v 2) (.v 5)) (.i 1)) (.ix (.ix (.v 2) (.v 6)) (.i 0))) (.p (.a 7 (.tup (.q (.ix (.ix (.v 2) (.v 5)) (.i 0)) (.ix (.ix (.v 2) (.v 6)) (.i 1)) (.blt .tuple (.o Er))))) (.asg (.sub (.v 4) (.tup (.p (.v 5) (.v 6)))) (.ite (.cmp .inn (.v 7) (.v 2)) (.bm .index (.v 2) (.o (.v 7))) (.neg (.i 1))))))
def Ju:Bx:=.for_ (.name 6) (.Th (.l (.v 2))) Ay
def Es:m5:=.o Ju
def Et:Bx:=.for_ (.name 5) (.Th (.l (.v 2))) Es
def Eu:Ex:=.comp 3 (.names [8,9,10]) (.val (.v 2)) (.blt .max (.p (.v 8) (.v 9)))
def Jv:m5:=.p (.a 1 (.cut (.v 1) .none (.some (.neg (.i 1))))) (.a 2 (.call 16 (.o (.v 1))))
def Ew:Bx:=.whl (.cmp .gt (.l (.v 2)) (.i 5)) Jv
def Ni:m5:=.c (.a 1 (.call 15 (.o (.v 0)))) (.c (.a 2 (.call 16 (.o (.v 1)))) (.c Ew (.c (.a 3 (.bin .add (.i 1) (.blt .max (.o (.bin .add Eu (.Hh (.o (.i 0)))))))) (.c (.f (.cmp .eq (.v 2) (.Hh .z)) (.o (.a 3 (.bin .add (.i 1) (.call 14 (.p (.v 0) (.i 3))))))) (.q (.a 4 .ade) Et (.ret (.tup (.q (.v 3) (.blt .tuple (.o Ep)) (.v 4)))))))))
def Nj:Fn:=⟨1,8,Ni⟩
def Jc:Ex:=.Bo 1 (.name 2) (.Th (.l (.ix (.v 0) (.i 1)))) (.cmp .eq (.ix (.ix (.ix (.v 0) (.i 1)) (.v 2)) (.i 0)) (.v 1)) (.v 2)
def Uz:m5:=.o (.ret (.bin .add (.Hh (.o (.neg (.i 1)))) Jc))
def U0:Fn:=⟨2,2,Uz⟩
def Qj:m5:=.o (.ret (.ite (.cmp .lt (.v 2) (.i 0)) (.v 1) (.ix (.ix (.ix (.v 0) (.i 1)) (.v 2)) (.i 1))))
def Qk:Fn:=⟨3,3,Qj⟩
def Fq:m5:=.p (.f (.or (.cmp .lt (.v 1) (.i 0)) (.cmp .lt (.v 2) (.i 0))) (.o (.ret (.bin .add (.bin .add (.v 1) (.v 2)) (.i 1))))) (.ret (.ix (.ix (.v 0) (.i 2)) (.tup (.p (.v 1) (.v 2)))))
def Ft:Fn:=⟨3,3,Fq⟩
def aox:m5:=.p (.f (.cmp .eq (.v 2) (.i (-1))) (.o (.ret (.v 1)))) (.ret (.ix (.ix (.ix (.v 0) (.i 1)) (.v 2)) (.v 1)))
def aoy:Fn:=⟨3,3,aox⟩
def T4:Ex:=.comp 1 (.name 4) (.Th (.v 3)) (.tup (.p (.v 2) (.v 4)))
def T5:m5:=.o (.expr (.bm .extend (.v 1) (.o T4)))
def Zu:Bx:=.for_ (.names [2,3]) (.enm (.ix (.v 0) (.i 0))) T5
def aiq:m5:=.q (.a 1 (.lst .z)) Zu (.ret (.v 1))
def air:Fn:=⟨1,4,aiq⟩
def Nk:Ex:=.comp 1 (.name 4) (.val (.meth (.v 0) 3 (.o (.v 3)))) (.tup (.p (.meth (.v 0) 4 (.p (.v 3) (.v 4))) (.call 21 (.q (.v 1) (.ix (.v 2) (.i 1)) (.v 4)))))
def Zv:m5:=.p (.a 3 (.ix (.v 2) (.i 0))) (.ret Nk)
def Zw:Fn:=⟨3,4,Zv⟩
def Kl:m5:=.o (.asg (.sub (.v 1) (.v 3)) (.v 2))
def Rt:Bx:=.for_ (.names [2,3]) (.enm (.v 0)) Kl
def Wz:m5:=.q (.a 1 .ade) Rt (.ret (.v 1))
def W2:Fn:=⟨1,4,Wz⟩
def Np:Ex:=.Bo 1 (.name 5) (.Th (.v 4)) (.cmp .inn (.tup (.p (.v 3) (.v 5))) (.v 1)) (.v 5)
def Nq:m5:=.o (.expr (.bm .append (.v 2) (.o (.blt .tuple (.o Np)))))
def U3:Bx:=.for_ (.names [3,4]) (.enm (.ix (.v 0) (.i 0))) Nq
def Zx:m5:=.q (.a 2 (.lst .z)) U3 (.ret (.blt .tuple (.o (.v 2))))
def Zy:Fn:=⟨2,5,Zx⟩
def adm:Ex:=.comp 1 (.name 7) (.val (.v 2)) (.l (.v 7))
def W3:Ex:=.comp 1 (.name 7) (.val (.ix (.v 2) (.ix (.v 5) (.i 0)))) (.bm .index (.v 6) (.o (.meth (.v 0) 2 (.p (.v 7) (.v 4)))))
def W4:m5:=.p (.a 6 (.ix (.v 2) (.ix (.v 5) (.i 1)))) (.expr (.bm .append (.v 3) (.o (.blt .tuple (.o W3)))))
def adn:Bx:=.for_ (.names [4,5]) (.enm (.meth (.v 0) 1 .z)) W4
def aoz:m5:=.c (.a 2 (.call 27 (.p (.v 0) (.v 1)))) (.q (.a 3 (.lst .z)) adn (.ret (.tup (.p (.blt .tuple (.o adm)) (.blt .tuple (.o (.v 3)))))))
def ao0:Fn:=⟨2,7,aoz⟩
def Ey:Ex:=.Bo 1 (.name 4) (.val (.meth (.v 0) 3 (.o (.v 1)))) (.cmp .eq (.meth (.v 0) 4 (.p (.v 1) (.v 4))) (.v 3)) (.v 4)
def Ez:m5:=.o (.expr (.bm .append (.v 2) (.o Ey)))
def Jw:Bx:=.for_ (.name 3) (.Th (.meth (.v 0) 0 .z)) Ez
def Nr:m5:=.q (.a 2 (.lst .z)) Jw (.ret (.v 2))
def Nt:Fn:=⟨2,4,Nr⟩
def W5:Ex:=.comp 1 (.name 7) (.val (.v 1)) (.l (.v 7))
def Ql:Ex:=.comp 1 (.name 7) (.val (.ix (.v 1) (.ix (.v 4) (.i 0)))) (.ix (.v 5) (.call 31 (.q (.v 0) (.v 3) (.v 7))))
def Qm:m5:=.p (.a 5 (.call 24 (.o (.ix (.v 1) (.ix (.v 4) (.i 1)))))) (.expr (.bm .append (.v 2) (.o (.blt .tuple (.o Ql)))))
def W6:Bx:=.for_ (.names [3,4]) (.enm (.meth (.v 0) 1 .z)) Qm
def W7:Ex:=.comp 1 (.name 7) (.Th (.meth (.v 0) 0 .z)) (.call 29 (.p (.v 0) (.v 7)))
def ado:m5:=.c (.a 1 (.blt .tuple (.o W7))) (.c (.a 2 (.lst .z)) (.q W6 (.a 6 (.blt .tuple (.o W5))) (.ret (.tup (.p (.tup (.p (.v 6) (.blt .tuple (.o (.v 2))))) (.v 1))))))
def adp:Fn:=⟨1,7,ado⟩
def W8:Ex:=.comp 1 (.name 3) (.val (.v 2)) (.call 30 (.q (.v 0) (.v 1) (.v 3)))
def adq:m5:=.p (.a 2 (.call 32 (.p (.v 0) (.call 26 (.p (.v 0) (.v 1)))))) (.ret (.blt .tuple (.o (.blt .Uv (.o W8)))))
def adt:Fn:=⟨2,3,adq⟩
def Km:Ex:=.comp 1 (.name 6) (.val (.v 5)) (.ix (.v 4) (.v 6))
def Ko:m5:=.o (.expr (.bm .extend (.v 3) (.o Km)))
def Ru:Bx:=.for_ (.names [4,5]) (.zip (.p (.call 27 (.p (.v 0) (.v 1))) (.v 2))) Ko
def W9:m5:=.q (.a 3 (.lst .z)) Ru (.ret (.blt .tuple (.o (.blt .sortI (.o (.v 3))))))
def Xa:Fn:=⟨3,6,W9⟩
def Fb:Ex:=.Bo 1 (.name 4) (.val (.meth (.v 0) 3 (.o (.v 3)))) (.cmp .inn (.meth (.v 0) 2 (.p (.v 1) (.v 4))) (.v 2)) (.v 4)
def Nu:m5:=.p (.a 3 (.ix (.ix (.meth (.v 0) 1 .z) (.v 1)) (.i 1))) (.ret (.blt .tuple (.o Fb)))
def Nv:Fn:=⟨3,4,Nu⟩
def Jd:m5:=.o (.asg (.sub (.v 2) (.call 34 (.p (.v 5) (.v 4)))) (.cst (.bl true)))
def Pg:Bx:=.for_ (.name 5) (.val (.blt .Wk (.o (.v 2)))) Jd
def Je:m5:=.q (.a 4 (.call 33 (.q (.v 0) (.v 1) (.Hh (.o (.v 3)))))) Pg (.f (.cmp .gt (.l (.v 2)) (.i 500)) (.o .raise))
def Ph:Bx:=.for_ (.name 3) (.val (.call 22 (.o (.v 1)))) Je
def U4:m5:=.q (.a 2 (.ak3 (.call 33 (.q (.v 0) (.v 1) (.Hh .z))))) Ph (.ret (.blt .Wj (.o (.v 2))))
def U5:Fn:=⟨2,6,U4⟩
def Hr:m5:=.o (.asg (.sub (.v 3) (.v 5)) (.cst (.bl true)))
def Nx:Bx:=.for_ (.name 5) (.val (.call 23 (.q (.v 0) (.v 1) (.v 4)))) Hr
def Hs:m5:=.o Nx
def Ny:Bx:=.for_ (.name 4) (.val (.v 2)) Hs
def Rv:m5:=.q (.a 3 .ade) Ny (.ret (.call 25 (.p (.v 1) (.v 3))))
def Rx:Fn:=⟨3,6,Rv⟩
def Qn:Ex:=.comp 2 (.names [2,3]) (.zip (.p (.v 0) (.v 1))) (.blt .tuple (.o (.Mh (.v 2) (.v 3))))
def adu:m5:=.o (.ret (.blt .tuple (.o Qn)))
def adw:Fn:=⟨2,2,adu⟩
def Jf:Ex:=.comp 2 (.names [2,3]) (.zip (.p (.v 0) (.v 1))) (.call 35 (.p (.v 2) (.v 3)))
def Nz:m5:=.p (.f (.blt .isSeq (.o (.v 1))) (.q (.f (.or (.cmp .ne (.blt .isTuple (.o (.v 0))) (.blt .isTuple (.o (.v 1)))) (.cmp .ne (.blt .isList (.o (.v 0))) (.blt .isList (.o (.v 1))))) (.o (.ret (.cst (.bl false))))) (.f (.cmp .ne (.l (.v 0)) (.l (.v 1))) (.o (.ret (.cst (.bl false))))) (.ret (.blt .all (.o Jf))))) (.ret (.and (.cmp .eq (.v 0) (.v 1)) (.cmp .eq (.blt .isBool (.o (.v 0))) (.blt .isBool (.o (.v 1))))))
def N5:Fn:=⟨2,2,Nz⟩
def De:m5:=.o (.a 6 (.and (.v 6) (.cmp .inn (.call 20 (.q (.v 0) (.v 3) (.v 7))) (.v 5))))
def Lf:Bx:=.for_ (.name 7) (.val (.call 18 (.p (.v 0) (.call 19 (.q (.v 0) (.v 1) (.v 3)))))) De
def Gq:m5:=.o Lf
def Lg:Bx:=.for_ (.name 3) (.val (.v 5)) Gq
def Df:m5:=.q (.a 6 (.cst (.bl true))) Lg (.f (.v 6) (.o (.expr (.bm .append (.v 4) (.o (.v 5))))))
def Lh:Bx:=.for_ (.name 5) (.val (.v 2)) Df
def Gr:Ex:=.comp 1 (.name 8) (.val (.v 2)) (.bin .add (.v 8) (.tup (.o (.v 3))))
def Gs:m5:=.o (.a 2 (.bin .add (.v 2) Gr))
def Gu:Bx:=.for_ (.name 3) (.val (.call 18 (.p (.v 0) (.v 1)))) Gs
def Pj:m5:=.c (.a 2 (.Hh (.o (.tup .z)))) (.c Gu (.q (.a 4 (.lst .z)) Lh (.ret (.blt .tuple (.o (.blt .Uv (.o (.v 4))))))))
def Pk:Fn:=⟨2,8,Pj⟩
def Li:Ex:=.comp 1 (.name 9) (.val (.v 1)) (.l (.v 9))
def Gv:Ex:=.Bo 1 (.name 9) (.val (.call 18 (.p (.v 0) (.v 5)))) (.cmp .inn (.call 20 (.q (.v 0) (.v 3) (.v 9))) (.v 7)) (.v 9)
def Gw:m5:=.p (.a 8 Gv) (.expr (.bm .append (.v 6) (.o (.bm .J9 (.ix (.v 1) (.v 5)) (.o (.blt .tuple (.o (.v 8))))))))
def Lj:Bx:=.for_ (.name 7) (.val (.ix (.v 1) (.v 4))) Gw
def Gx:m5:=.c (.asg (.tg (.names [4,5])) (.ix (.ix (.v 0) (.i 1)) (.v 3))) (.q (.a 6 (.lst .z)) Lj (.expr (.bm .append (.v 2) (.o (.blt .tuple (.o (.v 6)))))))
def Ln:Bx:=.for_ (.name 3) (.Th (.l (.ix (.v 0) (.i 1)))) Gx
def Lp:Ex:=.comp 1 (.name 9) (.Th (.ix (.v 0) (.i 0))) (.call 36 (.p (.v 0) (.v 9)))
def Pn:m5:=.c (.a 1 (.blt .tuple (.o Lp))) (.q (.a 2 (.lst .z)) Ln (.ret (.tup (.p (.tup (.p (.blt .tuple (.o Li)) (.blt .tuple (.o (.v 2))))) (.v 1)))))
def Pq:Fn:=⟨1,9,Pn⟩
def V4:m5:=.o (.f (.not (.call 35 (.p (.call 28 (.o (.v 5))) (.call 37 (.o (.v 4)))))) (.o (.ret (.cst (.bl false)))))
def ais:Bx:=.for_ (.names [4,5]) (.zip (.p (.v 1) (.v 2))) V4
def abd:m5:=.o ais
def ait:Bx:=.for_ (.name 3) (.Th (.i 2)) abd
def aiu:Ex:=.comp 1 (.name 6) (.val (.v 1)) (.make 3 (.q (.ix (.v 6) (.i 0)) (.ix (.v 6) (.i 1)) (.blt .dict (.o (.ix (.v 6) (.i 2))))))
def azk:m5:=.c (.a 1 (.Hh (.p (.call 17 (.o (.call 13 (.p (.v 0) (.i 0))))) (.call 17 (.o (.call 13 (.p (.v 0) (.i 1)))))))) (.q (.a 2 aiu) ait (.ret (.cst (.bl true))))
def ao1:Fn:=⟨1,6,azk⟩
def prog:Prog:=⟨[Jl,K8,Jo,Jq,My,Jb,Il,La,El,M7,O9,Nf,Hm,Kg,Nh,Cr,Pb,Nj,U0,Qk,Ft,aoy,air,Zw,W2,Zy,ao0,Nt,adp,adt,Xa,Nv,U5,Rx,adw,N5,Pk,Pq,ao1],[⟨0,[]⟩,⟨0,[]⟩,⟨0,[]⟩,⟨0,[(0,1),(1,2),(2,3),(3,4),(4,5)]⟩]⟩
end
abbrev PW(m:Nat):G9:=⟨prog.call m,prog.cls⟩
noncomputable abbrev sR(n:Nat):Option D:=some (.ref n)
noncomputable abbrev sI(i:Int):Option D:=some (.int i)
set_option genInjectivity true in
structure F where
 a:Nat
 b:Nat
 r:List Nat
 deriving DecidableEq
noncomputable def nD(x:Nat):D:=.int (x:Int)
def Ec(r:Yf):D:=.tup (r.map nD)
def F.toD(f:F):D:=.tup [.int f.a,.int f.b,Ec f.r]
def aiv(x y:Nat):decide ((x:Int)=(y:Int))=decide (x=y):=by
 by_cases h:x=y
 .simp[h]
 .have:¬((x:Int)=(y:Int)):=by lia
  simp[h,this]
def Ry(M:di)(n x y:Nat):Mi M (n+1) (.int x) (.int y)=some (decide (x=y)):=by rw[avc,aiv]
theorem abe(M:di)(n:Nat):∀r s:List Nat,Uw (Mi M (n+1)) (r.map nD) (s.map nD)=some (decide (r=s))
 |[],[]=>by simp[Uw]|[],_::_=>by simp[Uw]|_::_,[]=>by simp[Uw]
 |x::r,y::s=>by
  rw[dj,dj,Hj (a:=nD x) (b:=nD y) (Ry M n x y) (abe M n r s)]
  by_cases h:x=y<;>simp[h]
def ag2(M:di)(r s:Yf):Bq M (Ec r) (Ec s)=some (decide (r=s)):=abe M 4 r s
def bfk(M:di)(f g:F):Bq M f.toD g.toD=some (decide (f=g)):=by obtain⟨a,b,r⟩:=f;obtain⟨c,d,s⟩:=g;have e:Mi M 5 (Ec r) (Ec s)=some (decide (r=s)):=abe M 3 r s;show Uw (Mi M 5) [.int a,.int b,Ec r] [.int c,.int d,Ec s]=_;rw[Hj (Ry M 4 a c) (Hj (Ry M 4 b d) (Hj e (show Uw (Mi M 5) [] []=some true from rfl)))];simp
theorem ao2(M:di)(g:F):∀fs:List F,Qe M g.toD (fs.map F.toD)=some (fs.map λf=>decide (f=g))
 |[]=>rfl|f::fs=>by simp only[dj,Qe,bfk,ao2 M g fs]
def ao3(M:di)(g:F)(fs:List F):memD M g.toD (fs.map F.toD)=some (decide (g∈fs)):=by
 rw[memD,ao2,vg]
 congr 1
 induction fs with
 |nil=>simp
 |cons f fs Z =>
  by_cases h:f=g
  .simp[h]
  .simp only[dj,List.any_cons,Z,cj,id]
   simp[h,kj h]
noncomputable def pos(g:F):List F->Nat
 |[]=>0|f::fs=>if f=g then 0 else pos g fs+1
def a9d(M:di)(g:F)(fs:List F):Wn M g.toD (fs.map F.toD)=if g∈fs then some (pos g fs)else none:=by
 rw[Wn,ao2,mq]
 induction fs with
 |nil=>simp
 |cons f fs Z =>
  rw[dj,List.findIdx?_cons,Z,pos]
  by_cases h:f=g
  .simp[h]
  .by_cases G:g∈fs<;>simp[h,kj h,G]
theorem abf(g:F):∀{fs:List F},g∈fs->fs[pos g fs]?=some g
 |f::fs,h=>by
  by_cases e:f=g
  .simp[pos,e]
  .have:g∈fs:=by
    rcases cj.mp h with q|q
    .exact absurd q.symm e
    .exact q
   simp[pos,e,abf g this]
def ag3(G:fs.Nodup)(h:fs[i]?=some f):pos f fs=i:=by have m:f∈fs:=az h;have g:=abf f m;obtain⟨L,U⟩:=ak.mp h;obtain⟨l2,Z⟩:=ak.mp g;exact(yr G).mp (Z.trans U.symm)
noncomputable def F.comp(f g:F):F:=⟨f.a,g.b,f.r.map λx=>g.r.getD x 0⟩
def F.Qo(f:F):Prop:=f.a=f.b/\f.r=List.range f.r.length
instance (f:F):Decidable f.Qo:=inferInstanceAs (Decidable (_/\_))
structure Yt(sz:Nat->Nat)(f:F):Prop where
 a:f.a<3
 b:f.b<3
 len:f.r.length=sz f.a
 ran:∀x∈f.r,x<sz f.b
def Sz(sz:Nat->Nat):Prop:=∀k,1<=sz k/\sz k<=4
def Good(sz:Nat->Nat)(fs:List F):Prop:=∀f∈fs,Yt sz f
def getD_mem{r:Yf}(h:x<r.length):r.getD x 0∈r:=by rw[gw,dz h];exact ph h
theorem Yt.comp(Z:Yt sz f)(G:Yt sz g)(h:f.b=g.a):Yt sz (f.comp g):=by
 refine⟨Z.a,G.b,by simp[F.comp,Z.len],λx L=>?_⟩;obtain⟨y,U,rfl⟩:=bf.mp L;have:y<g.r.length:=by rw[G.len,<-h];exact Z.ran y U
 exact G.ran _ (getD_mem this)
def adx(r:Yf):(List.range r.length).map (λx=>r.getD x 0)=r:=by
 apply su;intro i
 by_cases h:i<r.length
 .simp[h,lq h]
 .simp[Nat.le_of_not_lt h,j5]
def ag4(G:Yt sz f)(Z:Yt sz g)(U:f.b=g.a):(f.comp g).comp h=f.comp (g.comp h):=by
 simp only[F.comp,n8,F.mk.injEq,true_and];apply p7;intro x L;have:x<g.r.length:=by rw[Z.len,<-U];exact G.ran x L
 simp[this]
noncomputable def idF(sz:Nat->Nat)(k:Nat):F:=⟨k,k,List.range (sz k)⟩
def abg(Z:Yt sz f)(h:f.Qo):f=idF sz f.a:=by obtain⟨a,b,r⟩:=f;obtain⟨G,U⟩:=h;have:=Z.len;simp only[idF]at *;subst G;rw[<-this,<-U]
def id_comp(Z:Yt sz f):(idF sz f.a).comp f=f:=by obtain⟨a,b,r⟩:=f;have:=Z.len;simp only[idF,F.comp]at *;rw[<-this,adx]
def comp_id(Z:Yt sz f):f.comp (idF sz f.b)=f:=by
 obtain⟨a,b,r⟩:=f;have:=Z.ran;simp only[idF,F.comp,F.mk.injEq,true_and]at *
 conv=>rhs;rw[<-List.map_id r]
 apply p7;intro x G;simp[lq (this x G)]
def N6(fs:List F):Prop:=∀f∈fs,∀g∈fs,f.b=g.a->f.comp g∈fs\/(f.comp g).Qo
def call_of(U:1<=m)(Z:prog.fns[f]?=some G):prog.call m f ds M=G.run (PW (m-1)) ds M:=by obtain⟨n,rfl⟩:∃n,m=n+1:=⟨m-1,by lia⟩;simp[Prog.call,Z]
def a1t(n:Int)(f:Bool):Prop:=0<=n/\(f=false->n<2147483647)
def Has(t:Nat)(f:Bool)(M:di):Prop:=∃n,M[t]?=some (.lst [.int n,.bl f])/\a1t n f
structure St(t:Nat)(f:Bool)(M M':di):Prop where
 len:M.length<=M'.length
 has:Has t f M'
 keep:∀(a:Nat)(o:MO),a≠t->M[a]?=some o->M'[a]?=some o
def St.trans(a:St t f M Z)(b:St t f Z M2):St t f M M2:=
 ⟨gb a.len b.len,b.has,λx o n h=>b.keep x o n (a.keep x o n h)⟩
def St.of(h:Has t f M)(k:w6 M M'):St t f M M':=
 ⟨k.len,let ⟨n,a,b⟩:=h;⟨n,k _ _ a,b⟩,λa o _ e=>k a o e⟩
def Ir(hm:1<=m)(hs:Has t f M)(Z:0<many)(hq:many<1073741824) :
 ∃(v:Nat)(U:di),prog.call m 14 [.ref t,.int many] M=.ok (.int v) U/\(v:Int)<many/\St t f M U/\U.length=M.length:=by
 obtain⟨n,h,G⟩:=hs;rw[call_of hm rfl];have hl:=q9 h;have g0:=Fp hl (i:=0) (by decide) rfl;have g1:=Fp hl (i:=1) (by decide) rfl;have fin:∀n':Int,a1t n' f->St t f M (M.set t (.lst [.int n',.bl f])):=λn' o=>⟨by simp,⟨n',rm h,o⟩,λa u e q=>by rw[yf (kj e)];exact q⟩
 have qq:many≠0:=by lia
 have c1:∀y:Int,∃v:Nat,y%many=(v:Int)/\(v:Int)<many:=λy=>by have a:=Az y qq;have b:=Aa y Z;exact⟨(y%many).toNat,by lia,by lia⟩
 cases f with
 |true =>
  obtain⟨v,e,l⟩:=c1 n;refine⟨v,_,?_,l,fin (n/many) ⟨Int.ediv_nonneg G.1 (by lia),by simp⟩,by simp⟩;simp[Fn.run,Nh,Ng,g0,g1,Z,Zm _ _ Z hq,aih h,e]
 |false =>
  have h1:=G.1;have h2:=G.2 rfl;obtain⟨n',L⟩:∃n',(n*48271+29)%2147483647=n':=⟨_,rfl⟩;have e1:0<=n':=L▸Az _ (by decide)
  have e2:n'<2147483647:=L▸Aa _ (by decide)
  obtain⟨x,ex⟩:∃x,(n'*n'+39373*n'+7)%2147483629=x:=⟨_,rfl⟩;have x1:0<=x:=ex▸Az _ (by decide)
  have x2:x<2147483629:=ex▸Aa _ (by decide)
  obtain⟨y,ey⟩:∃y,(x*x+16807*x)%2147483587=y:=⟨_,rfl⟩;obtain⟨v,e,l⟩:=c1 (y/8);refine⟨v,_,?_,l,fin n' ⟨e1,λ_=>e2⟩,by simp⟩;have k:=rm (o:=.lst [.int n',.bl false]) h;have k0:=Fp (q9 k) (i:=0) (by decide) rfl;simp[Fn.run,Nh,Ng,g0,g1,Z,aih h,Mq n 48271 (.inr (by decide)),L,k0,Mq n' n' (.inl (by lia)),Mq 39373 n' (.inl (by decide)),ex,Mq x x (.inl (by lia)),Mq 16807 x (.inl (by decide)),ey,Zm _ 8 (by decide) (by decide),e]
def aix{k:Nat}{Z:U1}(U:1<=m):prog.call m 12 [.fz (Z.map D.int),.int k] M=.ok (.int (Z.getD k 0)) M:=by
 rw[call_of U rfl]
 by_cases G:k<Z.length
 .simp[Fn.run,Hm,Hl,aom,G,a9c (ds:=Z.map D.int) (i:=k) (x:=.int (Z.getD k 0)) q_ (by simp[G])]
 .simp[Fn.run,Hm,Hl,aom,G]
def ady{k:Nat}{ns:U1}(G:2<=m):∃n f,prog.call m 13 [.fz (ns.map D.int),.int k] M=.ok (.ref M.length) (M++[.lst [.int n,.bl f]])/\a1t n f:=by
 rw[call_of (a_ (by decide) G) rfl]
 by_cases h:(10:Int)^18<=ns.getD k 0
 .refine⟨ns.getD k 0-10^18,true,?_,by lia,by simp⟩
  have Z:(1000000000000000000:Int)<=ns[k]?.getD 0:=by simpa using h
  simp[Fn.run,Kg,Kf,aix (show 1<=m-1 by exact r_ G),Z,MW.new]
 .refine⟨ns.getD k 0%2147483647,false,?_,Az _ (by decide),λ_=>Aa _ (by decide)⟩
  have Z:¬(1000000000000000000:Int)<=ns[k]?.getD 0:=by simpa using h
  simp[Fn.run,Kg,Kf,aix (show 1<=m-1 by exact r_ G),Z,MW.new]
def aiy(n:Nat)(i:Nat)(M:di)(h:i<n):(Src.con ((List.range n).map λ(k:Nat)=>D.int (k:Int))).item i M=some (.int i):=by simp[Src.item,lq h]
def aiz(n:Nat):(Src.con ((List.range n).map λ(k:Nat)=>D.int (k:Int))).len=n:=by simp[Src.len]
def ao4{K:Nat}(hm:1<=m)(hs:Has t f M)(hK:K<=3) :
 ∃(G:Yf)(Z:di),Hq.den (PW m) [sR t,a1,a2,a3,a4,a5,sI K,a7,a8,a9,a10,a11] M=.ok (.vl (G.map nD)) Z/\G.length=K/\(∀x∈G,1<=x/\x<=3)/\St t f M Z/\Z.length=M.length:=by
 unfold Hq;rw[Mm];have U:K<=100000:=a_ hK (by decide)
 simp[U];refine hG λ_ _k=>?_
 have h:=Fz (fin:=λ_=>true) (item:=(Src.con ((List.range K).map λ(k:Nat)=>D.int (k:Int))).item)
  (body:=λd M=>((prog.call m 14 [D.ref t,D.int 3] M).bind λy M2=>Eg .add (.int 1) y M2).bind λx Z=>Res.ok (some x) Z)
  (λi xs Z=>∃G:List Nat,xs=G.map nD/\G.length=i/\(∀x∈G,1<=x/\x<=3)/\St t f M Z/\Z.length=M.length) (n:=K)
  (λi xs Z hi hI=>by
   refine hG λ_ _k=>?_
   obtain⟨G,rfl,rfl,L,h2,h3⟩:=hI;obtain⟨v,M2,e,l,s2,l2⟩:=Ir hm h2.has (many:=3) (by decide) (by decide);apply _k;refine⟨.int G.length,sI (1+v),M2,aiy K _ Z hi,by simp[e],G++[1+v],by simp[nD],by simp,λx hx=>?_,h2.trans s2,l2.trans h3⟩;rcases du.mp hx with q|q
   .exact L x q
   .have:x=1+v:=by simpa using q
    lia) (λ_ _ _=>rfl) K 0 [] M (rz _) ⟨[],rfl,rfl,by simp,St.of hs (w6.refl M),rfl⟩
 obtain⟨ys,Z,e,G,L,h2,h3,h4,h5⟩:=h;apply _k;refine⟨G,Z,?_,h2,h3,h4,h5⟩;rw[yt,aiz,bz U,show(Src.con ((List.range _).map λ(k:Nat)=>D.int (k:Int))).fin=λ_=>true from rfl,e];simp at L;simp[L]
def a1u{G:Yf}(hm:1<=m)(hs:Has t f M)(U:∀x∈G,1<=x/\x<=3)(hi:i<G.length)(hj:j<G.length) :
 ∃(r:Yf)(Z:di),Hn.den (PW m) [sR t,a1,a2,a3,a4,a5,a6,some (.vl (G.map nD)),a8,a9,sI i,sI j] M=.ok (.vl (r.map nD)) Z /\
  r.length=G.getD i 0/\(∀x∈r,x<G.getD j 0)/\St t f M Z/\Z.length=M.length:=by
 unfold Hn;rw[Mm];have gi:=Fp (M:=M) (d:=.vl (G.map nD)) (i:=i) (x:=.int ((G.getD i 0:Nat):Int)) rfl q_ (by simp[hi,nD]);have gj:∀Z,Bj (.vl (G.map nD)) (.int j) Z=some (.int ((G.getD j 0:Nat):Int)):=λZ=>Fp rfl q_ (by simp[hj,nD])
 have bi:=U _ (getD_mem hi);have bj:=U _ (getD_mem hj);generalize ea:G.getD i 0=a at *;generalize eb:G.getD j 0=b at *;have ha:a<=100000:=a_ bi.2 (by decide)
 simp[gi,gj,ha];refine hG λ_ _k=>?_
 have h:=Fz (fin:=λ_=>true) (item:=(Src.con ((List.range a).map λ(k:Nat)=>D.int (k:Int))).item)
  (body:=λd M=>(prog.call m 14 [D.ref t,D.int b] M).bind λx Z=>Res.ok (some x) Z)
  (λi xs Z=>∃r:List Nat,xs=r.map nD/\r.length=i/\(∀x∈r,x<b)/\St t f M Z/\Z.length=M.length) (n:=a)
  (λi xs Z hi hI=>by
   refine hG λ_ _k=>?_
   obtain⟨r,rfl,rfl,L,h2,U⟩:=hI;obtain⟨v,M2,e,l,s2,l2⟩:=Ir hm h2.has (many:=b) (m_ bj.1) (m_ (c_ bj.2 (by decide)));apply _k;refine⟨.int r.length,sI v,M2,aiy a _ Z hi,by simp[e],r++[v],by simp[nD],by simp,λx hx=>?_,h2.trans s2,l2.trans U⟩;rcases du.mp hx with q|q
   .exact L x q
   .have:x=v:=by simpa using q
    exact c_ (f_ this) (o_ l)) (λ_ _ _=>rfl) a 0 [] M (rz _) ⟨[],rfl,rfl,by simp,St.of hs (w6.refl M),rfl⟩
 obtain⟨ys,Z,e,r,L,h2,U,h4,h5⟩:=h;apply _k;refine⟨r,Z,?_,h2,U,h4,h5⟩;rw[yt,aiz,bz ha,show(Src.con ((List.range _).map λ(k:Nat)=>D.int (k:Int))).fin=λ_=>true from rfl,e];simp at L;simp[L]
def abh{v:Nat}{U:Yf}(hm:1<=m)(hs:Has t f M)(hK:U.length=K)(q0:1<=K)(qq:K<=3)(h3:∀x∈U,1<=x/\x<=3)(hp:M[p]?=some (.lst []))(Z:p≠t) :
 ∃(fs:List F)(qv:Env)(G:di),Ho.den (PW m) [sR t,sI v,none,none,none,none,sI K,some (.vl (U.map nD)),sR p,a9,a10,a11] M=.ok (.next,qv) G /\
  qv[8]?=some (sR p)/\G[p]?=some (.lst (fs.map F.toD))/\fs.length<=3/\Good (λk=>U.getD k 1) fs/\M.length<=G.length/\Has t f G/\(∀(a:Nat)(o:MO),a≠t->a≠p->M[a]?=some o->G[a]?=some o):=by
 refine hG λ_ _k=>?_
 obtain⟨w,M1,e1,l1,s1,q6⟩:=Ir hm hs (many:=4) (by decide) (by decide);apply _k;unfold Ho;rw[Tv];have hw:w<=100000:=e_ (b_ (o_ l1) (by decide))
 simp[e1,hw];refine hG λ_ _k=>?_
 obtain⟨qv,G,e,fs,b9,qk,L,rfl,h1,h2,h4,h5,h6,h7⟩:=aa8 (n:=w) (body:=λd ρ M=>Du.den (PW m) (ρ.set 9 (some d)) M)
  (λi ρ G=>∃(fs:List F)(b9 qk L:Option D),ρ=[sR t,sI v,none,none,none,none,sI K,some (.vl (U.map nD)),sR p,b9,qk,L] /\
   G[p]?=some (.lst (fs.map F.toD))/\fs.length=i/\Good (λk=>U.getD k 1) fs/\M.length<=G.length/\Has t f G/\(∀(a:Nat)(o:MO),a≠t->a≠p->M[a]?=some o->G[a]?=some o))
  (M:=M1) ⟨[],a9,a10,a11,rfl,by simpa using s1.keep p _ Z hp,rfl,by intro f hf;simp at hf,s1.len,s1.has,λa o na _ h=>s1.keep a o na h⟩
  (λi ρ M2 hi hI=>by
   refine hG λ_ _k=>?_
   obtain⟨fs,b9,qk,L,rfl,g1,g2,g3,g4,g5,g6⟩:=hI;obtain⟨x,M3,ex,lx,sx,q4⟩:=Ir hm g5 (many:=K) (m_ q0) (m_ (c_ qq (by decide)));obtain⟨y,M4,ey,ly,sy,q5⟩:=Ir hm sx.has (many:=K) (m_ q0) (m_ (c_ qq (by decide)));obtain⟨r,M5,er,lr,rr,sr,q3⟩:=a1u (a1:=some (.int v)) (a2:=none) (a3:=none) (a4:=none) (a5:=none) (a6:=some (.int K)) (a8:=some (.ref p)) (a9:=some (.int i)) (i:=x) (j:=y) hm sy.has h3 (b_ (o_ lx) (g_ hK)) (b_ (o_ ly) (g_ hK));have gp:=sr.keep p _ Z (sy.keep p _ Z (sx.keep p _ Z g1));apply _k;have hl:(fs.map F.toD).length<100000:=by rw[dg];exact c_ (f_ g2) (b_ hi hw)
   refine⟨.next,_,M5.set p (.lst (fs.map F.toD++[F.toD ⟨x,y,r⟩])),?_,.inl rfl,fs++[⟨x,y,r⟩],sI i,sI x,sI y,rfl,?_,by simp[g2],?_,?_,?_,?_⟩
   .simp[Du,ex,ey,er,Dr gp hl,Eh (sy.keep p _ Z (sx.keep p _ Z g1)),qy,F.toD,Ec]
   .rw[rm gp];simp
   .intro f hf
    rcases du.mp hf with q|q
    .exact g3 f q
    .have:f=⟨x,y,r⟩:=by simpa using q
     subst this;refine⟨by show x<3;exact b_ (o_ lx) qq,by show y<3;exact b_ (o_ ly) qq,?_,?_⟩
     .show r.length=U.getD x 1
      rw[lr];simp[gw,dz (show x<U.length by exact b_ (o_ lx) (g_ hK))]
     .intro z hz
      have:=rr z hz;show z<U.getD y 1
      simp[gw,dz (show y<U.length by exact b_ (o_ ly) (g_ hK))]at this⊢;exact this
   .have:=sr.len;have:=sy.len;have:=sx.len;simp;exact a_ g4 (a_ (g_ q4) (a_ (g_ q5) (g_ q3)))
   .obtain⟨n',q1,q2⟩:=sr.has
    exact⟨n',by rw[yf Z];exact q1,q2⟩
   .intro a o na nb h
    rw[yf (kj nb)];exact sr.keep a o na (sy.keep a o na (sx.keep a o na (g6 a o na nb h))))
 have e':Cw (Src.con ((List.range w).map λ(k:Nat)=>D.int (k:Int))).fin (Src.con ((List.range w).map λ(k:Nat)=>D.int (k:Int))).item (λd ρ M=>Du.den (PW m) (ρ.set 9 (some d)) M) (Src.con ((List.range w).map λ(k:Nat)=>D.int (k:Int))).len 0 [sR t,sI v,none,none,none,none,sI K,some (.vl (U.map nD)),sR p,a9,a10,a11] M1=_:=e;apply _k;exact⟨fs,[sR t,sI v,none,none,none,none,sI K,some (.vl (U.map nD)),sR p,b9,qk,L],G,e',rfl,h1,by lia,h4,h5,h6,h7⟩
def ao5(hm:2<=m)(hs:Has t f M):∃(d:D)(M':di)(fs:List F)(sz:Nat->Nat),prog.call m 15 [.ref t] M=.ok d M'/\gn M' d=some (fs.map F.toD)/\(∀n,d=.ref n->n≠t)/\Sz sz/\Good sz fs/\fs.length<=3/\St t f M M':=by
 have G:1<=m-1:=r_ hm
 obtain⟨v,M1,e1,l1,s1,qk⟩:=Ir G hs (many:=12) (by decide) (by decide);rw[call_of (a_ G C_) rfl]
 by_cases hv:v<7
 .have U:(v:Int)<7:=m_ hv
  have key:∀(fs:List F)(sz:Nat->Nat),Cr.run (PW (m-1)) [.ref t] M=.ok (.vl (fs.map F.toD)) M1->Sz sz->Good sz fs->fs.length<=3 ->
   ∃(d:D)(M':di)(fs:List F)(sz:Nat->Nat),Cr.run (PW (m-1)) [.ref t] M=.ok d M'/\gn M' d=some (fs.map F.toD)/\(∀n,d=.ref n->n≠t)/\Sz sz/\Good sz fs/\fs.length<=3/\St t f M M':=
   λfs sz a b c d=>⟨_,M1,fs,sz,a,rfl,λn h=>(by cases h),b,c,d,s1⟩
  have run:∀d,Bj (.vl [.vl [.tup [.int 0,.int 1,.tup [.int 0,.int 1]],.tup [.int 0,.int 1,.tup [.int 1,.int 0]]],.vl [.tup [.int 0,.int 1,.tup [.int 0,.int 0,.int 1,.int 1]],.tup [.int 0,.int 1,.tup [.int 0,.int 1,.int 0,.int 1]],.tup [.int 1,.int 0,.tup [.int 0,.int 3]]],
   .vl [.tup [.int 0,.int 0,.tup [.int 1,.int 0]]],.vl [.tup [.int 0,.int 0,.tup [.int 1,.int 2,.int 0]]],.vl [.tup [.int 0,.int 0,.tup [.int 0,.int 0]]],.vl [],.vl [.tup [.int 0,.int 1,.tup [.int 0,.int 1]],.tup [.int 1,.int 2,.tup [.int 0,.int 0,.int 1]]]]) (.int v) M1=some d ->
   Cr.run (PW (m-1)) [.ref t] M=.ok d M1:=λd hd=>by simp[Fn.run,Cr,Kh,e1,U,hd]
  have cs:v=0\/v=1\/v=2\/v=3\/v=4\/v=5\/v=6:=by lia
  rcases cs with rfl|rfl|rfl|rfl|rfl|rfl|rfl
  .refine key [⟨0,1,[0,1]⟩,⟨0,1,[1,0]⟩] (λ_=>2) ?_ (λk=>by simp) (λf Z=>?_) (by decide)
   .exact run _ rfl
   .simp at Z;rcases Z with rfl|rfl<;>exact⟨by decide,by decide,by decide,by decide⟩
  .refine key [⟨0,1,[0,0,1,1]⟩,⟨0,1,[0,1,0,1]⟩,⟨1,0,[0,3]⟩] (λk=>if k=0 then 4 else 2) ?_ (λk=>by dsimp only;split<;>omega) (λf Z=>?_) (by decide)
   .exact run _ rfl
   .simp at Z;rcases Z with rfl|rfl|rfl<;>exact⟨by decide,by decide,by decide,by decide⟩
  .refine key [⟨0,0,[1,0]⟩] (λ_=>2) ?_ (λk=>by simp) (λf Z=>?_) (by decide)
   .exact run _ rfl
   .simp at Z;subst Z;exact⟨by decide,by decide,by decide,by decide⟩
  .refine key [⟨0,0,[1,2,0]⟩] (λ_=>3) ?_ (λk=>by simp) (λf Z=>?_) (by decide)
   .exact run _ rfl
   .simp at Z;subst Z;exact⟨by decide,by decide,by decide,by decide⟩
  .refine key [⟨0,0,[0,0]⟩] (λ_=>2) ?_ (λk=>by simp) (λf Z=>?_) (by decide)
   .exact run _ rfl
   .simp at Z;subst Z;exact⟨by decide,by decide,by decide,by decide⟩
  .refine key [] (λ_=>1) ?_ (λk=>by simp) (λf Z=>?_) (by decide)
   .exact run _ rfl
   .simp at Z
  .refine key [⟨0,1,[0,1]⟩,⟨1,2,[0,0,1]⟩] (λk=>if k=1 then 3 else 2) ?_ (λk=>by dsimp only;split<;>exact⟨by decide,by decide⟩) (λf Z=>?_) (by decide)
   .exact run _ rfl
   .simp at Z;rcases Z with rfl|rfl<;>exact⟨by decide,by decide,by decide,by decide⟩
 .have U:¬(v:Int)<7:=by lia
  obtain⟨u,M2,e2,l2,s2,q7⟩:=Ir G s1.has (many:=3) (by decide) (by decide);obtain⟨K,eK,q0⟩:∃K:Nat,(1:Int)+(u:Int)=(K:Int)/\K=1+u:=⟨1+u,by lia,rfl⟩;obtain⟨Jg,M3,e3,l3,r3,s3,qq⟩:=ao4 (a1:=some (.int v)) (a2:=none) (a3:=none) (a4:=none) (a5:=none) (a7:=none) (a8:=none) (a9:=none) (a10:=none) (a11:=none) (K:=K) G s2.has (by lia);have L:t<M3.length:=by obtain⟨n,h,_⟩:=s3.has;exact ye h
  have h4:Has t f (M3++[.lst []]):=by obtain⟨n,h,o⟩:=s3.has;exact⟨n,o5 h,o⟩
  obtain⟨fs,qv,M5,e5,q8,q1,q2,q3,q4,q5,q6⟩:=abh (v:=v) (K:=K) (p:=M3.length) (a9:=none) (a10:=none) (a11:=none) G h4 l3 (by lia) (by lia) r3 (by simp) (i_ L);refine⟨.ref M3.length,M5,fs,λk=>Jg.getD k 1,?_,q9 q1,λn h=>by cases h;exact i_ L,λk=>?_,q3,q2,?_⟩
  .simp[Fn.run,Cr,Kh,e1,U,e2,eK,e3,MW.new,e5,q8]
  .show 1<=Jg.getD k 1/\Jg.getD k 1<=4
   by_cases h:k<Jg.length
   .have:=r3 _ (getD_mem h)
    simp[gw,h]at this⊢;exact⟨this.1,a_ this.2 (by decide)⟩
   .simp[gw,h]
  .refine s1.trans (s2.trans (s3.trans ⟨?_,q5,λa o na h=>q6 a o na ?_ (o5 h)⟩))
   .have:=q4;simp at this;lia
   .have:=ye h;exact h_ this
structure Up(p:Nat)(M M':di):Prop where
 len:M'.length=M.length
 oth:∀a:Nat,a≠p->M'[a]?=M[a]?
def Up.refl(p:Nat)(M:di):Up p M M:=⟨rfl,λ_ _=>rfl⟩
theorem Up.trans(a:Up p M Z)(b:Up p Z M2):Up p M M2:=⟨b.len.trans a.len,λx h=>(b.oth x h).trans (a.oth x h)⟩
theorem Up.set(p:Nat)(M:di)(o:MO):Up p M (M.set p o):=⟨by simp,λa h=>yf (kj h)⟩
def Qp(h:M[p]?=some (.lst ds)):Qf M x (.ref p)=memD M x ds:=by simp[Qf,h,Bk,gn]
def U6(f:F)(M:di):Bj f.toD (.int 0) M=some (.int f.a):=rfl
def U7(f:F)(M:di):Bj f.toD (.int 1) M=some (.int f.b):=rfl
def ao6(f:F)(M:di):Bj f.toD (.int 2) M=some (Ec f.r):=rfl
def N7(M:di)(r:Yf)(n:Nat):Bq M (Ec r) (.tup ((List.range n).map λ(k:Nat)=>D.int (k:Int)))=some (decide (r=List.range n)):=ag2 M r (List.range n)
def eq_nil(M:di)(r:Yf):Bq M (Ec r) (.tup [])=some (decide (r=[])):=ag2 M r []
def Be(M:di)(a b:Nat):Bq M (.int a) (.int b)=some (decide (a=b)):=by rw[eq_int,aiv]
def Iu(M:di)(r:Yf):qy .len [Ec r] M=.ok (.int r.length) M:=by simp[qy,Bk,Ec]
def Di(M:di)(Z:List D):qy .tuple [.vl Z] M=.ok (.tup Z) M:=by simp[qy,Bk]
def abi(M:di)(r:Yf):qy .tuple [.vl (r.map nD)] M=.ok (Ec r) M:=Di M _
def ag5(Z:Sz sz)(h:Yt sz f):1<=f.r.length/\f.r.length<=4:=by rw[h.len];exact Z _
def avj(M:di)(r:Yf):srcOf M (Ec r)=some (.con (r.map nD)):=rfl
def ao7(M:di)(r:Yf)(h:x<r.length):Bj (Ec r) (.int x) M=some (.int (r.getD x 0)):=Iz q_ (by simp[h,nD])
def ao8(hz:Sz sz)(G:Yt sz f)(L:Yt sz g)(h:f.b=g.a) :
 Gi.den W [a0,a1,a2,a3,a4,a5,a6,some f.toD,some g.toD,a9] M=.ok (.vl ((f.comp g).r.map nD)) M:=by
 have Z:(f.r.map nD).length<=100000:=by rw[dg,G.len];have:=hz f.a;exact a_ this.2 (by decide)
 unfold Gi;rw[Mm];simp[ao6,avj];have:=ail (M:=M) (ds:=f.r.map nD) (g:=λd=>match d with|.int i=>nD (g.r.getD i.toNat 0)|_=>.non)
  (body:=λd M=>((Res.uy (Bj (Ec g.r) d M) M).bind λx U=>Res.ok (some x) U)) Z (λd hd=>by
   obtain⟨x,hx,rfl⟩:=bf.mp hd;have Wv:x<g.r.length:=by rw[L.len,<-h];exact G.ran x hx
   rw[show nD x=D.int (x:Int)from rfl,ao7 M g.r Wv];simp[nD])
 rw[this];simp[F.comp,nD]
def Kp(Z:List F)(f g:F):List F:=if f.b=g.a/\f.comp g∉Z/\¬(f.comp g).Qo then Z++[f.comp g]else Z
def ag6(f g:F):D.tup [.int f.a,.int g.b,Ec (f.comp g).r]=(f.comp g).toD:=rfl
def Xb(hz:Sz sz)(hf:Yt sz f)(L:Yt sz g)(U:M[p]?=some (.lst (G.map F.toD)))(hl:G.length<100000) :
 ∃(b4 b9:Option D)(M':di),Bu.den W [a0,sR p,a2,a3,a4,a5,a6,some f.toD,some g.toD,a9] M=.ok (.next,[a0,sR p,a2,a3,b4,a5,a6,some f.toD,some g.toD,b9]) M' /\
  M'[p]?=some (.lst ((Kp G f g).map F.toD))/\Up p M M':=by
 by_cases h:f.b=g.a
 .have hc:=ao8 (W:=W) (M:=M) (a0:=a0) (a1:=some (.ref p)) (a2:=a2) (a3:=a3) (a4:=some (.tup [])) (a5:=a5) (a6:=a6) (a9:=a9) hz hf L h
  have hr:(f.comp g).r≠[]:=λe=>by have:=(ag5 hz (hf.comp L h)).1;rw[e]at this;simp at this
  have Z:(f.comp g).r.length<=100000:=by have:=(ag5 hz (hf.comp L h)).2;exact a_ this (by decide)
  have Ib:=ao3 M (f.comp g) G;have e0:(f.comp g).a=f.a:=rfl;have e1:(f.comp g).b=g.b:=rfl;have ap:=Dr (d:=(f.comp g).toD) U (by rw[dg];exact hl);have key:∃T:Res (Flow×Env),Bu.den W [a0,sR p,a2,a3,a4,a5,a6,some f.toD,some g.toD,a9] M=T/\(f.comp g∈G->T=.ok (.next,[a0,sR p,a2,a3,some (Ec (f.comp g).r),a5,a6,some f.toD,some g.toD,some (f.comp g).toD]) M)/\(f.comp g∉G->(f.comp g).Qo->T=.ok (.next,[a0,sR p,a2,a3,some (Ec (f.comp g).r),a5,a6,some f.toD,some g.toD,some (f.comp g).toD]) M) /\
   (f.comp g∉G->¬(f.comp g).Qo->T=.ok (.next,[a0,sR p,a2,a3,some (Ec (f.comp g).r),a5,a6,some f.toD,some g.toD,some (f.comp g).toD]) (M.set p (.lst ((G++[f.comp g]).map F.toD)))):=by
   refine⟨_,(by simp[-eq_int,Bu,U6,U7,Be,h,hc,abi,ag6,eq_nil,hr,Qp U,Ib];exact rfl),?_,?_,?_⟩
   .intro m;simp[m]
   .intro m i;simp[-eq_int,m,U6,U7,Be,i.1,Iu,Z,N7,Al i.2]
   .intro m i
    by_cases i1:(f.comp g).a=(f.comp g).b
    .have i2:¬(f.comp g).r=List.range (f.comp g).r.length:=λq=>i ⟨i1,q⟩
     simp[-eq_int,U6,U7,Be,m,i1,Iu,Z,N7,i2,Eh U,ap]
    .simp[-eq_int,U6,U7,Be,m,i1,Iu,Z,N7,Eh U,ap]
  obtain⟨T,e,k1,k2,k3⟩:=key
  by_cases m:f.comp g∈G
  .exact⟨_,_,M,e.trans (k1 m),by rw[Kp,bc (λq=>q.2.1 m)];exact U,Up.refl p M⟩
  .by_cases i:(f.comp g).Qo
   .exact⟨_,_,M,e.trans (k2 m i),by rw[Kp,bc (λq=>q.2.2 i)];exact U,Up.refl p M⟩
   .exact⟨_,_,_,e.trans (k3 m i),by rw[Kp,bz ⟨h,m,i⟩,rm U],Up.set _ _ _⟩
 .refine⟨some (.tup []),some (.tup [.int f.a,.int g.b,.tup []]),M,?_,by rw[Kp,bc (λq=>h q.1)];exact U,Up.refl p M⟩
  have:=ag2 M [] [];simp[Ec]at this;simp[-eq_int,Bu,U6,U7,Be,h,this]
structure Inv(sz:Nat->Nat)(gs:List F):Prop where
 good:Good sz gs
 nd:gs.Nodup
 nid:∀f∈gs,¬f.Qo
def Inv.snoc{sz:Nat->Nat}(h:Inv sz G)(hf:Yt sz f)(hm:f∉G)(hi:¬f.Qo):Inv sz (G++[f]):=by
 refine⟨λx Z=>?_,?_,λx Z=>?_⟩
 .rcases du.mp Z with q|q
  .exact h.good x q
  .have:x=f:=by simpa using q
   exact this▸hf
 .rw[xu]
  refine⟨h.nd,by simp,λa L b U=>?_⟩;have:b=f:=by simpa using U
  exact λe=>hm (by rw[<-this,<-e];exact L)
 .rcases du.mp Z with q|q
  .exact h.nid x q
  .have:x=f:=by simpa using q
   exact this▸hi
def Cl2(Z:List F)(f g:F):Prop:=f.b=g.a->f.comp g∈Z\/(f.comp g).Qo
def Cl2.mono(h:Cl2 Z f g)(s:Z <+: G):Cl2 G f g:=λe=>(h e).imp (λm=>s.subset m) id
def N8(Z:List F)(f g:F):Z <+: Kp Z f g:=by
 unfold Kp;split
 .exact List.prefix_append _ _
 .exact List.prefix_rfl
def Xc(Z:List F)(f g:F):(Kp Z f g).length<=Z.length+1:=by unfold Kp;split<;>simp
set_option tactic.hygienic true in
def adz(h:Inv sz G)(Y:Yt sz f)(Z:Yt sz g):Inv sz (Kp G f g):=by
 unfold Kp;split
 .rename_i q;exact h.snoc (Y.comp Z q.1) q.2.1 q.2.2
 .exact h
def ai0(Z:List F)(f g:F):Cl2 (Kp Z f g) f g:=by
 intro e;unfold Kp
 by_cases m:f.comp g∈Z
 .left;split
  .exact xg _ m
  .exact m
 .by_cases i:(f.comp g).Qo
  .exact .inr i
  .left;rw[bz ⟨e,m,i⟩];simp
def Rz{Z:List F}{i:Nat}(s:Z <+: G)(h:Z[i]?=some f):G[i]?=some f:=by obtain⟨t,rfl⟩:=s;rw[jx (ak.mp h).1];exact h
def Pr{Z:List F}{i:Nat}(G:M[p]?=some (.lst (Z.map F.toD)))(h:Z[i]?=some f):Bj (.ref p) (.int i) M=some f.toD:=Fp (q9 G) q_ (by simp[h])
def Kq{Z:List F}(G:M[p]?=some (.lst (Z.map F.toD))):qy .len [.ref p] M=.ok (.int Z.length) M:=by rw[len_list (q9 G)];simp
def a1w{k j:Nat}(hz:Sz sz)(hi:Inv sz Z)(G:M[p]?=some (.lst (Z.map F.toD)))(hl:Z.length<90000)(hk:Z[k]?=some f)(hj:Z[j]?=some g) :
 ∃(L b7 b8 U:Option D)(M':di),Gj.den W [a0,sR p,a2,a3,a4,sI k,sI j,a7,a8,a9] M=.ok (.next,[a0,sR p,a2,a3,L,sI k,sI j,b7,b8,U]) M' /\
  M'[p]?=some (.lst ((Kp (Kp Z f g) g f).map F.toD))/\Up p M M':=by
 refine hG λ_ _k=>?_
 have hf:=hi.good f (az hk);have hg:=hi.good g (az hj);have l1:=Xc Z f g;obtain⟨L,U,M1,e1,p1,u1⟩:=Xb (W:=W) (M:=M) (a0:=a0) (a2:=a2) (a3:=a3) (a4:=a4) (a5:=some (.int k)) (a6:=some (.int j)) (a9:=a9) hz hf hg G (b_ hl (by decide));obtain⟨c4,c9,M2,e2,p2,u2⟩:=Xb (W:=W) (M:=M1) (a0:=a0) (a2:=a2) (a3:=a3) (a4:=L) (a5:=some (.int k)) (a6:=some (.int j)) (a9:=U) hz hg hf p1 (by lia);apply _k;refine⟨c4,some g.toD,some f.toD,c9,M2,?_,p2,u1.trans u2⟩;unfold Gj;rw[Tv];simp[Pr G hk,Pr G hj,srcOf,Src.len,Src.fin,Cw,Src.item,e1,e2]
def avl{k:Nat}(hz:Sz sz)(hi:Inv sz Z)(hp:M[p]?=some (.lst (Z.map F.toD)))(hl:Z.length<10000)(hk:Z[k]?=some f) :
 ∃(G:List F)(b4 b6 b7 b8 b9:Option D)(L:di),Gm.den W [a0,sR p,a2,a3,a4,sI k,a6,a7,a8,a9] M=.ok (.next,[a0,sR p,a2,a3,b4,sI k,b6,b7,b8,b9]) L /\
  L[p]?=some (.lst (G.map F.toD))/\Up p M L/\Z <+: G/\Inv sz G/\G.length<=3*Z.length/\∀(j:Nat)(g:F),Z[j]?=some g->Cl2 G f g/\Cl2 G g f:=by
 unfold Gm;rw[Tv];have qq:Z.length<=100000:=e_ (b_ hl (by decide))
 simp[Kq hp,qq];refine hG λ_ _k=>?_
 obtain⟨qk,L,e,G,b4,b6,b7,b8,b9,rfl,h1,h2,h3,h4,h5,h6⟩:=aa8 (n:=Z.length) (body:=λd ρ M=>Gk.den W (ρ.set 6 (some d)) M)
  (λi ρ L=>∃(G:List F)(b4 b6 b7 b8 b9:Option D),ρ=[a0,sR p,a2,a3,b4,sI k,b6,b7,b8,b9]/\L[p]?=some (.lst (G.map F.toD))/\Up p M L/\Z <+: G/\Inv sz G/\G.length<=Z.length+2*i /\
   ∀(j:Nat)(g:F),j<i->Z[j]?=some g->Cl2 G f g/\Cl2 G g f) (ρ:=[a0,sR p,a2,a3,a4,sI k,a6,a7,a8,a9]) (M:=M)
  ⟨Z,a4,a6,a7,a8,a9,rfl,hp,Up.refl p M,List.prefix_rfl,hi,x_,λj g h=>absurd h (Bb _)⟩
  (λi ρ M2 G5 hI=>by
   refine hG λ_ _k=>?_
   obtain⟨G,b4,b6,b7,b8,b9,rfl,g1,g2,g3,g4,g5,g6⟩:=hI;have gi:Z[i]?=some Z[i]:=by simp[G5]
   obtain⟨c4,c7,c8,c9,M3,e3,p3,u3⟩:=a1w (W:=W) (M:=M2) (a0:=a0) (a2:=a2) (a3:=a3) (a4:=b4) (a7:=b7) (a8:=b8) (a9:=b9) hz g4 g1 (by lia) (Rz g3 hk) (Rz g3 gi);have hf:=g4.good f (az (Rz g3 hk));have hg:=g4.good Z[i] (az (Rz g3 gi));apply _k;refine⟨.next,_,M3,?_,.inl rfl,Kp (Kp G f Z[i]) Z[i] f,c4,sI i,c7,c8,c9,rfl,p3,g2.trans u3,(g3.trans (N8 _ _ _)).trans (N8 _ _ _),adz (adz g4 hf hg) hg hf,?_,?_⟩
   .simp[Gk,e3]
   .have:=Xc G f Z[i]
    have:=Xc (Kp G f Z[i]) Z[i] f
    lia
   .intro j g hj U
    have pr:=(N8 G f Z[i]).trans (N8 (Kp G f Z[i]) Z[i] f);rcases Nat.lt_succ_iff_lt_or_eq.mp hj with q|q
    .exact⟨(g6 j g q U).1.mono pr,(g6 j g q U).2.mono pr⟩
    .subst q
     have:g=Z[j]:=by rw[gi]at U;exact(ie U).symm
     subst this;exact⟨(ai0 _ _ _).mono (N8 _ _ _),ai0 _ _ _⟩)
 apply _k;refine⟨G,b4,b6,b7,b8,b9,L,e,h1,h2,h3,h4,by lia,λj g hg=>h6 j g (ak.mp hg).1 hg⟩
def ao9(f:F)(i j k:Nat)(Z:Env):(Tg.names [i,j,k]).put f.toD Z=some (((Z.set i (sI f.a)).set j (sI f.b)).set k (some (Ec f.r))):=rfl
noncomputable def abj(Z:List F)(f:F):List F:=if ¬f.Qo/\f∉Z then Z++[f]else Z
def ClK(Z:List F)(k:Nat):Prop:=∀(i j:Nat)(f g:F),i<k->j<k->Z[i]?=some f->Z[j]?=some g->Cl2 Z f g
def alc(hz:Sz sz)(hf:Yt sz f)(G:M[p]?=some (.lst (gs.map F.toD)))(hl:gs.length<100000) :
 ∃M',zy.den W [a0,sR p,sI f.a,sI f.b,Ec f.r,a5,a6,a7,a8,a9] M=.ok (.next,[a0,sR p,sI f.a,sI f.b,some (Ec f.r),a5,a6,a7,a8,a9]) M' /\
  M'[p]?=some (.lst ((abj gs f).map F.toD))/\Up p M M':=by
 have Z:f.r.length<=100000:=by have:=(ag5 hz hf).2;exact a_ this (by decide)
 have Ib:=ao3 M f gs;have L:D.tup [.int f.a,.int f.b,Ec f.r]=f.toD:=rfl;have ap:=Dr (d:=f.toD) G (by rw[dg];exact hl)
 by_cases i:f.Qo
 .refine⟨M,?_,by rw[abj,bc (λq=>q.1 i)];exact G,Up.refl p M⟩
  simp[-eq_int,zy,Be,i.1,Iu,Z,N7,Al i.2]
 .by_cases m:f∈gs
  .refine⟨M,?_,by rw[abj,bc (λq=>q.2 m)];exact G,Up.refl p M⟩
   by_cases U:f.a=f.b
   .have i2:¬f.r=List.range f.r.length:=λq=>i ⟨U,q⟩
    simp[U]at L;simp[-eq_int,zy,Be,U,i2,Iu,Z,N7,L,Qp G,Ib,m]
   .simp[-eq_int,zy,Be,U,Iu,Z,N7,L,Qp G,Ib,m]
  .refine⟨M.set p (.lst ((gs++[f]).map F.toD)),?_,by rw[abj,bz ⟨i,m⟩,rm G],Up.set _ _ _⟩
   by_cases U:f.a=f.b
   .have i2:¬f.r=List.range f.r.length:=λq=>i ⟨U,q⟩
    simp[U]at L;simp[-eq_int,zy,Be,U,i2,Iu,Z,N7,L,Qp G,Ib,m,Eh G,ap]
   .simp[-eq_int,zy,Be,U,Iu,Z,N7,L,Qp G,Ib,m,Eh G,ap]
set_option tactic.hygienic true in
def apa(h:Inv sz Y)(Z:Yt sz f):Inv sz (abj Y f):=by
 unfold abj;split
 .rename_i q;exact h.snoc Z q.2 q.1
 .exact h
def apb(Z:List F)(f:F):(abj Z f).length<=Z.length+1:=by unfold abj;split<;>simp
def ald(hz:Sz sz)(hi:Inv sz gs)(hp:M[p]?=some (.lst (gs.map F.toD)))(hl:gs.length<=3) :
 ∃(U:Env)(G:di),Gn.den W [a0,sR p,a2,a3,a4,sI 0,a6,a7,a8,a9] M=.ok (.next,U) G/\U[1]?=some (sR p)/\∃Z:List F,G[p]?=some (.lst (Z.map F.toD))/\Up p M G/\Inv sz Z/\Z.length<=15 /\
  (Z.length<6->N6 Z)/\(gs=[]->Z=[]):=by
 unfold Gn;rw[agy];refine T3 (λm ρ G=>∃(Z:List F)(k:Nat)(b4 b6 b7 b8 b9:Option D),ρ=[a0,sR p,a2,a3,b4,sI k,b6,b7,b8,b9]/\G[p]?=some (.lst (Z.map F.toD))/\Up p M G/\Inv sz Z/\Z.length<=15/\ClK Z k/\k<=5/\m=10-k/\(gs=[]->Z=[]))
  (λU G=>U[1]?=some (sR p)/\∃Z:List F,G[p]?=some (.lst (Z.map F.toD))/\Up p M G/\Inv sz Z/\Z.length<=15/\(Z.length<6->N6 Z)/\(gs=[]->Z=[])) ?_ ak5 10 _ M (by decide)
  ⟨gs,0,a4,a6,a7,a8,a9,rfl,hp,Up.refl p M,hi,a_ hl (by decide),λi j f g h=>absurd h (Bb _),iy _,rfl,id⟩
 intro m ρ M1 hI;refine hG λ_ _k=>?_
 obtain⟨Z,k,b4,b6,b7,b8,b9,rfl,g1,g2,g3,g4,g5,g6,g7,g8⟩:=hI;apply _k
 by_cases c1:k<Z.length
 .have qq:(k:Int)<(Z.length:Int):=m_ c1
  by_cases c2:Z.length<6
  .have q0:(Z.length:Int)<6:=m_ c2
   right
   refine hG λ_ _k=>?_
   obtain⟨is,d4,d6,d7,d8,d9,M2,e,p2,u2,pr,q3,l2,q2⟩:=avl (W:=W) (M:=M1) (a0:=a0) (a2:=a2) (a3:=a3) (a4:=b4) (a6:=b6) (a7:=b7) (a8:=b8) (a9:=b9) (k:=k) hz g3 g1 (c_ g4 (by decide)) (show Z[k]?=some Z[k]by simp[c1]);apply _k;refine⟨M1,.next,_,M2,10-(k+1),?_,?_,.inl rfl,by lia,is,k+1,d4,d6,d7,d8,d9,rfl,p2,g2.trans u2,q3,by lia,?_,by lia,rfl,?_⟩
   .simp[Kq g1,qq,q0]
   .simp[Ld,e]
   .intro i j f g Q7 L hf hg
    have qk:∀(i:Nat)(f:F),i<k+1->is[i]?=some f->Z[i]?=some f:=λi f hi hf=>by
     have G5:i<Z.length:=b_ hi c1
     have:=Rz pr (show Z[i]?=some Z[i]by simp[G5]);rw[hf]at this;rw[this];simp[G5]
    have q1:=qk i f Q7 hf;have qv:=qk j g L hg
    by_cases ei:i=k
    .subst ei
     have:f=Z[i]:=by have:=q1;simp[c1]at this;exact this.symm
     subst this;exact(q2 j g qv).1
    .by_cases ej:j=k
     .subst ej
      have:g=Z[j]:=by have:=qv;simp[c1]at this;exact this.symm
      subst this;exact(q2 i f q1).2
     .exact(g5 i j f g (by lia) (by lia) q1 qv).mono pr
   .intro e0
    have:=g8 e0;subst this;simp at c1
  .left
   have q0:¬(Z.length:Int)<6:=by lia
   exact⟨M1,by simp[Kq g1,qq,q0],rfl,Z,g1,g2,g3,g4,λq=>absurd q c2,g8⟩
 .left
  have qq:¬(k:Int)<(Z.length:Int):=by lia
  refine⟨M1,by simp[Kq g1,qq],rfl,Z,g1,g2,g3,g4,λ_=>?_,g8⟩;intro f hf g hg;refine hG λ_ _k=>?_
  obtain⟨i,Q7,ei⟩:=pq hf;obtain⟨j,L,ej⟩:=pq hg;apply _k;exact g5 i j f g (b_ Q7 (s_ c1)) (b_ L (s_ c1)) (by simp[Q7,ei]) (by simp[L,ej])
def Zz(hm:1<=m)(hz:Sz sz)(hg:Good sz fs)(hl:fs.length<=3)(hd:gn M d=some (fs.map F.toD)) :
 ∃(U:List F)(Z:di),prog.call m 16 [d] M=.ok (.ref M.length) Z/\Z[M.length]?=some (.lst (U.map F.toD))/\w6 M Z/\Z.length=M.length+1/\Inv sz U/\U.length<=15/\(U.length<6->N6 U)/\(fs=[]->U=[]):=by
 rw[call_of hm rfl];refine hG λ_ _k=>?_
 have L:gn (M++[.lst []]) d=some (fs.map F.toD):=(w6.app M _).gn hd;obtain⟨s,q0,q6,M1,e1,G,b2,b3,b4,rfl,h1,h2,h3,h4,h5⟩:=Wt (body:=λd ρ M=>match(Tg.names [2,3,4]).put d ρ with
  | some qv=>zy.den (PW (m-1)) qv M|none=>.bad)
  (λi ρ Z=>∃(G:List F)(b2 b3 b4:Option D),ρ=[some d,sR M.length,b2,b3,b4,none,none,none,none,none]/\Z[M.length]?=some (.lst (G.map F.toD))/\Up M.length (M++[.lst []]) Z/\Inv sz G/\G.length<=i/\(fs=[]->G=[]))
  (ρ:=[some d,sR M.length,none,none,none,none,none,none,none,none]) (M:=M++[.lst []]) L
  ⟨[],none,none,none,rfl,by simp,Up.refl _ _,⟨λf hf=>by simp at hf,by simp,λf hf=>by simp at hf⟩,by simp,λ_=>rfl⟩
  (λi ρ Z hI=>by
   refine hG λ_ _k=>?_
   obtain⟨G,b2,b3,b4,rfl,g1,g2,g3,g4,g5⟩:=hI;apply _k;cases d with
   |vl xs=>exact hd
   |ref n =>
    have hn:n≠M.length:=by
     simp only[gn]at hd;cases e:M[n]? with
     |none=>rw[e]at hd;simp at hd|some o=>have:=ye e;exact h_ this
    simp only[gn]at L⊢;rw[g2.oth n hn];exact L
   | _=>simp[gn]at hd)
  (λi x ρ Z hx hI=>by
   refine hG λ_ _k=>?_
   obtain⟨G,b2,b3,b4,rfl,g1,g2,g3,g4,g5⟩:=hI;obtain⟨f,hf,rfl⟩:∃f,fs[i]?=some f/\f.toD=x:=by simpa using hx
   have qk:=az hf;have q4:=(ak.mp hf).1;obtain⟨M2,e2,p2,u2⟩:=alc (W:=PW (m-1)) (M:=Z) (a0:=some d) (a5:=none) (a6:=none) (a7:=none) (a8:=none) (a9:=none) hz (hg f qk) g1 (c_ g4 (b_ q4 (a_ hl (by decide))));apply _k;refine⟨.next,_,M2,?_,.inl rfl,abj G f,sI f.a,sI f.b,some (Ec f.r),rfl,p2,g2.trans u2,apa g3 (hg f qk),?_,λe=>?_⟩
   .rw[ao9];exact e2
   .have:=apb G f;exact a_ this (v_ g4)
   .subst e;simp at hf)
 apply _k;have q3:G.length<=3:=by simp at h4;exact a_ h4 hl
 refine hG λ_ _k=>?_
 obtain⟨q5,M2,e2,q1,U,p2,u2,qq,l2,c2,z2⟩:=ald (W:=PW (m-1)) (M:=M1) (a0:=some d) (a2:=b2) (a3:=b3) (a4:=b4) (a6:=none) (a7:=none) (a8:=none) (a9:=none) hz h3 h1 q3;have up:=h2.trans u2;apply _k;refine⟨U,M2,?_,p2,λa o h=>?_,?_,qq,l2,c2,λe=>z2 (h5 e)⟩
 .have q2:Gp.den (PW (m-1)) [some d,sR M.length,none,none,none,none,none,none,none,none] (M++[.lst []])=.ok (.next,[some d,sR M.length,b2,b3,b4,none,none,none,none,none]) M1:=by
   unfold Gp;rw[Tv];simp[q0];exact e1
  simp[Fn.run,Pb,Pa,MW.new,q2,e2,q1]
 .have:=ye h
  rw[up.oth a (h_ this)];exact o5 h
 .rw[up.len];simp
noncomputable def eD(f:F):D:=.tup [.int f.a,.int f.b]
def Ia(Z:List F):D:=.tup (Z.map eD)
def ent(Z:List F)(f g:F):Int:=if f.comp g∈Z then(pos (f.comp g) Z:Int)else -1
noncomputable def ky(j k:Nat):List Kx:=[.inl (j:Int),.inl (k:Int)]
def abl(h:ky j k=ky Z k'):j=Z/\k=k':=by simp[ky]at h;exact⟨D_ h.1,D_ h.2⟩
def Z0(j k Z G:Nat):Prop:=Z<j\/(Z=j/\G<k)
structure Tb(hs:List F)(j k:Nat)(kvs:List (List Kx×D)):Prop where
 keys:∀p∈kvs,∃(j' k':Nat)(f g:F),p=(ky j' k',.int (ent hs f g))/\hs[j']?=some f/\hs[k']?=some g/\f.b=g.a/\Z0 j k j' k'
 look:∀(j' k':Nat)(f g:F),hs[j']?=some f->hs[k']?=some g->f.b=g.a->Z0 j k j' k'->Bp kvs (ky j' k')=some (.int (ent hs f g))
 len:kvs.length<=j*hs.length+k
def ale{Z:List (List Kx×D)}(h:∀p∈Z,p.1≠q):Bp Z q=none:=by unfold Bp;rw[List.find?_eq_none.mpr (λp G=>by simpa using h p G)];rfl
def alf{Z:List (List Kx×D)}(h:∀p∈Z,p.1≠q):Fy Z q v=Z++[(q,v)]:=by unfold Fy;rw[bc];simp only[zr,cu,not_exists,not_and];exact h
def abm{Z:List (List Kx×D)}(h:q≠q'):Bp (Z++[(q,v)]) q'=Bp Z q':=by
 unfold Bp;rw[List.find?_append];cases e:Z.find? (λp=>decide (p.1=q'))with
 |some p=>rfl|none=>simp[h]
def abn{Z:List (List Kx×D)}(h:∀p∈Z,p.1≠q):Bp (Z++[(q,v)]) q=some v:=by unfold Bp;rw[List.find?_append,List.find?_eq_none.mpr (λp G=>by simpa using h p G)];simp
def Tb.skip(h:Tb U j k kvs)(hf:U[j]?=some f)(hg:U[k]?=some g)(n:f.b≠g.a):Tb U j (k+1) kvs:=by
 refine⟨λp hp=>?_,λZ G L g' a b c d=>?_,by have:=h.len;exact a_ this (w_ x_)⟩
 .obtain⟨Z,G,L,g',e,a,b,c,d⟩:=h.keys p hp
  exact⟨Z,G,L,g',e,a,b,c,by unfold Z0 at *;lia⟩
 .by_cases q:Z=j/\G=k
  .obtain⟨rfl,rfl⟩:=q
   rw[hf]at a;rw[hg]at b;cases a;cases b;exact absurd c n
  .exact h.look Z G L g' a b c (by unfold Z0 at *;lia)
def Tb.fresh(h:Tb G j k kvs):∀p∈kvs,p.1≠ky j k:=by
 intro p Z e;obtain⟨U,L,f',g',rfl,a,b,c,d⟩:=h.keys p Z;have:=abl e;unfold Z0 at d
 lia
def Tb.put(h:Tb Z j k kvs)(hf:Z[j]?=some f)(hg:Z[k]?=some g)(n:f.b=g.a):Tb Z j (k+1) (Fy kvs (ky j k) (.int (ent Z f g))):=by
 rw[alf h.fresh];refine⟨λp hp=>?_,λG U L g' a b c d=>?_,by have:=h.len;simp;lia⟩
 .rcases du.mp hp with q|q
  .obtain⟨G,U,L,g',e,a,b,c,d⟩:=h.keys p q
   exact⟨G,U,L,g',e,a,b,c,by unfold Z0 at *;lia⟩
  .have:p=(ky j k,.int (ent Z f g)):=by simpa using q
   exact⟨j,k,f,g,this,hf,hg,n,by unfold Z0;lia⟩
 .by_cases q:G=j/\U=k
  .obtain⟨rfl,rfl⟩:=q
   rw[hf]at a;rw[hg]at b;cases a;cases b;exact abn h.fresh
  .rw[abm (λe=>q (by have:=abl e;exact⟨this.1.symm,this.2.symm⟩))]
   exact h.look G U L g' a b c (by unfold Z0 at *;lia)
def Tb.next(h:Tb Z j Z.length kvs):Tb Z (j+1) 0 kvs:=by
 refine⟨λp hp=>?_,λG U L g' a b c d=>?_,by have:=h.len;have e:(j+1)*Z.length=j*Z.length+Z.length:=Nat.succ_mul _ _;exact a_ this (a_ (g_ e) x_)⟩
 .obtain⟨G,U,L,g',e,a,b,c,d⟩:=h.keys p hp
  exact⟨G,U,L,g',e,a,b,c,by unfold Z0 at *;lia⟩
 .have:=(ak.mp b).1
  exact h.look G U L g' a b c (by unfold Z0 at *;lia)
def apc{Z:List F}{j k:Nat}(hz:Sz sz)(hf:Yt sz f)(hg:Yt sz g)(h:f.b=g.a)(L:M[q]?=some (.lst (Z.map F.toD)))(hj:Z[j]?=some f)(hk:Z[k]?=some g) :
 Er.den W [a0,a1,sR q,a3,a4,sI j,sI k,a7] M=.ok (.vl ((f.comp g).r.map nD)) M:=by
 have G:(f.r.map nD).length<=100000:=by rw[dg,hf.len];have:=hz f.a;exact a_ this.2 (by decide)
 unfold Er;rw[aa9 (ds:=f.r.map nD) (M1:=M) (g:=λd=>match d with|.int i=>nD (g.r.getD i.toNat 0)|_=>.non) (by simp[Pr L hj,ao6,Ec]) G (λx hx=>by
  obtain⟨y,hy,rfl⟩:=bf.mp hx;have U:y<g.r.length:=by rw[hg.len,<-h];exact hf.ran y hy
  exact⟨_,rfl,by simp[Pr L hk,ao6,nD,ao7 M g.r U]⟩)]
 simp[F.comp,nD]
def ag9(hz:Sz sz)(hi:Inv sz Z)(hl:Z.length<=5)(G:M[q]?=some (.lst (Z.map F.toD)))(hr:M[r]?=some (.dT kvs))(U:Z[j]?=some f)(hk:Z[k]?=some g)(ht:Tb Z j k kvs) :
 ∃(b7:Option D)(M':di)(L:List (List Kx×D)),Ay.den W [a0,a1,sR q,a3,sR r,sI j,sI k,a7] M=.ok (.next,[a0,a1,sR q,a3,sR r,sI j,sI k,b7]) M' /\
  M'[r]?=some (.dT L)/\Tb Z j (k+1) L/\Up r M M':=by
 have qk:=(ak.mp U).1;have q1:=(ak.mp hk).1;have hf:=hi.good f (az U);have hg:=hi.good g (az hk)
 by_cases h:f.b=g.a
 .have hc:=apc (W:=W) (M:=M) (a0:=a0) (a1:=a1) (a3:=a3) (a4:=some (.ref r)) (a7:=a7) hz hf hg h G U hk
  have Ib:=ao3 M (f.comp g) Z;have q0:kvs.length<100000:=by
   have:=ht.len;have:j*Z.length<=5*5:=Nat.mul_le_mul (e_ (b_ qk hl)) hl
   lia
  have st:=agz (d:=.int (ent Z f g)) (b:=.tup [.int j,.int k]) hr rfl q0;refine⟨some (f.comp g).toD,_,Fy kvs (ky j k) (.int (ent Z f g)),?_,rm (o:=.dT (Fy kvs (ky j k) (.int (ent Z f g)))) hr,ht.put U hk h,Up.set _ _ _⟩
  by_cases m:f.comp g∈Z
  .have qq:Qg .index (.ref q) [(f.comp g).toD] M=.ok (.int (pos (f.comp g) Z)) M:=by simp[Qg,onL,Mr (q9 G),a9d,m]
   have qv:Vp .index (.ref q) M=true:=by simp[Vp,q9 G]
   have he:ent Z f g=(pos (f.comp g) Z:Int):=bz m;rw[he]at st;simp[-eq_int,Ay,Pr G U,Pr G hk,U6,U7,Be,h,hc,abi,ag6,Qp G,Ib,m,qv,qq,st,he,ky]
  .have he:ent Z f g=-1:=bc m
   rw[he]at st;simp[-eq_int,Ay,Pr G U,Pr G hk,U6,U7,Be,h,hc,abi,ag6,Qp G,Ib,m,st,he,ky]
 .refine⟨a7,M,kvs,?_,hr,ht.skip U hk h,Up.refl r M⟩
  simp[-eq_int,Ay,Pr G U,Pr G hk,U6,U7,Be,h]
def a1y(hz:Sz sz)(hi:Inv sz G)(hl:G.length<=5)(hq:M[q]?=some (.lst (G.map F.toD)))(hr:M[r]?=some (.dT []))(qq:q≠r) :
 ∃(U:Env)(M':di)(Z:List (List Kx×D)),Et.den W [a0,a1,sR q,a3,sR r,a5,a6,a7] M=.ok (.next,U) M'/\U[2]?=some (sR q)/\U[3]?=some a3/\U[4]?=some (sR r)/\U.length=8 /\
  M'[r]?=some (.dT Z)/\Tb G G.length 0 Z/\Up r M M':=by
 unfold Et;have q2:∀(M':di),Up r M M'->qy .len [.ref q] M'=.ok (.int G.length) M':=λM' u=>Kq (by rw[u.oth q qq];exact hq)
 obtain⟨U,M',e,b5,b6,L,Z,rfl,h1,h2,h3⟩:=Dl (W:=W) (t:=.name 5) (b:=Es) (it:=.blt .len (.o (.v 2))) (n:=G.length) (ρ:=[a0,a1,sR q,a3,sR r,a5,a6,a7]) (M:=M) (M1:=M) (by simp[Kq hq]) (a_ hl (by decide))
  (λj ρ M'=>∃(b5 b6 L:Option D)(Z:List (List Kx×D)),ρ=[a0,a1,sR q,a3,sR r,b5,b6,L]/\M'[r]?=some (.dT Z)/\Tb G j 0 Z/\Up r M M')
  ⟨a5,a6,a7,[],rfl,hr,⟨λp hp=>by simp at hp,λj' k' f g a b c d=>by unfold Z0 at d;lia,by simp⟩,Up.refl r M⟩
  (λj ρ M1 hj hI=>by
   obtain⟨b5,b6,L,Z,rfl,g1,g2,g3⟩:=hI;have qk:M1[q]?=some (.lst (G.map F.toD)):=by rw[g3.oth q qq];exact hq
   obtain⟨q3,M2,e2,c6,c7,q0,rfl,k1,k2,k3⟩:=Dl (W:=W) (t:=.name 6) (b:=Ay) (it:=.blt .len (.o (.v 2))) (n:=G.length) (ρ:=[a0,a1,sR q,a3,sR r,sI j,b6,L]) (M:=M1) (M1:=M1) (by simp[Kq qk]) (a_ hl (by decide))
    (λk ρ M'=>∃(b6 L:Option D)(Z:List (List Kx×D)),ρ=[a0,a1,sR q,a3,sR r,sI j,b6,L]/\M'[r]?=some (.dT Z)/\Tb G j k Z/\Up r M1 M')
    ⟨b6,L,Z,rfl,g1,g2,Up.refl r M1⟩
    (λk ρ M2 hk hI=>by
     obtain⟨b6,L,Z,rfl,k1,k2,k3⟩:=hI;have q1:M2[q]?=some (.lst (G.map F.toD)):=by rw[k3.oth q qq];exact qk
     obtain⟨c7,M3,qv,e3,p3,t3,u3⟩:=ag9 (W:=W) (M:=M2) (a0:=a0) (a1:=a1) (a3:=a3) (a7:=L) hz hi hl q1 k1 (show G[j]?=some G[j]by simp[hj]) (show G[k]?=some G[k]by simp[hk]) k2;exact⟨_,.next,_,M3,rfl,e3,.inl rfl,_,c7,qv,rfl,p3,t3,k3.trans u3⟩)
   exact⟨_,.next,_,M2,rfl,by simp[Es,Ju,e2],  .inl rfl,sI j,c6,c7,q0,rfl,k1,k2.next,g3.trans k3⟩)
 exact⟨_,M',Z,e,rfl,rfl,rfl,rfl,h1,h2,h3⟩
structure Cu(sz:Nat->Nat)(K:Nat)(hs:List F)(kvs:List (List Kx×D)):Prop where
 hz:Sz sz
 inv:Inv sz hs
 cl:N6 hs
 len:hs.length<=5
 k1:1<=K
 k3:K<=3
 Y5:∀f∈hs,f.a<K
 abo:∀f∈hs,f.b<K
 tb:Tb hs hs.length 0 kvs
theorem ad0:∀(Z:Yf)(a:Nat),∃v:Nat,(Z.map λ(x:Nat)=>(x:Int)).foldl (λm x=>if m<x then x else m) (a:Int)=(v:Int)/\a<=v/\(∀x∈Z,x<=v)/\(v=a\/v∈Z)
 |[],a=>⟨a,rfl,cg _,by simp,.inl rfl⟩
 |x::Z,a=>by
  refine hG λ_ _k=>?_
  obtain⟨v,e,G,h2,L⟩:=ad0 Z (if a<x then x else a);apply _k;refine⟨v,?_,?_,λy U=>?_,?_⟩
  .rw[dj,Ae,<-e]
   congr 1
   by_cases q:a<x
   .have:(a:Int)<(x:Int):=m_ q
    simp[q]
   .have:¬(a:Int)<(x:Int):=by lia
    simp[q]
  .split at G<;>omega
  .rcases cj.mp U with q|q
   .subst q;split at G<;>omega
   .exact h2 y q
  .rcases L with q|q
   .by_cases w:a<x
    .right;rw[bz w]at q;subst q;simp
    .left;rw[bc w]at q;exact q
   .right;exact bx _ q
theorem ad1:∀Z:List Nat,Ys (Z.map nD)=some (Z.map λ(x:Nat)=>(x:Int))
 |[]=>rfl|x::Z=>by simp[nD,Ys,show Ys (Z.map nD)=_ from ad1 Z]
def a1z(h:xs≠[]):∃v:Nat,qy .max [.vl (xs.map nD)] M=.ok (.int v) M/\(∀x∈xs,x<=v)/\v∈xs:=by
 refine hG λ_ _k=>?_
 obtain⟨a,r,rfl⟩:∃a r,xs=a::r:=List.exists_cons_of_ne_nil h;obtain⟨v,e,G,Z,L⟩:=ad0 r a;apply _k;refine⟨v,?_,λx U=>?_,?_⟩
 .have:=ad1 (a::r)
  simp only[qy,avd,ala,mq,this];simp only[dj,a1d,mq,vg,Res.Cd,e]
 .rcases cj.mp U with q|q
  .subst q;exact G
  .exact Z x q
 .rcases L with q|q
  .rw[q];simp
  .exact bx _ q
def max2(a b:Nat):qy .max [.int a,.int b] M=.ok (nD (max a b)) M:=by
 by_cases h:a<b
 .have Z:(a:Int)<b:=m_ h
  have e:max a b=b:=by lia
  simp[qy,h,nD,e]
 .have Z:¬(a:Int)<b:=by lia
  have e:max a b=a:=by lia
  simp[qy,h,nD,e]
noncomputable def toF:D->F
 |.tup [.int a,.int b,.tup r]=>⟨a.toNat,b.toNat,r.map λd=>match d with|.int i=>i.toNat|_=>0⟩
 |_=>⟨0,0,[]⟩
def V5(f:F):toF f.toD=f:=by
 obtain⟨a,b,r⟩:=f;show F.mk a b ((r.map nD).map λd=>match d with|.int i=>i.toNat|_=>0)=F.mk a b r;rw[n8]
 conv=>rhs;rw[<-List.map_id r]
 exact lg _ (p7 λx _=>rfl)
def apd{Z:List F}(G:Z.length<=100000)(U:M[q]?=some (.lst (Z.map F.toD))) :
 Eu.den W [a0,a1,sR q,a3,a4,a5,a6,a7] M=.ok (.vl ((Z.map λf=>max f.a f.b).map nD)) M:=by
 unfold Eu;rw[Bv (d:=.ref q) (ds:=Z.map F.toD) (M1:=M) (g:=λd=>nD (max (toF d).a (toF d).b)) (by simp) (q9 U) (by simpa using G) (λx L=>by
  refine hG λ_ _k=>?_
  obtain⟨f,hf,rfl⟩:=bf.mp L;apply _k;exact⟨_,ao9 _ _ _ _ _,by simp[max2,V5]⟩)]
 simp[V5]
def alg{G:List F}(U:L[2]?=some (sR q))(Z:L.length=8)(hl:G.length<=100000)(hq:M[q]?=some (.lst (G.map F.toD))) :
 Ep.den W L M=.ok (.vl (G.map eD)) M:=by
 unfold Ep;rw[Bv (d:=.ref q) (ds:=G.map F.toD) (M1:=M) (g:=λd=>eD (toF d)) (by simp[U]) (q9 hq) (by simpa using hl) (λx hx=>by
  refine hG λ_ _k=>?_
  obtain⟨f,hf,rfl⟩:=bf.mp hx;apply _k;refine⟨_,ao9 _ _ _ _ _,?_⟩;rw[V5];simp[eD,List.getElem?_set,Z])]
 simp[V5]
def alh(hm:1<=m)(hz:Sz sz)(qv:Has t f M)(hg:Good sz fs)(hl:fs.length<=3)(hd:gn M d=some (fs.map F.toD))(hq:M[q]?=some (.lst (hs.map F.toD)))(q2:q≠t)(hi:Inv sz hs)(qk:hs.length<=15)(hc:hs.length<6->N6 hs)(h0:fs=[]->hs=[]) :
 ∃(G:Env)(M':di),Ew.den (PW m) [sR t,some d,sR q,a3,a4,a5,a6,a7] M=.ok (.next,G) M'/\∃(d':D)(L:Nat)(Z:List F),G=[sR t,some d',sR L,a3,a4,a5,a6,a7] /\
  M'[L]?=some (.lst (Z.map F.toD))/\L≠t/\Inv sz Z/\Z.length<=5/\N6 Z/\w6 M M':=by
 unfold Ew;rw[agy];refine T3 (λn ρ M'=>∃(d:D)(fs hs:List F)(q:Nat),ρ=[sR t,some d,sR q,a3,a4,a5,a6,a7]/\fs.length=n/\Good sz fs/\fs.length<=3/\gn M' d=some (fs.map F.toD)/\M'[q]?=some (.lst (hs.map F.toD))/\q≠t /\
  Inv sz hs/\hs.length<=15/\(hs.length<6->N6 hs)/\(fs=[]->hs=[])/\w6 M M')
  (λG M'=>∃(d':D)(L:Nat)(Z:List F),G=[sR t,some d',sR L,a3,a4,a5,a6,a7]/\M'[L]?=some (.lst (Z.map F.toD))/\L≠t/\Inv sz Z/\Z.length<=5/\N6 Z/\w6 M M') ?_ ak5 fs.length _ M (by unfold ak5;exact c_ hl (by decide))
  ⟨d,fs,hs,q,rfl,rfl,hg,hl,hd,hq,q2,hi,qk,hc,h0,w6.refl M⟩
 intro n ρ M1 hI;refine hG λ_ _k=>?_
 obtain⟨d,fs,hs,q,rfl,rfl,g1,g2,g3,g4,g5,g6,g7,g8,g9,U⟩:=hI;apply _k
 by_cases c:5<hs.length
 .right
  refine hG λ_ _k=>?_
  have c':(5:Int)<(hs.length:Int):=m_ c
  have Q3:fs≠[]:=λe=>by rw[g9 e]at c;simp at c
  have q3:1<=fs.length:=List.length_pos_iff.mpr Q3
  have q1:adg d none (some (-1)) M1=some (.vl (fs.dropLast.map F.toD)):=by
   have qq:agr (fs.map F.toD) none (some (-1))=fs.dropLast.map F.toD:=by
    have e2:((-1:Int)+(fs.length:Int)).toNat=fs.length-1:=by lia
    simp[agr,clip,e2,List.map_dropLast,List.dropLast_eq_take]
   cases d with
   |tup ds=>simp[gn]at g3|vl ds=>simp only[adg,g3,vg,qq]|ref n=>simp only[adg,g3,vg,qq]|_=>simp[gn]at g3
  have gd:Good sz fs.dropLast:=λf hf=>g1 f (List.dropLast_subset fs hf)
  obtain⟨Z,M2,e,p2,k2,l2,i2,b2,c2,z2⟩:=Zz (M:=M1) (m:=m) (d:=.vl (fs.dropLast.map F.toD)) hm hz gd (by simp;exact a_ g2 (by decide)) rfl;have q0:t<M1.length:=by obtain⟨n,h,_⟩:=qv;exact ye (U t _ h)
  apply _k;refine⟨M1,.next,_,M2,fs.length-1,?_,?_,.inl rfl,by lia,.vl (fs.dropLast.map F.toD),fs.dropLast,Z,M1.length,rfl,by simp,gd,by simp;exact a_ g2 (by decide),rfl,p2,i_ q0,i2,b2,c2,z2,U.trans k2⟩
  .simp[Kq g4,c']
  .simp[-List.map_dropLast,Jv,q1,e]
 .left
  have c':¬(5:Int)<(hs.length:Int):=by lia
  exact⟨M1,by simp[Kq g4,c'],d,q,hs,rfl,g4,g5,g6,s_ c,g8 (c_ (s_ c) (by decide)),U⟩
def Xd(hm:3<=m)(q1:Has t f M):∃(K r:Nat)(sz:Nat->Nat)(hs:List F)(U:List (List Kx×D))(M':di),prog.call m 17 [.ref t] M=.ok (.tup [.int K,Ia hs,.ref r]) M'/\M'[r]?=some (.dT U)/\M.length<=r/\Cu sz K hs U/\St t f M M':=by
 rw[call_of (a_ (by decide) hm) rfl];have z3:t<M.length:=by obtain⟨n,h,_⟩:=q1;exact ye h
 refine hG λ_ _k=>?_
 obtain⟨d,M1,fs,sz,e1,d1,n1,hz,g1,l1,s1⟩:=ao5 (m:=m-1) (r_ hm) q1;obtain⟨hs,M2,e2,p2,k2,z0,i2,b2,c2,z2⟩:=Zz (M:=M1) (m:=m-1) (d:=d) (r_ (a_ (by decide) hm)) hz g1 l1 d1;apply _k;have q7:t<M1.length:=by obtain⟨n,h,_⟩:=s1.has;exact ye h
 refine hG λ_ _k=>?_
 have s2:St t f M1 M2:=St.of s1.has k2;obtain⟨zv,M3,e3,d',q,Z,rfl,p3,q3,i3,l3,c3,k3⟩:=alh (M:=M2) (m:=m-1) (t:=t) (f:=f) (d:=d) (fs:=fs) (hs:=hs) (q:=M1.length) (a3:=none) (a4:=none) (a5:=none) (a6:=none) (a7:=none) (r_ (a_ (by decide) hm)) hz s2.has g1 l1 (k2.gn d1) p2 (i_ q7) i2 b2 c2 z2;have s3:St t f M2 M3:=St.of s2.has k3;have zz:=s1.trans (s2.trans s3);apply _k;refine hG λ_ _k=>?_
 have qk:=apd (W:=PW (m-1)) (M:=M3) (a0:=some (.ref t)) (a1:=some d') (a3:=none) (a4:=none) (a5:=none) (a6:=none) (a7:=none) (by exact a_ l3 (by decide):Z.length<=100000) p3;obtain⟨v,ev,qq,q5⟩:=a1z (M:=M3) (xs:=(Z.map λf:F=>max f.a f.b)++[0]) (by simp);have L:Eg .add (.vl ((Z.map λf:F=>max f.a f.b).map nD)) (.vl [.int 0]) M3=.ok (.vl (((Z.map λf:F=>max f.a f.b)++[0]).map nD)) M3:=by rw[Zn _ _ (by simp;exact a_ l3 (by decide))];simp[nD]
 generalize hX:(D.vl ((Z.map λf:F=>max f.a f.b).map nD))=X at qk L;generalize hY:(D.vl (((Z.map λf:F=>max f.a f.b)++[0]).map nD))=Y at ev L;have z1:v<=2:=by
  rcases du.mp q5 with w|w
  .refine hG λ_ _k=>?_
   obtain⟨x,hx,rfl⟩:=bf.mp w;apply _k;have:=(i3.good x hx).a;have:=(i3.good x hx).b;lia
  .simp at w;exact a_ (f_ w) (iy _)
 have q0:Bq M3 (.ref q) (.vl [])=some (decide (Z=[])):=by
  simp only[Bq];cases Z with
  |nil=>simp[Mi,gn,p3,Uw]|cons a l=>simp[Mi,gn,p3]
 apply _k;refine hG λ_ _k=>?_
 obtain⟨K,G,hK,k1,q8,ka,kb,p4,s4,l4⟩:∃(K:Nat)(G:di),
  (Bx.iff (.cmp .eq (.v 2) (.Hh .nil)) (.o (.asg (.tg (.name 3)) (.bin .add (.i 1) (.call 14 (.p (.v 0) (.i 3)))))) .nil).den (PW (m-1)) [sR t,some d',sR q,sI (1+(v:Int)),none,none,none,none] M3
   = .ok (.next,[sR t,some d',sR q,sI K,none,none,none,none]) G/\1<=K/\K<=3/\(∀f∈Z,f.a<K)/\(∀f∈Z,f.b<K)/\G[q]?=some (.lst (Z.map F.toD))/\St t f M3 G/\G.length=M3.length:=by
  by_cases he:Z=[]
  .refine hG λ_ _k=>?_
   obtain⟨w,G,ew,lw,sw,q4⟩:=Ir (m:=m-1) (r_ (a_ (by decide) hm)) s3.has (many:=3) (by decide) (by decide);apply _k;refine⟨1+w,G,?_,x_,by lia,by simp[he],by simp[he],sw.keep q _ q3 p3,sw,q4⟩;simp[q0,he,ew]
  .refine⟨1+v,M3,?_,x_,by lia,λx hx=>?_,λx hx=>?_,p3,St.of s3.has (w6.refl _),rfl⟩
   .simp[q0,he]
   .have:=qq (max x.a x.b) (xg _ (bf.mpr ⟨x,hx,rfl⟩));lia
   .have:=qq (max x.a x.b) (xg _ (bf.mpr ⟨x,hx,rfl⟩));lia
 have p5:(G++[.dT []])[q]?=some (.lst (Z.map F.toD)):=o5 p4;have q2:=ye p4;obtain⟨zw,M6,U,e6,r2,r3,r4,r8,p6,t6,u6⟩:=a1y (W:=PW (m-1)) (M:=G++[.dT []]) (q:=q) (r:=G.length) (a0:=some (.ref t)) (a1:=some d') (a3:=some (.int K)) (a5:=none) (a6:=none) (a7:=none) hz i3 l3 p5 (by simp) (h_ q2);apply _k;have zk:M6[q]?=some (.lst (Z.map F.toD)):=by rw[u6.oth q (h_ q2)];exact p5
 have q6:=alg (W:=PW (m-1)) (M:=M6) r2 r8 (by exact a_ l3 (by decide):Z.length<=100000) zk;have qv:=zz.trans s4;refine⟨K,G.length,sz,Z,U,M6,?_,p6,qv.len,⟨hz,i3,c3,l3,k1,q8,ka,kb,t6⟩,?_⟩
 .simp only[Fn.run,Nj,Ni]
  simp[-a85,e1,e2,e3,qk,L,ev,hK,MW.new,e6,r3,r4,q6,Di,Ia]
 .refine qv.trans ⟨?_,?_,λa o na h=>?_⟩
  .rw[u6.len];simp
  .obtain⟨n,h,o⟩:=s4.has
   exact⟨n,by rw[u6.oth t (by have:=ye h;exact h_ this)];exact o5 h,o⟩
  .rw[u6.oth a (by have:=ye h;exact h_ this)];exact o5 h
noncomputable def pD(p:Nat×Nat):D:=.tup [.int p.1,.int p.2]
def Meet(Z:List F)(j k:Nat):Prop:=∃f g,Z[j]?=some f/\Z[k]?=some g/\f.b=g.a
structure Ps(hs:List F)(j k:Nat)(ps:List (Nat×Nat)):Prop where
 all:∀p:Nat×Nat,p∈ps↔Meet hs p.1 p.2/\Z0 j k p.1 p.2
 len:ps.length<=j*hs.length+k
def Ps.skip(h:Ps Z j k ps)(U:Z[j]?=some f)(G:Z[k]?=some g)(n:f.b≠g.a):Ps Z j (k+1) ps:=by
 refine⟨λp=>?_,by have:=h.len;exact a_ this (w_ x_)⟩;rw[h.all p];constructor
 .exact λq=>⟨q.1,by have:=q.2;unfold Z0 at *;lia⟩
 .intro q
  refine⟨q.1,?_⟩;have L:=q.2
  by_cases e:p.1=j/\p.2=k
  .refine hG λ_ _k=>?_
   obtain⟨f',g',a,b,c⟩:=q.1;rw[e.1,U]at a;rw[e.2,G]at b;cases a;cases b;apply _k;exact absurd c n
  .unfold Z0 at *;lia
def Ps.put(h:Ps Z j k ps)(U:Z[j]?=some f)(G:Z[k]?=some g)(n:f.b=g.a):Ps Z j (k+1) (ps++[(j,k)]):=by
 refine⟨λp=>?_,by have:=h.len;simp;lia⟩;rw[du,h.all p,uc];constructor
 .rintro(q|q)
  .exact⟨q.1,by have:=q.2;unfold Z0 at *;lia⟩
  .subst q;exact⟨⟨f,g,U,G,n⟩,by unfold Z0;lia⟩
 .intro q
  by_cases e:p.1=j/\p.2=k
  .right;exact Prod.ext e.1 e.2
  .left;exact⟨q.1,by have:=q.2;unfold Z0 at *;lia⟩
def Ps.next(h:Ps Z j Z.length ps):Ps Z (j+1) 0 ps:=by
 refine⟨λp=>?_,by have:=h.len;have e:(j+1)*Z.length=j*Z.length+Z.length:=Nat.succ_mul _ _;exact a_ this (a_ (g_ e) x_)⟩;rw[h.all p];constructor
 .exact λq=>⟨q.1,by have:=q.2;unfold Z0 at *;lia⟩
 .intro q
  refine⟨q.1,?_⟩;refine hG λ_ _k=>?_
  obtain⟨f,g,a,b,c⟩:=q.1;have:=(ak.mp b).1;have:=q.2;apply _k;unfold Z0 at *;lia
def U8(f:F)(M:di):Bj (eD f) (.int 0) M=some (.int f.a):=rfl
def R8(f:F)(M:di):Bj (eD f) (.int 1) M=some (.int f.b):=rfl
def U9{i:Nat}(h:Z[i]?=some f):Bj (Ia Z) (.int i) M=some (eD f):=Iz q_ (by simp[h])
def Xe:qy .len [Ia Z] M=.ok (.int Z.length) M:=by simp[qy,Bk,Ia]
def Ga(x y:D)(i j:Nat)(Z:Env):(Tg.names [i,j]).put (.tup [x,y]) Z=some ((Z.set i (some x)).set j (some y)):=rfl
def ad2(hl:Z.length<=5)(U:M[q]?=some (.lst (ps.map pD)))(hj:Z[j]?=some f)(hk:Z[k]?=some g)(L:Ps Z j k ps) :
 ∃(M':di)(G:List (Nat×Nat)),Bh.den W [a0,sR q,sI j,eD f,sI k,eD g] M=.ok (.next,[a0,sR q,sI j,some (eD f),sI k,some (eD g)]) M' /\
  M'[q]?=some (.lst (G.map pD))/\Ps Z j (k+1) G/\Up q M M':=by
 have qq:=(ak.mp hj).1;have qk:=(ak.mp hk).1
 by_cases h:f.b=g.a
 .have Hz:(ps.map pD).length<100000:=by
   have:=L.len;have:j*Z.length<=5*5:=Nat.mul_le_mul (e_ (b_ qq hl)) hl
   rw[dg];lia
  have ap:=Dr (d:=.tup [.int j,.int k]) U Hz;refine⟨M.set q (.lst ((ps++[(j,k)]).map pD)),ps++[(j,k)],?_,rm U,L.put hj hk h,Up.set _ _ _⟩;simp[-eq_int,Bh,U8,R8,Be,h,Eh U,ap,pD]
 .refine⟨M,ps,?_,U,L.skip hj hk h,Up.refl q M⟩
  simp[-eq_int,Bh,U8,R8,Be,h]
def ad3(hm:1<=m)(hl:hs.length<=5) :
 ∃(M':di)(Z:List (Nat×Nat)),prog.call m 7 [Ia hs] M=.ok (.ref M.length) M'/\M'[M.length]?=some (.lst (Z.map pD))/\Ps hs hs.length 0 Z/\Up M.length (M++[.lst []]) M':=by
 rw[call_of hm rfl];refine hG λ_ _k=>?_
 obtain⟨qv,M',e,b2,b3,U,G,Z,rfl,h1,h2,h3⟩:=Mt (W:=PW (m-1)) (t:=.names [2,3]) (b:=Dt) (it:=.v 0) (ds:=hs.map eD) (ρ:=[Ia hs,sR M.length,none,none,none,none]) (M:=M++[.lst []]) (M1:=M++[.lst []]) (by simp[Ia])
  (λj L M'=>∃(b2 b3 U G:Option D)(Z:List (Nat×Nat)),L=[some (Ia hs),sR M.length,b2,b3,U,G]/\M'[M.length]?=some (.lst (Z.map pD))/\Ps hs j 0 Z/\Up M.length (M++[.lst []]) M')
  ⟨none,none,none,none,[],rfl,by simp,⟨λp=>by simp[Z0],by simp⟩,Up.refl _ _⟩
  (λj x L M1 hj hI=>by
   refine hG λ_ _k=>?_
   obtain⟨b2,b3,U,G,Z,rfl,g1,g2,g3⟩:=hI;obtain⟨f,hf,rfl⟩:∃f,hs[j]?=some f/\eD f=x:=by simpa using hj
   obtain⟨q0,M2,e2,c4,c5,qq,rfl,k1,k2,k3⟩:=Mt (W:=PW (m-1)) (t:=.names [4,5]) (b:=Bh) (it:=.v 0) (ds:=hs.map eD) (ρ:=[Ia hs,sR M.length,sI j,eD f,U,G]) (M:=M1) (M1:=M1) (by simp[Ia])
    (λk L M'=>∃(U G:Option D)(Z:List (Nat×Nat)),L=[some (Ia hs),sR M.length,sI j,some (eD f),U,G]/\M'[M.length]?=some (.lst (Z.map pD))/\Ps hs j k Z/\Up M.length M1 M')
    ⟨U,G,Z,rfl,g1,g2,Up.refl _ _⟩
    (λk y L M2 hk hI=>by
     refine hG λ_ _k=>?_
     obtain⟨U,G,Z,rfl,k1,k2,k3⟩:=hI;obtain⟨g,hg,rfl⟩:∃g,hs[k]?=some g/\eD g=y:=by simpa using hk
     obtain⟨M3,qk,e3,p3,t3,u3⟩:=ad2 (W:=PW (m-1)) (M:=M2) (a0:=some (Ia hs)) hl k1 hf hg k2;apply _k;exact⟨_,.next,_,M3,Ga _ _ _ _ _,e3,.inl rfl,sI k,some (eD g),qk,rfl,p3,t3,k3.trans u3⟩)
   rw[dg]at k2;apply _k;exact⟨_,.next,_,M2,Ga _ _ _ _ _,by simp[Dt,Im,e2],.inl rfl,sI j,some (eD f),c4,c5,qq,rfl,k1,k2.next,g3.trans k3⟩)
 rw[dg]at h2;apply _k;refine⟨M',Z,?_,h1,h2,h3⟩;simp[Fn.run,La,K9,MW.new,Ip,e]
def bothW(G:List F)(Z:List (List Kx×D))(x y:Int):Option D:=if x=-1 then some (.int y)else if y=-1 then some (.int x)else Bp Z [.inl x,.inl y]
def abp(U:1<=m)(L:M[r]?=some (.dT kvs))(h:bothW hs kvs x y=some v):prog.call m 6 [.ref r,.int x,.int y] M=.ok v M:=by
 rw[call_of U rfl];unfold bothW at h
 by_cases Z:x=-1
 .rw[bz Z]at h;cases h
  simp[Fn.run,Il,Ik,Z]
 .rw[bc Z]at h
  by_cases G:y=-1
  .rw[bz G]at h;cases h
   simp[Fn.run,Il,Ik,Z,G]
  .rw[bc G]at h
   simp[Fn.run,Il,Ik,Z,G,Zo L (Zq x y),h]
def ali(Z:List F)(c:F):Int:=if c∈Z then(pos c Z:Int)else -1
def Oa(Z:List F)(f g:F):ent Z f g=ali Z (f.comp g):=rfl
def ai1(Z:hs.Nodup){i:Nat}(h:hs[i]?=some f):ali hs f=i:=by have m:f∈hs:=az h;rw[ali,bz m,ag3 Z h]
def T6:∀k:List Kx,Rc (aoa k)=some k:=by
 intro k;show Wm (k.map an9)=some k
 induction k with
 |nil=>rfl|cons a l Z=>cases a<;>simp[Wm,an9,agq,Z]
theorem ad4:∀Z:List (List Kx×D),Dp (Z.map λp=>aoa p.1)=some (Z.map (·.1))
 |[]=>rfl|p::l=>by simp[Dp,T6,ad4 l]
theorem ad5:∀Z:List (Nat×Nat),Dp (Z.map pD)=some (Z.map λp=>ky p.1 p.2)
 |[]=>rfl|p::l=>by simp[Dp,pD,ad5 l,ky]
def ape{Z:List (List Kx×D)}(h:Bp Z q=some v):∃p∈Z,p.1=q:=by
 unfold Bp at h;cases e:Z.find? (λp=>decide (p.1=q))with
 |none=>rw[e]at h;cases h|some p=>exact⟨p,List.mem_of_find?_eq_some e,by simpa using List.find?_some e⟩
section
variable{sz:Nat->Nat}{K:Nat}{hs:List F}{kvs:List (List Kx×D)}(P:Cu sz K hs kvs)
include P
theorem Cu.look(Z:hs[j]?=some f)(G:hs[k]?=some g)(h:f.b=g.a):Bp kvs (ky j k)=some (.int (ent hs f g)):=
 P.tb.look j k f g Z G h (.inl (ak.mp Z).1)
theorem Cu.no(h:¬Meet hs j k):Bp kvs (ky j k)=none:=by apply ale;intro p Z e;obtain⟨G,U,f,g,rfl,a,b,c,_⟩:=P.tb.keys p Z;obtain⟨rfl,rfl⟩:=abl e;exact h ⟨f,g,a,b,c⟩
theorem Cu.kl:kvs.length<=25:=by
 have:=P.tb.len;have:hs.length*hs.length<=5*5:=Nat.mul_le_mul P.len P.len
 lia
theorem Cu.plain:Dq (kvs.map (·.1))=true:=by have:=P.kl;simp only[Dq,dg,au,cu];refine⟨a_ this (by decide),?_⟩;rw[ik];intro k G;obtain⟨p,Z,rfl⟩:=bf.mp G;obtain⟨j,k,f,g,rfl,_⟩:=P.tb.keys p Z;simp[ky]
theorem Cu.sm:agv kvs=true:=by
 unfold agv;rw[ik];intro p Z;obtain⟨j,k,f,g,rfl,a,b,_⟩:=P.tb.keys p Z;have:=(ak.mp a).1;have:=(ak.mp b).1;have:=P.len;simp[ky]
 lia
theorem Cu.same(h:Ps hs hs.length 0 ps):Ih (kvs.map (·.1)) (ps.map λp=>ky p.1 p.2)=true:=by
 unfold Ih;rw[au,ik,ik];constructor
 .intro x L
  obtain⟨p,Z,rfl⟩:=bf.mp L;obtain⟨j,k,f,g,rfl,a,b,c,d⟩:=P.tb.keys p Z;rw[zr];exact⟨ky j k,bf.mpr ⟨(j,k),(h.all (j,k)).mpr ⟨⟨f,g,a,b,c⟩,d⟩,rfl⟩,by simp⟩
 .intro y G
  obtain⟨p,Z,rfl⟩:=bf.mp G;obtain⟨⟨f,g,a,b,c⟩,d⟩:=(h.all p).mp Z;obtain⟨q,U,e⟩:=ape (P.look a b c);rw[zr];exact⟨q.1,bf.mpr ⟨q,U,rfl⟩,by simp[e]⟩
theorem Cu.Fe(h:c∈hs\/c.Qo):(ali hs c=-1/\c.Qo)\/∃i:Nat,hs[i]?=some c/\ali hs c=i:=by
 by_cases m:c∈hs
 .exact .inr ⟨pos c hs,abf c m,bz m⟩
 .exact .inl ⟨bc m,h.resolve_left m⟩
theorem Cu.apf{j k l:Nat}(hj:hs[j]?=some f)(hk:hs[k]?=some g)(hl:hs[l]?=some h)(U:f.b=g.a)(e2:g.b=h.a) :
 ∃v:Int,bothW hs kvs (ent hs f g) l=some (.int v)/\bothW hs kvs j (ent hs g h)=some (.int v):=by
 have mf:=az hj;have mg:=az hk;have mh:=az hl;have of:=P.inv.good f mf;have og:=P.inv.good g mg;have oh:=P.inv.good h mh;have as:=ag4 (h:=h) of og U;rw[Oa,Oa];have nj:¬((j:Int)=-1):=by lia
 have nl:¬((l:Int)=-1):=by lia
 rcases P.Fe (P.cl f mf g mg U)with⟨x1,i1⟩|⟨u,hu,x1⟩
 .have c1:=abg (of.comp og U) i1
  have ha:f.a=g.b:=i1.1;have G:(f.comp g).comp h=h:=by rw[c1];show(idF sz f.a).comp h=h;rw[ha,e2];exact id_comp oh
  rcases P.Fe (P.cl g mg h mh e2)with⟨L,i2⟩|⟨w,hw,L⟩
  .have c2:=abg (og.comp oh e2) i2
   have Z:f.comp (g.comp h)=f:=by rw[c2];show f.comp (idF sz g.a)=f;rw[<-U];exact comp_id of
   have fh:f=h:=by rw[<-Z,<-as,G]
   have jl:j=l:=by rw[<-ag3 P.inv.nd hj,<-ag3 P.inv.nd hl,fh]
   refine⟨l,by simp[bothW,x1],?_⟩;rw[L,bothW,bc nj,bz rfl,jl]
  .have nw:¬((w:Int)=-1):=by lia
   refine⟨l,by simp[bothW,x1],?_⟩;rw[L,bothW,bc nj,bc nw];have:=P.look hj hw (show f.b=(g.comp h).a from U);rw[Oa,<-as,G,ai1 P.inv.nd hl]at this;exact this
 .have nu:¬((u:Int)=-1):=by lia
  have lu:=P.look hu hl (show(f.comp g).b=h.a from e2);rcases P.Fe (P.cl g mg h mh e2)with⟨L,i2⟩|⟨w,hw,L⟩
  .have c2:=abg (og.comp oh e2) i2
   have Z:f.comp (g.comp h)=f:=by rw[c2];show f.comp (idF sz g.a)=f;rw[<-U];exact comp_id of
   refine⟨j,?_,?_⟩
   .rw[x1,bothW,bc nu,bc nl]
    rw[Oa,as,Z,ai1 P.inv.nd hj]at lu;exact lu
   .rw[L,bothW,bc nj,bz rfl]
  .have nw:¬((w:Int)=-1):=by lia
   refine⟨ali hs ((f.comp g).comp h),?_,?_⟩
   .rw[x1,bothW,bc nu,bc nl];exact lu
   .rw[L,bothW,bc nj,bc nw]
    have:=P.look hj hw (show f.b=(g.comp h).a from U);rw[Oa,<-as]at this;exact this
end
def avm(hm:1<=m)(P:Cu sz K Z kvs):prog.call m 9 [.int K,Ia Z] M=.ok .non M:=by
 rw[call_of hm rfl];obtain⟨qq,M',e,⟨b2,rfl⟩,rfl⟩:=adi (W:=PW (m-1)) (t:=.name 2) (b:=Em) (it:=.v 1) (ds:=Z.map eD) (ρ:=[sI K,Ia Z,none]) (M:=M) (M1:=M) (by simp[Ia])
  (λj L M'=>(∃b2:Option D,L=[sI K,some (Ia Z),b2])/\M'=M) ⟨⟨none,rfl⟩,rfl⟩
  (λj x L M1 hj hI=>by
   obtain⟨⟨b2,rfl⟩,rfl⟩:=hI;obtain⟨f,hf,rfl⟩:∃f,Z[j]?=some f/\eD f=x:=by simpa using hj
   have mf:=az hf;have h1:=P.Y5 f mf;have h2:=P.abo f mf;refine⟨_,.next,_,M1,rfl,?_,.inl rfl,⟨some (eD f),rfl⟩,rfl⟩;have G:(f.a:Int)<K:=m_ h1
   have U:(f.b:Int)<K:=m_ h2
   have z1:(0:Int)<=(f.a:Int):=q_
   have z2:(0:Int)<=(f.b:Int):=q_
   simp[Em,U8,R8,h1,h2,G,U,z1,z2])
 have k1:(1:Int)<=K:=by have:=P.k1;exact n_ this
 have k3:(K:Int)<=3:=by have:=P.k3;exact n_ this
 have l5:¬(5:Int)<(Z.length:Int):=by have:=P.len;lia
 simp[Fn.run,M7,Mz,k1,k3,Xe,l5,Jr,e]
def a2b{j k:Nat}(hm:1<=m)(P:Cu sz K Z kvs)(hj:Z[j]?=some f)(hk:Z[k]?=some g)(h:f.b=g.a):prog.call m 8 [Ia Z,.int (ent Z f g),.int f.a,.int g.b] M=.ok (.bl true) M:=by
 rw[call_of hm rfl,Oa];have mf:=az hj;have mg:=az hk;rcases P.Fe (P.cl f mf g mg h)with⟨U,i1⟩|⟨u,hu,U⟩
 .have ha:f.a=g.b:=i1.1
  simp[Fn.run,El,Ek,U,ha]
 .have G:=(ak.mp hu).1
  have nu:¬((u:Int)=-1):=by lia
  have z:(0:Int)<=(u:Int):=q_
  have L:(u:Int)<(Z.length:Int):=m_ G
  have e:Bq M (eD (f.comp g)) (.tup [.int f.a,.int g.b])=some true:=by show Uw (Mi M 5) [.int f.a,.int g.b] [.int f.a,.int g.b]=some true;rw[Hj (Ry M 4 _ _) (Hj (Ry M 4 _ _) (show Uw (Mi M 5) [] []=some true from rfl))];simp
  simp[Fn.run,El,Ek,U,nu,z,G,L,Xe,U9 hu,e]
def avn(hm:2<=m)(P:Cu sz K Z kvs)(hr:M[r]?=some (.dT kvs)):∃G,prog.call m 10 [Ia Z,.ref r] M=.ok .non G/\w6 M G/\G.length=M.length+1:=by
 rw[call_of (a_ (by decide) hm) rfl];obtain⟨M1,L,e1,p1,t1,u1⟩:=ad3 (M:=M) (m:=m-1) (hs:=Z) (r_ hm) P.len;have k1:w6 M M1:=λa o h=>by rw[u1.oth a (by have:=ye h;exact h_ this)];exact o5 h
 have r1:=k1 r _ hr;have qk:(keysOf M1 (.ref r)).bind Dp=some (kvs.map (·.1)):=by simp only[keysOf,r1,mq,ad4]
 have qq:(keysOf M1 (.ref M.length)).bind Dp=some (L.map λp=>ky p.1 p.2):=by simp only[keysOf,p1,gn,mq,ad5]
 have Hz:Dq (L.map λp=>ky p.1 p.2)=true:=by
  have:=t1.len;have:Z.length*Z.length<=5*5:=Nat.mul_le_mul P.len P.len
  simp only[Dq,dg,au,cu];refine⟨by lia,?_⟩;rw[ik];intro k hk;obtain⟨p,hp,rfl⟩:=bf.mp hk;simp[ky]
 have qv:(Ex.Wl (.v 1) (.v 2)).den (PW (m-1)) [some (Ia Z),sR r,sR M.length,none,none] M1=.ok (.bl false) M1:=by rw[Zk];simp only[aid,List.getElem?_cons_succ,List.getElem?_cons_zero,Res.z7,qk,P.plain,qq,Hz,P.same t1,jg,jc]
 obtain⟨q0,G,e,⟨b3,b4,rfl⟩,rfl⟩:=Rk (W:=PW (m-1)) (t:=.names [3,4]) (b:=Gh) (it:=.v 2) (d:=.ref M.length) (ds:=L.map pD) (ρ:=[Ia Z,sR r,sR M.length,none,none]) (M:=M1) (M1:=M1) (by simp) (q9 p1)
  (λj U G=>(∃b3 b4:Option D,U=[some (Ia Z),sR r,sR M.length,b3,b4])/\G=M1) ⟨⟨none,none,rfl⟩,rfl⟩ (λi U M h=>by rw[h.2];exact q9 p1)
  (λi x U M2 hx hI=>by
   obtain⟨⟨b3,b4,rfl⟩,rfl⟩:=hI;obtain⟨p,hp,rfl⟩:∃p,L[i]?=some p/\pD p=x:=by simpa using hx
   obtain⟨⟨f,g,a,b,c⟩,d⟩:=(t1.all p).mp (az hp);refine⟨_,.next,_,M2,Ga _ _ _ _ _,?_,.inl rfl,⟨some (.int p.1),sI p.2,rfl⟩,rfl⟩;have lk:=Zo r1 (Zq p.1 p.2);rw[show([.inl (p.1:Int),.inl (p.2:Int)]:List Kx)=ky p.1 p.2 from rfl,P.look a b c]at lk;simp[Gh,lk,U9 a,U9 b,U8,R8,a2b (show 1<=m-1 by exact r_ hm) P a b c])
 refine⟨G,?_,k1,by rw[u1.len];simp⟩;simp[Fn.run,O9,O8,e1,qv,Lb,e]
def avo(hm:2<=m)(P:Cu sz K G kvs)(hr:M[r]?=some (.dT kvs)):∃U,prog.call m 11 [Ia G,.ref r] M=.ok .non U/\w6 M U/\U.length=M.length+1:=by
 rw[call_of (a_ (by decide) hm) rfl];obtain⟨M1,ps,e1,p1,t1,u1⟩:=ad3 (M:=M) (m:=m-1) (hs:=G) (r_ hm) P.len;have k1:w6 M M1:=λa o h=>by rw[u1.oth a (by have:=ye h;exact h_ this)];exact o5 h
 have r1:=k1 r _ hr;have hl:=P.len;obtain⟨q2,U,e,⟨b3,b4,b5,b6,L,rfl⟩,rfl⟩:=Rk (W:=PW (m-1)) (t:=.names [3,4]) (b:=Eo) (it:=.v 2) (d:=.ref M.length) (ds:=ps.map pD) (ρ:=[Ia G,sR r,sR M.length,none,none,none,none,none]) (M:=M1) (M1:=M1) (by simp) (q9 p1)
  (λj ρ U=>(∃b3 b4 b5 b6 L:Option D,ρ=[some (Ia G),sR r,sR M.length,b3,b4,b5,b6,L])/\U=M1) ⟨⟨none,none,none,none,none,rfl⟩,rfl⟩ (λi ρ M h=>by rw[h.2];exact q9 p1)
  (λi x ρ M2 hx hI=>by
   obtain⟨⟨b3,b4,b5,b6,L,rfl⟩,rfl⟩:=hI;obtain⟨p,hp,rfl⟩:∃p,ps[i]?=some p/\pD p=x:=by simpa using hx
   obtain⟨⟨f,g,a,b,c⟩,d⟩:=(t1.all p).mp (az hp);obtain⟨q1,M3,e3,⟨c5,c6,c7,rfl⟩,rfl⟩:=Dl (W:=PW (m-1)) (t:=.name 5) (b:=Cq) (it:=.blt .len (.o (.v 0))) (n:=G.length) (ρ:=[Ia G,sR r,sR M.length,sI p.1,sI p.2,b5,b6,L]) (M:=M2) (M1:=M2) (by simp[Xe]) (a_ hl (by decide))
    (λj ρ U=>(∃b5 b6 L:Option D,ρ=[some (Ia G),sR r,sR M.length,sI p.1,sI p.2,b5,b6,L])/\U=M2) ⟨⟨b5,b6,L,rfl⟩,rfl⟩
    (λl ρ M4 q0 hI=>by
     obtain⟨⟨b5,b6,L,rfl⟩,rfl⟩:=hI;have qq:G[l]?=some G[l]:=by simp[q0]
     have Z:=azj r1 (Zq p.2 l);rw[show([.inl (p.2:Int),.inl (l:Int)]:List Kx)=ky p.2 l from rfl]at Z
     by_cases q:g.b=G[l].a
     .rw[P.look b qq q]at Z
      obtain⟨v,v1,v2⟩:=P.apf a b qq c q;have qk:=Zo r1 (Zq p.1 p.2);rw[show([.inl (p.1:Int),.inl (p.2:Int)]:List Kx)=ky p.1 p.2 from rfl,P.look a b c]at qk;have qv:=Zo r1 (Zq p.2 l);rw[show([.inl (p.2:Int),.inl (l:Int)]:List Kx)=ky p.2 l from rfl,P.look b qq q]at qv;refine⟨_,.next,_,M4,rfl,?_,.inl rfl,⟨some (.int l),sI v,sI v,rfl⟩,rfl⟩;simp[Cq,Z,qk,qv,abp (show 1<=m-1 by exact r_ hm) r1 v1,abp (show 1<=m-1 by exact r_ hm) r1 v2]
     .rw[P.no (λ⟨g',h',x,y,z⟩=>by rw[b]at x;rw[qq]at y;cases x;cases y;exact q z)]at Z
      refine⟨_,.cont,_,M4,rfl,?_,.inr rfl,⟨some (.int l),b6,L,rfl⟩,rfl⟩;simp[Cq,Z])
   refine⟨_,.next,_,M3,Ga _ _ _ _ _,?_,.inl rfl,⟨some (.int p.1),sI p.2,c5,c6,c7,rfl⟩,rfl⟩;simp[Eo,Js,e3])
 refine⟨U,?_,k1,by rw[u1.len];simp⟩;simp[Fn.run,Nf,Nb,e1,Jt,e]
def Made(n r K:Nat)(G:List F)(Z:List (List Kx×D))(M:di):Prop:=M[n]?=some (.ins 3 [(2,.int K),(1,Ia G),(0,.ref r)])/\M[r]?=some (.dT Z)
def ai2(hm:3<=m)(P:Cu sz K G kvs)(U:M[r]?=some (.dT kvs))(hn:M[n]?=some (.ins 3 [])) :
 ∃L r',prog.call m 0 [.ref n,.int K,Ia G,.ref r] M=.ok .non L/\Made n r' K G kvs L/\M.length<=r'/\r'<L.length/\(∀(a:Nat)(o:MO),a≠n->M[a]?=some o->L[a]?=some o):=by
 rw[call_of (a_ (by decide) hm) rfl];have d1:=avm (M:=M) (m:=m-1) (r_ (a_ (by decide) hm)) P;obtain⟨M1,e1,k1,l1⟩:=avn (M:=M) (m:=m-1) (r_ hm) P U;obtain⟨Z,e2,k2,l2⟩:=avo (M:=M1) (m:=m-1) (r_ hm) P (k1 r _ U);have k:=k1.trans k2;have n2:=k n _ hn;have r2:=k r _ U;have qq:r≠n:=λe=>by rw[e,hn]at U;cases U
 have s1:Rg (.ref n) 2 (.int K) Z=some (Z.set n (.ins 3 [(2,.int K)])):=by simp[Rg,n2,Ux]
 have n3:=rm (o:=.ins 3 [(2,.int K)]) n2;have s2:Rg (.ref n) 1 (Ia G) (Z.set n (.ins 3 [(2,.int K)]))=some (Z.set n (.ins 3 [(2,.int K),(1,Ia G)])):=by simp[Rg,n3,Ux]
 have n4:=rm (o:=.ins 3 [(2,.int K),(1,Ia G)]) n2;have r4:(Z.set n (.ins 3 [(2,.int K),(1,Ia G)]))[r]?=some (.dT kvs):=by rw[yf (kj qq)];exact r2
 have dc:qy .dict [.ref r] (Z.set n (.ins 3 [(2,.int K),(1,Ia G)]))=.ok (.ref Z.length) (Z.set n (.ins 3 [(2,.int K),(1,Ia G)])++[.dT kvs]):=by simp[qy,r4,P.sm,MW.new]
 have n5:(Z.set n (.ins 3 [(2,.int K),(1,Ia G)])++[.dT kvs])[n]?=some (.ins 3 [(2,.int K),(1,Ia G)]):=o5 n4;have s3:Rg (.ref n) 0 (.ref Z.length) (Z.set n (.ins 3 [(2,.int K),(1,Ia G)])++[.dT kvs])=some ((List.set Z n (MO.ins 3 [(2,.int K),(1,Ia G)])++[MO.dT kvs]).set n (MO.ins 3 [(2,.int K),(1,Ia G),(0,.ref Z.length)])):=by simp[Rg,n5,Ux]
 have qk:=ye n2;refine⟨_,Z.length,?_,⟨rm (o:=.ins 3 [(2,.int K),(1,Ia G),(0,.ref Z.length)]) n5,?_⟩,by lia,by simp,λa o na h=>?_⟩
 .simp[Fn.run,Jl,Jk,d1,e1,e2,s1,s2,dc,s3]
 .rw[yf (h_ qk)]
  rw[o6 (by simp)];simp
 .rw[yf (kj na)]
  exact o5 (by rw[yf (kj na)];exact k a o h)
end K51
namespace So
open PySem PySem.W PyProof.Rows
def Ok(c:Nat->Nat->Bool)(n:Nat):KasT α->(α->Prop)->Prop
 |.ret a,Q=>Q a|.ask i j k,Q=>i<n/\j<n/\Ok c n (k (c i j)) Q
theorem Ok.bind{c:Nat->Nat->Bool}{n:Nat}{f:α->KasT β}{Q:β->Prop}:∀{t:KasT α},Ok c n t (λa=>Ok c n (f a) Q)->Ok c n (t.bind f) Q
 |.ret a,h=>h|.ask i j k,h=>⟨h.1,h.2.1,Ok.bind h.2.2⟩
theorem Ok.mono{c:Nat->Nat->Bool}{n:Nat}{Q Z:α->Prop}(h:∀a,Q a->Z a):∀{t:KasT α},Ok c n t Q->Ok c n t Z
 |.ret a,z=>h a z|.ask i j k,z=>⟨z.1,z.2.1,Ok.mono h z.2.2⟩
theorem Ok.wp{c:Nat->Nat->Bool}{n:Nat}{Z:Nat->Nat->(Bool->Shared->Prop)->Shared->Prop}{Q:α->Prop}{G:α->Shared->Prop}{s:Shared}(U:∀i j C,i<n->j<n->C (c i j) s->Z i j C s)(hG:∀a,Q a->G a s):∀{t:KasT α},Ok c n t Q->t.kasWp Z G s
 |.ret a,z=>hG a z|.ask i j k,z=>U i j _ z.1 z.2.1 (Ok.wp U hG z.2.2)
structure Ord(c:Nat->Nat->Bool)(n:Nat):Prop where
 tr:∀i j k,i<n->j<n->k<n->c i j=true->c j k=true->c i k=true
 to:∀i j,i<n->j<n->i≠j->c i j=false->c j i=true
def PN(n:Nat)(p:Array Nat):Prop:=p.toList.Perm (List.range n)
noncomputable def at'(p:Array Nat)(i:Nat):Nat:=p.getD i 0
theorem PN.size(h:PN n p):p.size=n:=by have:=h.length_eq;simpa using this
def Kr{p:Array Nat}(h:i<p.size):p[i]?=some (at' p i):=by simp[at',Array.getD,h]
def at_of{p q:Array Nat}(h:p[i]?=q[j]?):at' p i=at' q j:=by unfold at';rw[Array.getD_eq_getD_getElem?,Array.getD_eq_getD_getElem?,h]
def PN.lt(h:PN n p)(G:i<n):at' p i<n:=by
 have Z:i<p.size:=by rw[h.size];exact G
 have:at' p i∈p.toList:=by rw[Array.mem_toList_iff];exact Array.mem_of_getElem? (Kr Z)
 simpa using h.mem_iff.mp this
def PN.inj(h:PN n p)(hi:i<n)(G:j<n)(e:at' p i=at' p j):i=j:=by
 have L:p.toList.Nodup:=h.nodup_iff.mpr List.nodup_range;have Z:p.toList[i]?=some (at' p i):=by rw[ir];exact Kr (by rw[h.size];exact hi)
 have h2:p.toList[j]?=some (at' p i):=by rw[ir,e];exact Kr (by rw[h.size];exact G)
 obtain⟨l1,e1⟩:=ak.mp Z;obtain⟨l2,U⟩:=ak.mp h2;exact(yr L).mp (e1.trans U.symm)
def PN.perm(h:PN n p)(q:Array.Perm p' p):PN n p':=(Array.perm_iff_toList_perm.mp q).trans h
def Up(c:Nat->Nat->Bool)(p:Array Nat)(k:Nat):Prop:=∀i j,i<j->j<k->c (at' p i) (at' p j)=true
def Dn(c:Nat->Nat->Bool)(p:Array Nat)(k:Nat):Prop:=∀i j,i<j->j<k->c (at' p j) (at' p i)=true
section
variable{c:Nat->Nat->Bool}{n:Nat}{p:Array Nat}
def a2c:Up c p 1:=λi j Z G=>by lia
def Up.snoc(O:Ord c n)(P:PN n p)(h:Up c p m)(L:1<=m)(G:m<n)(e:c (at' p (m-1)) (at' p m)=true):Up c p (m+1):=λi j Z U=>by
 by_cases z:j=m
 .subst z
  by_cases w:i=j-1
  .subst w;exact e
  .exact O.tr _ _ _ (P.lt (by lia)) (P.lt (by lia)) (P.lt G) (h i (j-1) (by lia) (by lia)) e
 .exact h i j Z (by lia)
def Dn.snoc(O:Ord c n)(P:PN n p)(h:Dn c p m)(L:1<=m)(G:m<n)(e:c (at' p m) (at' p (m-1))=true):Dn c p (m+1):=λi j Z U=>by
 by_cases z:j=m
 .subst z
  by_cases w:i=j-1
  .subst w;exact e
  .exact O.tr _ _ _ (P.lt G) (P.lt (by lia)) (P.lt (by lia)) e (h i (j-1) (by lia) (by lia))
 .exact h i j Z (by lia)
def flip(O:Ord c n)(P:PN n p)(G:i<n)(Z:j<n)(U:i≠j)(e:c (at' p i) (at' p j)=false):c (at' p j) (at' p i)=true:=O.to _ _ (P.lt G) (P.lt Z) (λz=>U (P.inj G Z z)) e
theorem aha(O:Ord c n)(P:PN n p):∀(f m:Nat),1<=m->m+f<=n->Up c p m->Ok c n (kas_asc p f m) λr=>m<=r/\r<=m+f/\Up c p r/\(r<m+f->c (at' p r) (at' p (r-1))=true)
 |0,m,h1,hm,h=>⟨cg _,cg _,h,λz=>absurd z (qd _)⟩
 |f+1,m,h1,hm,h=>by
  refine⟨P.lt (show m<n by lia),P.lt (show m-1<n by lia),?_⟩;show Ok c n (if c (at' p m) (at' p (m-1))=true then _ else _) _;cases e:c (at' p m) (at' p (m-1))with
  |true=>rw[bz rfl];exact⟨cg _,by lia,h,λ_=>e⟩
  |false =>
   rw[bc (by simp)];refine(aha O P f (m+1) (by lia) (by lia) (h.snoc O P h1 (by lia) (flip O P (by lia) (by lia) (by lia) e))).mono λr z=>?_
   exact⟨by lia,by lia,z.2.2.1,λw=>z.2.2.2 (by lia)⟩
theorem ai3(O:Ord c n)(P:PN n p):∀(f m:Nat),1<=m->m+f<=n->Dn c p m->Ok c n (kas_desc f p m 0) λr=>r.1=p/\r.2.2=0/\m<=r.2.1/\r.2.1<=m+f/\Dn c p r.2.1
 |0,m,h1,hm,h=>⟨rfl,rfl,cg _,cg _,h⟩
 |f+1,m,h1,hm,h=>by
  refine⟨P.lt (show m<n by lia),P.lt (show m-1<n by lia),?_⟩;show Ok c n (if c (at' p m) (at' p (m-1))=true then _ else _) _;cases e:c (at' p m) (at' p (m-1))with
  |true =>
   rw[bz rfl,bc (by simp)];refine(ai3 O P f (m+1) (by lia) (by lia) (h.snoc O P h1 (by lia) e)).mono λr z=>?_
   exact⟨z.1,z.2.1,by lia,by lia,z.2.2.2.2⟩
  |false =>
   rw[bc (by simp)];refine⟨P.lt (show m-1<n by lia),P.lt (show m<n by lia),?_⟩;show Ok c n (if c (at' p (m-1)) (at' p m)=true then _ else _) _;rw[bz (flip O P (by lia) (by lia) (by lia) e)];exact⟨rfl,rfl,cg _,by lia,h⟩
def apg(P:PN n p)(Z:m<=n)(i:Nat):at' (kas_rev p 0 m) i=if i<m then at' p (m-1-i)else at' p i:=by
 have e:=getElem?_mirror_all (xs:=p) (i:=0) (j:=m) (by rw[P.size];exact Z) i;split
 .rename_i h
  refine at_of ?_;rw[kas_rev,e,bz ⟨iy _,h⟩,rz]
 .rename_i h
  refine at_of ?_;rw[kas_rev,e,bc (λz=>h z.2)]
def a2d(P:PN n p)(Z:m<=n)(h:Dn c p m):PN n (kas_rev p 0 m)/\Up c (kas_rev p 0 m) m:=by refine⟨P.perm (mirror_perm _ _ _ _),λi j U G=>?_⟩;rw[apg P Z,apg P Z,bz (by lia),bz G];exact h _ _ (by lia) (by lia)
def aph(O:Ord c n)(P:PN n p)(h2:2<=n):Ok c n (kas_count n p) λr=>PN n r.2/\Up c r.2 r.1/\1<=r.1/\r.1<=n:=by
 unfold kas_count;refine Ok.bind ((aha O P (n-1) 1 (cg _) (by lia) a2c).mono λr z=>?_);obtain⟨z1,Z,G,z4⟩:=z;have Z:r<=n:=by lia
 by_cases e:r=n
 .rw[bz (by simp[e])];exact⟨P,G,z1,Z⟩
 .rw[bc (by simp[e])]
  by_cases e1:r > 1
  .rw[bz e1]
   refine⟨P.lt (show 0<n by lia),P.lt (show r-1<n by lia),?_⟩;show Ok c n (if c (at' p 0) (at' p (r-1))=true then _ else _) _;rw[bz (G 0 (r-1) (by lia) (by lia))];exact⟨P,G,z1,Z⟩
  .rw[bc e1]
   have er:r=1:=by lia
   subst er;unfold kas_descPart;refine Ok.bind ((ai3 O P (n-(1+1)) (1+1) (by lia) (by lia) (λi j qq U=>?_)).mono λq w=>?_)
   .have hi:i=0:=by lia
    have U:j=1:=by lia
    subst hi U;exact z4 (by lia)
   .obtain⟨w1,w2,w3,w4,w5⟩:=w
    rw[w2,bc (by simp),w1];unfold kas_tail3;obtain⟨L,U'⟩:=a2d (m:=q.2.1) P (by lia) w5;exact Ok.bind ((aha O L (n-q.2.1) q.2.1 (by lia) (by lia) U').mono λr' y=>⟨L,y.2.2.1,by lia,by lia⟩)
theorem Xf(O:Ord c n)(P:PN n p)(Z:k<n):∀(f l r:Nat),r-l<=f->l<=r->r<=k->(∀x,x<l->c (at' p x) (at' p k)=true)->(∀x,r<=x->x<k->c (at' p k) (at' p x)=true)->Up c p k ->
 Ok c n (kas_place p k f l r) λq=>q<=k/\(∀x,x<q->c (at' p x) (at' p k)=true)/\∀x,q<=x->x<k->c (at' p k) (at' p x)=true
 |0,l,r,hf,h1,h2,a,b,u=>⟨by lia,a,λx U Z=>b x (by lia) Z⟩
 |f+1,l,r,hf,h1,h2,a,b,u=>by
  unfold kas_place
  by_cases e:l >= r
  .rw[bz e];exact⟨by lia,a,λx U Z=>b x (by lia) Z⟩
  .rw[bc e]
   have hm:(l+r)/2<r:=by lia
   have hl:l<=(l+r)/2:=by lia
   refine⟨P.lt Z,P.lt (show(l+r)/2<n by lia),?_⟩;show Ok c n (if c (at' p k) (at' p ((l+r)/2))=true then _ else _) _;cases e1:c (at' p k) (at' p ((l+r)/2))with
   |true =>
    rw[bz rfl];refine Xf O P Z f l ((l+r)/2) (by lia) hl (by lia) a (λx U G=>?_) u
    by_cases w:x=(l+r)/2
    .subst w;exact e1
    .exact O.tr _ _ _ (P.lt Z) (P.lt (by lia)) (P.lt (by lia)) e1 (u _ _ (by lia) G)
   |false =>
    rw[bc (by simp)];have L:=flip O P Z (show(l+r)/2<n by lia) (by lia) e1;refine Xf O P Z f ((l+r)/2+1) r (by lia) (by lia) h2 (λx U=>?_) b u
    by_cases w:x=(l+r)/2
    .subst w;exact L
    .exact O.tr _ _ _ (P.lt (by lia)) (P.lt (by lia)) (P.lt Z) (u x _ (by lia) (by lia)) L
def api(P:PN n p)(G:k<n)(U:l<=k)(i:Nat):at' (bubble p k (k-l)) i=if i=l then at' p k else if l<i/\i<=k then at' p (i-1)else at' p i:=by
 have e:=getElem?_bubble (xs:=p) (src:=k) (by rw[P.size];exact G) (k-l) (by lia) i;rw[show k-(k-l)=l by lia]at e;split
 .rename_i h;exact at_of (by rw[e,bz h])
 .rename_i h
  split
  .rename_i Z;exact at_of (by rw[e,bc h,bz Z])
  .rename_i Z;exact at_of (by rw[e,bc h,bc Z])
theorem apj(O:Ord c n):∀(f:Nat)(p:Array Nat)(k:Nat),PN n p->k+f=n->Up c p k->Ok c n (kas_bin f p k) λr=>PN n r/\Up c r n
 |0,p,k,P,e,u=>⟨P,by rw[<-e];exact u⟩
 |f+1,p,k,P,e,u=>by
  have Z:k<n:=by lia
  refine Ok.bind ((Xf O P Z k 0 k (by lia) (by lia) (cg _) (λx hx=>by lia) (λx h1 h2=>by lia) u).mono λl z=>?_);obtain⟨L,z2,z3⟩:=z;refine apj O f _ (k+1) (P.perm (bubble_perm _ _ _)) (by lia) λi j qq hj=>?_
  rw[api P Z L,api P Z L]
  by_cases G:i=l
  .rw[bz G,bc (by lia),bz (by lia)]
   exact z3 _ (by lia) (by lia)
  .rw[bc G]
   by_cases U:j=l
   .rw[bz U,bc (by lia)]
    exact z2 _ (by lia)
   .rw[bc U]
    by_cases a3:l<i
    .rw[bz (by lia),bz (by lia)]
     exact u _ _ (by lia) (by lia)
    .rw[bc (by lia)]
     by_cases a4:l<j
     .rw[bz (by lia)]
      exact u _ _ (by lia) (by lia)
     .rw[bc (by lia)]
      exact u _ _ (by lia) (by lia)
def avp(O:Ord c n)(L:2<=n):Ok c n (kas_sort n) λr=>PN n r/\Up c r n:=by
 unfold kas_sort;have U:PN n (List.toArray (List.range n)):=m9 _;refine Ok.bind ((aph O U L).mono λr z=>?_);obtain⟨G,Z,z3,z4⟩:=z
 by_cases e:r.1<n
 .rw[bz e]
  have:max r.1 1=r.1:=by lia
  rw[this];exact apj O _ _ _ G (by lia) Z
 .rw[bc e]
  have:r.1=n:=by lia
  exact⟨G,by rw[<-this];exact Z⟩
end
open PySem PySem.W PyProof.Rows PySem.Calls
section
variable{prog:Program}{w:World}{A:Around}{E:Y3}{s:Shared}
abbrev TI(prog:Program)(w:World)(h:Heap)(k:U1)(a:Addr):Prop:=IsTupleKey (intKind prog w) h k a
def ai4{x y:U1}{a b:Addr}{P:PySem.Fin->Shared->Prop}(hx:TI prog w s.heap x a)(hy:TI prog w s.heap y b)(h:P (.done (.ret (.bool (MW.ltT x y)))) s) :
 wpAny (model prog w) A (Builtin.«tuple.__lt__» ⟨[.ref a,.ref b],[]⟩) P E s:=by
 have q4:=hy.typeIs;obtain⟨oa,xs,na,q0,_,q2,q3⟩:=hx;obtain⟨ob,ys,nb,q5,_,Q4,q1⟩:=hy;show wpAny _ _ (isInstance (.ref b) (.type "tuple")>>=_) _ _ s;refine aa (iu q4 ym ?_);simp only[jc,bw,gm];refine aa (wy q0 q2 ?_);refine aa (wy q5 Q4 ?_);refine aa ?_;refine jf _
  (λqk r s'=>r.1=none/\s'=s/\∃x' y' Z U,qk=List.zip Z U/\ItemsAre (intKind prog w) x' Z/\ItemsAre (intKind prog w) y' U/\MW.ltT x' y'=MW.ltT x y/\decide (Z.length<U.length)=decide (xs.size<ys.size))
  _ ?_ ?_ _ _ ⟨rfl,rfl,x,y,xs.toList,ys.toList,rfl,q3,q1,rfl,by simp⟩
 .rintro⟨u,v⟩ qk r s' ⟨hr,rfl,x',y',Z,U,hz,Wv,qq,L,G⟩
  cases Wv with
  |nil=>simp at hz
  |@cons k1 u' x'' xs'' h1 a2e =>
   cases qq with
   |nil=>simp at hz
   |@cons k2 v' y'' ys'' h2 a2f =>
    simp only[Bc,List.cons.injEq,Prod.mk.injEq]at hz;obtain⟨⟨rfl,rfl⟩,rfl⟩:=hz;refine aa ((intKind prog w).eqBool (a:=k1) (b:=k2) h1 h2 ?_)
    by_cases hk:k1=k2
    .subst hk
     rw[Al rfl];simp only[jc,bw,gm];refine aj ⟨rfl,rfl,x'',y'',xs'',ys'',rfl,a2e,a2f,?_,by simpa using G⟩;rw[<-L];show _=MW.Fw MW.ltI (k1::x'') (k1::y'');simp only[MW.Fw,jg]
    .rw[vy hk]
     simp only[uz,jg];have hf:MW.ltT x y=decide (k1<k2):=by rw[<-L];show MW.Fw MW.ltI (k1::x'') (k2::y'')=_;simp only[MW.Fw,bc hk];rfl
     rw[hf]at h;obtain⟨t1,rfl⟩:=Value.isInt_shape h1;obtain⟨t2,rfl⟩:=Value.isInt_shape h2;refine aa (qx ?_);refine aa (iz (PyProof.Rows.lt_int (Q:=λv qv=>v=.bool (decide (k1<k2))/\qv=s') ⟨rfl,rfl⟩) (λv qv z=>?_) λ_ _ e=>e);obtain⟨rfl,rfl⟩:=z;exact aa (aj (aj (aj h)))
 .rintro⟨r1,r2⟩ s' ⟨hr,rfl,x',y',Z,U,hz,Wv,qq,L,G⟩
  simp only at hr;subst hr;refine aj ?_;have Qi:decide (xs.size<ys.size)=MW.ltT x y:=by
   rw[<-L,<-G];cases Wv with
   |nil =>
    cases qq with
    |nil=>simp[MW.Fw]|cons _ _=>simp[MW.Fw]
   |cons _ _ =>
    cases qq with
    |nil=>simp[MW.Fw]|cons _ _=>simp at hz
  show P (.done (.ret (.bool (decide (xs.size<ys.size))))) s';rw[Qi];exact h
def a9g{x y:U1}{a b:Addr}{Q:Y3}(U:A.units<cLine)(Z:TI prog w s.heap x a)(G:TI prog w s.heap y b)(h:Q (.bool (MW.ltT x y)) s) :
 wpAny (model prog w) A (richCompare .Lt (.ref a) (.ref b)) Q E s:=
 wpAny_richCompare_same_room (op:=.Lt) Z.typeIs G.typeIs F.slot_tuple_lt
  (gh F.slot_tuple_lt Z.typeIs F.entry_tuple_lt (ai4 Z G ⟨_,rfl,(λe=>nomatch e),h⟩) (F.args_tuple_lt_2 _ _)) U
def apk{x y:U1}{a b:Addr}{Q:Bool->Shared->Prop}(U:A.units<cLine)(G:TI prog w s.heap x a)(Z:TI prog w s.heap y b)(h:Q (MW.ltT x y) s) :
 wpAny (model prog w) A (oneLt' false (.ref a) (.ref b)) Q E s:=
 kat_one _ _ (a9g U G Z (by exact h))
def a2g{x y:U1}{a b:Addr}{Q:Bool->Shared->Prop}(U:A.units<cLine)(Z:TI prog w s.heap x a)(G:TI prog w s.heap y b)(h:Q (MW.ltT x y) s) :
 wpAny (model prog w) A (oneLt' true (.ref a) (.ref b)) Q E s:=by
 rw[oneLt'_eq];simp only[jg];refine aa (wpAny_cRoomFor U ?_);refine aa (wpAny_callSpecialIfBound?_slot Z.typeIs F.slot_tuple_lt (gh F.slot_tuple_lt Z.typeIs F.entry_tuple_lt (ai4 Z G ⟨_,rfl,?_⟩) (F.args_tuple_lt_2 _ _)));exact jn h
end
section
variable(prog:Program)(w:World)
inductive Yu(h:Heap):List (List Int)->List Value->Prop
 |nil:Yu h [] []
 |cons {k:U1} {a:Addr} {ks:List (List Int)} {vs:Zl}:TI prog w h k a->Yu h ks vs->Yu h (k::ks) (.ref a::vs)
def TN(h:Heap)(G:List (List Int))(a:Addr):Prop:=∃o Z n,h.get? a=some o/\o.cls=.type "tuple"/\o.data=.seq Z n/\Yu prog w h G Z.toList
end
section
variable{prog:Program}{w:World}{h h':Heap}
theorem Yu.inj{x y:List (List Int)}{Z:Zl}(L:Yu prog w h x Z)(G:Yu prog w h y Z):x=y:=by
 induction L generalizing y with
 |nil=>cases G;rfl
 |cons U _ ih =>
  cases G with
  |cons h2 t2=>rw[U.inj h2,ih t2]
def TI.keep{k:U1}(x:TI prog w h k a)(G:∀o,h.get? a=some o->h'.get? a=some o):TI prog w h' k a:=by obtain⟨o,Z,n,U,r⟩:=x;exact⟨o,Z,n,G o U,r⟩
theorem Yu.keep{x:List (List Int)}{vs:Zl}(U:Yu prog w h x vs)(Z:∀a o,Value.ref a∈vs->h.get? a=some o->h'.get? a=some o):Yu prog w h' x vs:=by
 induction U with
 |nil=>exact .nil|cons G _ L=>exact .cons (G.keep λo=>Z _ o dh) (L λa o m=>Z a o (bx _ m))
def Yu.at{x:List (List Int)}{Z:Zl}(U:Yu prog w h x Z)(m:Value.ref a∈Z):∃k,TI prog w h k a:=by
 induction U with
 |nil=>cases m
 |cons G _ L =>
  rcases cj.mp m with e|m
  .cases e;exact⟨_,G⟩
  .exact L m
def TN.typeIs{s:Shared}{Z:List (List Int)}(x:TN prog w s.heap Z a):s.TypeIs (.ref a) "tuple":= let ⟨o,_,_,ho,hc,_⟩:=x;⟨o,ho,hc⟩
theorem TN.inj{x y:List (List Int)}(hx:TN prog w h x a)(L:TN prog w h y a):x=y:=by
 obtain⟨o,G,n,ho,_,hd,hi⟩:=hx;obtain⟨o',Z,n',Tf,_,U,Q7⟩:=L;obtain rfl:o=o':=ie (ho.symm.trans Tf);rw[hd]at U;injection U with h1 _
 subst h1;exact hi.inj Q7
def TI.not{k:U1}{o:Obj}{es G}(x:TI prog w h k a)(ho:h.get? d=some o)(hd:o.data=.dict es G):a≠d:=by rintro rfl;obtain⟨L,_,_,U,_,Z,_⟩:=x;obtain rfl:L=o:=ie (U.symm.trans ho);rw[hd]at Z;exact nomatch Z
def TN.keeps{L:List (List Int)}{o:Obj}{es ep}(x:TN prog w h L a)(ho:h.get? d=some o)(hd:o.data=.dict es ep)(U:Heap.SameBut d h h'):TN prog w h' L a:=by
 obtain⟨o',Z,n,Tf,hc,G,hi⟩:=x;have Q3:a≠d:=by rintro rfl;obtain rfl:o'=o:=ie (Tf.symm.trans ho);rw[hd]at G;exact nomatch G
 exact⟨o',Z,n,(U.2 a Q3).trans Tf,hc,G,hi.keep λb u m e=>by
  obtain⟨k,t⟩:=hi.at m;exact(U.2 b (t.not ho hd)).trans e⟩
noncomputable def hI(k:U1):Int:=reduceHash (Builtin.Tuple.tupleHashOf (k.map hashInt))
def hN(Z:List (List Int)):Int:=reduceHash (Builtin.Tuple.tupleHashOf (Z.map hI))
noncomputable def drN(Z:List (List Int)):Nat:=(Z.map λk=>k.length+1).sum+1
variable{A:Around}{E:Y3}{s:Shared}
def a2h{ks:List (List Int)}{Q:Int->Shared->Prop}(hu:A.units+1<cLine)(hk:TN prog w s.heap ks a)(h:Q (hN ks) { s with toks:=s.toks+drN ks }):wpAny (model prog w) A (pyHash (.ref a)) Q E s:=by
 have L:=hk.typeIs;obtain⟨o,qq,n,ho,_,hd,hi⟩:=hk;unfold pyHash
 first|unfold pyHashByItsType|skip
 first|refine aa (wpAny_cRoomFor_or (.inr (Ai hu)) ?_)|skip
 refine aa (o4 L xx.lookup ?_);show wpAny _ _ (if(some (Value.builtin "tuple.__hash__")==some Value.none)=true then _ else _) Q E s;rw[bc (by rw[beq_builtin_none];exact ig)];refine aa (o4 L xx.lookup ?_);show wpAny _ _ (callSpecialIfBoundUnlessNone? (.ref a) "__hash__" _>>=_) Q E s;refine aa (wpAny_callSpecialIfBoundUnlessNone?_slot L xx (gh xx L F.entry_tuple_hash ?_ (F.args_tuple_hash_1 _)));show wpAny _ _ (Builtin.Tuple.tupleItemsOf (.ref a)>>=_) _ _ s;refine aa (wy ho hd ?_);refine aa ?_;rw[<-yw];refine jf _
  (λG (b:Array Int) s'=>∃done Z,ks=done++Z/\Yu prog w s.heap Z G/\b.toList=done.map hI/\s'={ s with toks:=s.toks+(done.map λk=>k.length+1).sum })
  _ ?_ ?_ _ _ ⟨[],ks,rfl,hi,rfl,rfl⟩
 .rintro x G b s' ⟨done,Z,rfl,hl,U,rfl⟩
  cases hl with
  |@cons k a' ks' _ h1 hl' =>
   refine aa (wpAny_pyHash_tuple (knd:=intKind prog w) (ks:=k) (s:={ s with toks:=s.toks+(done.map λk=>k.length+1).sum }) ?_ h1 ?_)
   .exact hu
   .first
     |exact aj ⟨done++[k],ks',by simp,hl',by simp[U,hI,tupleKeyHash];rfl,by simp[Ax]⟩
     |exact aa (aj (aj ⟨done++[k],ks',by simp,hl',by simp[U];rfl,by simp[Ax]⟩))
 .rintro b s' ⟨done,Z,rfl,hl,U,rfl⟩
  cases hl;rw[xr]at h;show wpAny _ _ (retInt (Builtin.Tuple.tupleHashOf b.toList)) _ _ _;rw[U];refine wpAny_ret_mkInt ?_;show wpAny _ _ (if(decide (-(2:Int)^63<=Builtin.Tuple.tupleHashOf (done.map hI))&&decide (Builtin.Tuple.tupleHashOf (done.map hI)<2^63))=true then _ else _) Q E _;unfold hN reduceHash drN at h
  by_cases hr:(decide (-(2:Int)^63<=Builtin.Tuple.tupleHashOf (done.map hI))&&decide (Builtin.Tuple.tupleHashOf (done.map hI)<2^63))=true
  .rw[bz hr]
   rw[bz hr]at h;exact aj (by simpa[Ax]using h)
  .rw[bc hr]
   rw[bc hr]at h;exact aa (qx (aj (by simpa[Ax]using h)))
def apl{x y:List (List Int)}{a b:Addr}{P:PySem.Fin->Shared->Prop}(hu:A.units<cLine)(hx:TN prog w s.heap x a)(hy:TN prog w s.heap y b)(h:P (.done (.ret (.bool (decide (x=y))))) s) :
 wpAny (model prog w) A (Builtin.«tuple.__eq__» ⟨[.ref a,.ref b],[]⟩) P E s:=by
 have q4:=hy.typeIs;obtain⟨oa,xs,na,q0,_,q2,q3⟩:=hx;obtain⟨ob,ys,nb,q5,_,Q4,q1⟩:=hy;show wpAny _ _ (isInstance (.ref b) (.type "tuple")>>=_) _ _ s;refine aa (iu q4 ym ?_);simp only[jc,bw,gm];refine aa (wy q0 q2 ?_);refine aa (wy q5 Q4 ?_);refine aa ?_;refine jf _
  (λqk r s'=>r.1=none/\s'=s/\∃x' y' Z U,qk=List.zip Z U/\Yu prog w s.heap x' Z/\Yu prog w s.heap y' U/\decide (x'=y')=decide (x=y)/\(Z.length==U.length)=(xs.size==ys.size))
  _ ?_ ?_ _ _ ⟨rfl,rfl,x,y,xs.toList,ys.toList,rfl,q3,q1,rfl,by simp⟩
 .rintro⟨u,v⟩ qk r s' ⟨hr,rfl,x',y',Z,U,hz,Wv,qq,L,G⟩
  cases Wv with
  |nil=>simp at hz
  |@cons k1 u' x'' xs'' h1 a2e =>
   cases qq with
   |nil=>simp at hz
   |@cons k2 v' y'' ys'' h2 a2f =>
    simp only[Bc,List.cons.injEq,Prod.mk.injEq]at hz;obtain⟨⟨rfl,rfl⟩,rfl⟩:=hz;refine aa (wpAny_eqBool_tuple (knd:=intKind prog w) (x:=k1) (y:=k2) hu h1 h2 ?_)
    by_cases hk:k1=k2
    .subst hk
     rw[Al rfl];simp only[jc,bw,gm];refine aj ⟨rfl,rfl,x'',y'',xs'',ys'',rfl,a2e,a2f,?_,by simpa using G⟩;rw[<-L]
     by_cases qv:x''=y''
     .simp[qv]
     .simp[qv]
    .rw[vy hk]
     simp only[uz,jg];have hf:decide (x=y)=false:=by rw[<-L];simp[hk]
     rw[hf]at h;exact aa (aj (aj (aj h)))
 .rintro⟨r1,r2⟩ s' ⟨hr,rfl,x',y',Z,U,hz,Wv,qq,L,G⟩
  simp only at hr;subst hr;refine aj ?_;have Qi:(xs.size==ys.size)=decide (x=y):=by
   rw[<-L,<-G];cases Wv with
   |nil =>
    cases qq with
    |nil=>simp|cons _ _=>simp
   |cons _ _ =>
    cases qq with
    |nil=>simp|cons _ _=>simp at hz
  show P (.done (.ret (.bool (xs.size==ys.size)))) s';rw[Qi];exact h
def bf0{x y:List (List Int)}{a b:Addr}{Q:Bool->Shared->Prop}(L:A.units+1<cLine)(G:TN prog w s.heap x a)(U:TN prog w s.heap y b)(h:Q (decide (x=y)) s):wpAny (model prog w) A (eqBool (.ref a) (.ref b)) Q E s:=by
 unfold eqBool
 try with_reducible refine fu ?_
 show wpAny _ _ (if(Value.ref a==Value.ref b)=true then _ else _) Q E s
 by_cases Z:(Value.ref a==Value.ref b)=true
 .rw[bz Z]
  have e:a=b:=by have:=eq_of_beq Z;injection this
  subst e;obtain rfl:=G.inj U;exact aa (qx (aj (by simpa using h)))
 .rw[bc Z]
  exact aa (wpAny_richCompare_same_room (op:=.Eq) G.typeIs U.typeIs v9
   (gh v9 G.typeIs F.entry_tuple_eq (apl L G U ⟨_,rfl,(λe=>nomatch e),jn h⟩) (F.args_tuple_eq_2 _ _)) (Ai L))
def avq{ks:List (List Int)}{Q:Bool->Shared->Prop}(hk:TN prog w s.heap ks a)(h:Q true s):wpAny (model prog w) A (eqIsQuiet 8 (.ref a)) Q E s:=by
 have hT:=hk.typeIs;obtain⟨o,G,n,ho,_,hd,hi⟩:=hk;unfold eqIsQuiet;refine aa (o4 hT v9.lookup ?_);show wpAny _ _ (isInstance (.ref a) (.type "tuple")>>=_) _ _ s;refine aa (iu hT ym ?_);simp only[jc,bw,gm];refine aa (m7 ho hd ?_);refine aa ?_;show wpAny _ _ (forIn G _ _) _ _ s;rw[<-yw];refine jf _ (λZ r s'=>r.1=none/\s'=s/\∃x,Yu prog w s.heap x Z) _ ?_ ?_ _ _ ⟨rfl,rfl,_,hi⟩
 .rintro v Z r s' ⟨U,rfl,x,hx⟩
  cases hx with
  |@cons k a' ks' _ h1 hl' =>
   have q:∀Q':Bool->Shared->Prop,Q' true s'->wpAny (model prog w) A (eqIsQuiet 7 (.ref a')) Q' E s':=λQ' hq=>by
    have hT:=h1.typeIs;obtain⟨o,G,n,ho,_,hd,hi⟩:=h1;unfold eqIsQuiet;refine aa (o4 hT v9.lookup ?_);show wpAny _ _ (isInstance (.ref a') (.type "tuple")>>=_) _ _ s';refine aa (iu hT ym ?_);simp only[jc,bw,gm];refine aa (m7 ho hd ?_);refine aa ?_;show wpAny _ _ (forIn G _ _) _ _ s';rw[<-yw];refine jf _ (λZ r L=>r.1=none/\L=s'/\∀v∈Z,carriedByValue v=true) _ ?_ ?_ _ _ ⟨rfl,rfl,hi.byValue⟩
    .rintro v Z r L ⟨U,rfl,Dh⟩
     rw[eqIsQuiet_byValue _ (Dh v dh)];refine aa (aj ?_);simp only[jc,bw,gm];exact aj ⟨rfl,rfl,λu qq=>Dh u (bx _ qq)⟩
    .rintro⟨r1,r2⟩ L ⟨U,rfl,_⟩
     simp only at U;subst U;exact aj hq
   refine aa (q _ ?_);simp only[jc,bw,gm];exact aj ⟨rfl,rfl,_,hl'⟩
 .rintro⟨r1,r2⟩ s' ⟨U,rfl,_⟩
  simp only at U;subst U;exact aj h
end
def kN(prog:Program)(w:World):HeapKind prog w (List (List Int))where
 is:=TN prog w
 hash:=hN
 draws:=drN
 room:=λA=>A.units+1<cLine
 inj:=λU Z=>U.inj Z
 keeps:=λx ho hd hs=>x.keeps ho hd hs
 pyHash:=λL G h=>a2h L G h
 eqBool:=λL U Z h=>bf0 L U Z h
 quiet:=λG h=>avq G h
section
variable{prog:Program}{w:World}{A:Around}{E:Y3}{s:Shared}{α:Type}[Inhabited α]
def Ht(At:Heap->Value->α->Prop)(h:Heap)(Z:Zl)(G:List α):Prop:=Z.length=G.length/\∀(i:Nat) v p,Z[i]?=some v->G[i]?=some p->At h v p
noncomputable def key(Z:List α)(i:Nat):α:=Z.getD i default
def Ks{ps:List α}(h:i<ps.length):ps[i]?=some (key ps i):=by simp[key,h]
theorem T7{Z:List α}{lt:α->α->Bool}(T:MW.Tot lt)(L:Z.Nodup):Ord (λi j=>lt (key Z i) (key Z j)) Z.length where
 tr i j k _ _ _ a b:=T.tr _ _ _ a b
 to i j hi hj ne a:=by
  have d:key Z i≠key Z j:=λz=>ne (by
   have G:=ak.mp (Ks hi);have h2:=ak.mp (Ks hj);obtain⟨l1,e1⟩:=G;obtain⟨l2,U⟩:=h2;exact(yr L).mp (e1.trans (z.trans U.symm)))
  cases b:lt (key Z j) (key Z i)with
  |true=>rfl|false=>exact absurd (T.eq _ _ a b) d
def Res(lt:α->α->Bool)(Z:List α)(p:Array Nat):Prop:=PN Z.length p/\Up (λi j=>lt (key Z i) (key Z j)) p Z.length
structure Kd(prog:Program)(w:World)(A:Around)(lt:α->α->Bool)(At:Heap->Value->α->Prop)(κ:SortKind)(vs:Zl)(ps:List α):Prop where
 tot:MW.Tot lt
 keep:∀{h h':Heap}{v p},(∀b o,o.cls=.type "tuple"-> h.get? b=some o->h'.get? b=some o)->At h v p->At h' v p
 kind:∀{E:Y3}{s:Shared}{Q:SortKind->Shared->Prop},Ht At s.heap vs ps->2<=vs.length->Q κ s->wpAny (model prog w) A (keyKind' vs.toArray) Q E s
 less:∀{E:Y3}{s:Shared}{v u p q}{Q:Bool->Shared->Prop},At s.heap v p->At s.heap u q->Q (lt p q) s->wpAny (model prog w) A (keyLt' κ v u) Q E s
theorem Ht.keep{At:Heap->Value->α->Prop}{lt:α->α->Bool}{G:SortKind}(K:Kd prog w A lt At G Z ps)(k:∀b o,o.cls=.type "tuple"-> h.get? b=some o->L.get? b=some o)(x:Ht At h Z ps):Ht At L Z ps:=⟨x.1,λi v p e1 U=>K.keep k (x.2 i v p e1 U)⟩
set_option tactic.hygienic true in
def alk{At:Heap->Value->α->Prop}{lt:α->α->Bool}{κ:SortKind}{vs:Zl}{ps:List α}{n:Nat}{a:Addr}{P:PySem.Fin->Shared->Prop}(u:s.heap.get? a=some (seqObj "list" vs.toArray n))(K:Kd prog w A lt At κ vs ps)(U:Ht At s.heap vs ps)(nd:ps.Nodup)(qq:vs.length<64)
 (h:∀(h':Heap) c p,(∀b o,b≠a->s.heap.get? b=some o->h'.get? b=some o)->h'.get? a=some (seqObj "list" (List.toArray (p.toList.map λi=>vs.getD i Value.none)) c)->Res lt ps p->P (.done (.ret .none)) { s with heap:=h' }) :
 wpAny (model prog w) A (Builtin.«list.sort» ⟨[.ref a],[]⟩) P E s:=by
 have ha:a<s.heap.objs.size:=aq u
 obtain⟨e1,y⟩:∃e1,(s.heap.update a (Obj.mapSeq λ_=>(#[]:Q1))).get? a=some (seqObj "list" #[] e1):=⟨_,get?_update_seq u λ_=>#[]⟩;have keep:∀b o,b≠a->s.heap.get? b=some o->(((s.heap.update a (Obj.mapSeq λ_=>(#[]:Q1))).push (seqObj "tuple" vs.toArray 0)).push (seqObj "list" #[] 0)).get? b=some o:=λb o hb e =>
  ao _ (ao _ (((gr s.heap a _).2 b hb).trans e))
 have R:(((s.heap.update a (Obj.mapSeq λ_=>(#[]:Q1))).push (seqObj "tuple" vs.toArray 0)).push (seqObj "list" #[] 0)).get? a=some (seqObj "list" #[] e1):=ao _ (ao _ y);have L:Ht At (((s.heap.update a (Obj.mapSeq λ_=>(#[]:Q1))).push (seqObj "tuple" vs.toArray 0)).push (seqObj "list" #[] 0)) vs ps:=U.keep K λb o c e=>keep b o (λz=>by
  subst z;rw[u]at e;cases e;exact absurd (Value.type.inj c) (by decide)) e
 have hv:vs.length<=sizeLine:=by rw[jw];lia
 rw[list_sort_plain];refine aa (listItems_at u rfl ?_);refine aa (listUpdate_at u rfl ?_ (by rw[gf];exact hv) (iy _));refine aa (seqEpoch_at y rfl ?_);refine aa (wpAny_newTuple ?_ hv);refine aa (wpAny_newList ?_ (iy _));refine fu ?_;show wpAny (model prog w) A _ P E { s with heap:=((s.heap.update a (Obj.mapSeq λ_=>(#[]:Q1))).push (seqObj "tuple" vs.toArray 0)).push (seqObj "list" #[] 0) };generalize(((s.heap.update a (Obj.mapSeq λ_=>(#[]:Q1))).push (seqObj "tuple" vs.toArray 0)).push (seqObj "list" #[] 0))=g at *;dsimp only;have fin:∀(Z:SortSt) p,(arrOf Z).map (·.2)=List.toArray (p.toList.map λi=>vs.getD i Value.none)->failedOf Z=none->Res lt ps p->wpAny (model prog w) A (do
  let J:=(<-seqEpoch a) != e1
  Builtin.List.listUpdate (.ref a) λ_=>(arrOf Z).map (·.2)
  if let some e:=failedOf Z then rule "list.sort.comparison-raised";throw e
  if J then rule "list.sort.modified";raiseError "ValueError" "list modified during sort"
  ret .none) P E { s with heap:=g }:=λZ p e2 e3 r=>by
  have q0:(List.toArray (p.toList.map λi=>vs.getD i Value.none)).size=vs.length:=by rw[gf,dg,jr,r.1.size,U.1]
  refine aa (seqEpoch_at R rfl ?_);rw[e2];refine aa (listUpdate_at R rfl ?_ (iy _) (gb (Nat.le_of_eq q0) (Nat.le_succ_of_le hv)));rw[e3];simp only[qb,bw,gm];obtain⟨c2,qk⟩:∃c2,(g.update a (Obj.mapSeq λ_=>List.toArray (p.toList.map λi=>vs.getD i Value.none))).get? a=some (seqObj "list" (List.toArray (p.toList.map λi=>vs.getD i Value.none)) c2):=⟨_,get?_update_seq R λ_=>List.toArray (p.toList.map λi=>vs.getD i Value.none)⟩;exact aj (h _ c2 p (λb o hb e=>((gr g a _).2 b hb).trans (keep b o hb e)) qk r)
 by_cases Y:vs.toArray.size<2
 .rw[bz Y,bz Y]
  refine aa (aj ?_);rw[StateT.run_pure];refine aa (aj ?_);have Y:vs.length<2:=by simpa using Y
  refine fin (SortSt.mk' general' (vs.toArray.zip vs.toArray) #[] 7 none) (List.toArray (List.range vs.length)) ?_ rfl ⟨by rw[<-U.1];exact m9 _,λi j q1 hj=>by rw[<-U.1]at hj;lia⟩;show(vs.toArray.zip vs.toArray).map (·.2)=_
  match vs,Y with
  |[],_=>simp|[v],_=>simp[List.range,List.range.loop]
 .rw[bc Y,bc Y]
  have Y:2<=vs.length:=by simp at Y;lia
  refine aa (K.kind (s:={ s with heap:=g }) L Y ?_)
  .refine aa (iz (kat_run (vs:=vs) (ks:=vs) (Q:=λZ S=>S={ s with heap:=g }/\∃p:Array Nat,arrOf Z=p.map (kas_item (vs.toArray.zip vs.toArray))/\failedOf Z=none/\Res lt ps p) (G:=λp S=>S={ s with heap:=g }/\Res lt ps p) rfl Y qq (λp Z S _ a2 a3 a4=>⟨a4.1,p,a2,a3,a4.2⟩) ?_) ?_ λ_ _ e=>e)
   .have O:=T7 K.tot nd
    rw[U.1];refine Ok.wp (c:=λi j=>lt (key ps i) (key ps j)) (n:=ps.length) (Q:=Res lt ps) (λi j C hi hj q=>?_) (λp r=>⟨rfl,r⟩) (avp O (by rw[<-U.1];exact Y));have Q7:i<vs.length:=by rw[U.1];exact hi
    have qv:j<vs.length:=by rw[U.1];exact hj
    have vi:vs[i]?=some (vs.getD i Value.none):=by simp[Q7]
    have vj:vs[j]?=some (vs.getD j Value.none):=by simp[qv]
    exact K.less (s:={ s with heap:=g }) (L.2 i _ _ vi (Ks hi)) (L.2 j _ _ vj (Ks hj)) q
   .intro r S z
    obtain⟨⟨⟩,Z⟩:=r;obtain⟨rfl,p,e2,e3,e4⟩:=z;exact fin Z p (kat_snds rfl e2) e3 e4
theorem ad6{lt:α->α->Bool}:∀{l:List α},l.Pairwise (λa b=>lt a b=true)->MW.O6 lt l=l
 |[],_=>rfl
 |x::l,h=>by
  obtain⟨Z,G⟩:=wg.mp h;show MW.Kc lt x (MW.O6 lt l)=_;rw[ad6 G];cases l with
  |nil=>rfl|cons y l=>simp[MW.Kc,Z y (by simp)]
def apm{lt:α->α->Bool}{ps:List α}{p:Array Nat}(T:MW.Tot lt)(r:Res lt ps p):p.toList.map (key ps)=MW.O6 lt ps:=by
 have pe:(p.toList.map (key ps)).Perm ps:=by
  have h:=r.1.map (key ps);have e:(List.range ps.length).map (key ps)=ps:=by
   apply su;intro i
   by_cases Z:i<ps.length
   .rw[dm,lq Z];exact(Ks Z).symm
   .rw[j5 (by simpa using Z),j5 (by lia)]
  rw[e]at h;exact h
 rw[<-MW.aik T pe];refine(ad6 ?_).symm;rw[List.pairwise_iff_getElem];intro i j Z hj L;have si:=r.1.size;have U:j<ps.length:=by have:=hj;simp at this;lia
 have ei:∀k (hk:k<(p.toList.map (key ps)).length),(p.toList.map (key ps))[k]=key ps (at' p k):=λk hk=>by
  have G:k<p.size:=by simpa using hk
  rw[List.getElem_map]
  congr 1
  have:=Kr G;rw[<-ir]at this;obtain⟨_,z⟩:=ak.mp this;exact z
 rw[ei,ei];exact r.2 i j L U
end
section
variable{prog:Program}{w:World}{A:Around}{E:Y3}{s:Shared}
def AtT(prog:Program)(w:World)(h:Heap)(v:Value)(p:U1):Prop:=∃a,v=.ref a/\TI prog w h p a
def AtN(prog:Program)(w:World)(h:Heap)(v:Value)(p:List (List Int)):Prop:=∃a,v=.ref a/\TN prog w h p a/\p≠[]
def Ht.tail[Inhabited α]{At:Heap->Value->α->Prop}(x:Ht At h (v::Z) (p::ps)):At h v p/\Ht At h Z ps:=⟨x.2 0 v p rfl rfl,by have:=x.1;simpa using this,λi a b G U=>x.2 (i+1) a b G U⟩
def ai5{k:U1}(t:TI prog w h k a):∃o,h.get? a=some o/\o.cls=.type "tuple":= let ⟨o,_,_,ho,hc,_⟩:=t;⟨o,ho,hc⟩
theorem ad7:∀{U:Zl}{L:List (List Int)},Ht (AtT prog w) s.heap U L->∃G:List (Option Value),G.map (·.isSome)=L.map (λp=>!p.isEmpty)/\∀Q:List (Option Value)->Shared->Prop,Q G s->wpAny (model prog w) A (U.mapM firstOfTuple') Q E s
 |[],[],_=>⟨[],rfl,λQ h=>by rw[List.mapM_nil];exact aj h⟩
 |[],_::_,x=>by cases x.1|_::_,[],x=>by cases x.1
 |v::U,p::L,x=>by
  obtain⟨⟨a,rfl,o,Z,n,ho,hc,hd,hi⟩,t⟩:=x.tail;obtain⟨G,o1,o2⟩:=ad7 t;refine⟨Z[0]?::G,?_,λQ h=>?_⟩
  .rw[dj,dj,o1]
   congr 1
   rw[<-ir];generalize Z.toList=l at hi⊢;cases hi<;>rfl
  .rw[List.mapM_cons]
   refine aa ?_;rw[kas_first_eq];refine aa (Looks.here (show Looks (model prog w) s.heap (typeOf (.ref a)) o.cls from(Looks.ld ho).andThen .now) ?_);rw[hc,bc (by first|decide|simp)];refine aa (listItems_at ho hd (aj ?_));exact aa (o2 (λbs s'=>wpAny (model prog w) A (pure (Z[0]?::bs)) Q E s') (aj h))
noncomputable def κT(Z:List (List Int)):SortKind:=match Z with
 |[]::_=>oneType'|_=>general'
def a2i{G:Zl}{ps:List (List Int)}{Q:SortKind->Shared->Prop}(hp:Ht (AtT prog w) s.heap G ps)(hn:[]∈ps)(h:Q (κT ps) s):wpAny (model prog w) A (keyKind' G.toArray) Q E s:=by
 obtain⟨U,Z,o2⟩:=ad7 (A:=A) (E:=E) hp;rw[kat_kind_eq,List.mapM_toArray,map_eq_pure_bind];refine aa (aa (o2 _ (aj ?_)));have Dh:¬((U.toArray.all λx=>x.isSome)=true):=λz=>by
  have z:∀x∈U,x.isSome=true:=by simpa using z
  have:false∈U.map (·.isSome):=by rw[Z];exact bf.mpr ⟨[],hn,rfl⟩
  obtain⟨x,hx,e⟩:=bf.mp this;rw[z x hx]at e;cases e
 rw[bc Dh]
 match G,ps,U,hp,Z,hn with
 |[],[],_,_,_,hn=>cases hn|[],_::_,_,x,_,_=>cases x.1|_::_,[],_,x,_,_=>cases x.1|_::_,_::_,[],_,Z,_=>cases Z
 |v::G,p::ps,o::U,hp,Z,_ =>
  have e0:(o::U).toArray[0]?=some o:=rfl;have e1:o.isSome=!p.isEmpty:=by rw[dj,dj]at Z;injection Z
  rw[e0];simp only[mq,id_eq,e1];cases p with
  |cons i p =>
   simp only[List.isEmpty_cons,uz,jg];exact aj h
  |nil =>
   simp only[List.isEmpty_nil,jc,bw,gm];rw[oneTypeOnly'_eq,List.mapM_toArray,map_eq_pure_bind];refine aa (aa (aa (kas_mapM (r:=.type "tuple") _ (λu hu Q' hq=>?_) (aj ?_))))
   .obtain⟨i,hi⟩:=v8.mp hu
    have hl:i<([]::ps).length:=by rw[<-hp.1];exact(ak.mp hi).1
    obtain⟨a,rfl,t⟩:=hp.2 i u _ hi (dz hl);obtain⟨o,ho,hc⟩:=ai5 t;have L:Looks (model prog w) s.heap (typeOf (.ref a)) o.cls:=(Looks.ld ho).andThen .now;rw[hc]at L;exact L.here hq
   .have qq:((List.map (λ_=>Value.type "tuple") (v::G)).toArray.all λx=>x==Value.type "tuple")=true:=by
     simp only[List.all_toArray,List.all_map,ik];intro _ _;rfl
    have h0:(List.map (λ_=>Value.type "tuple") (v::G)).toArray[0]?=some (Value.type "tuple"):=by simp
    rw[h0];simp only[qq,jg];exact aj (aj h)
theorem a9i{vs:Zl}{G:List (List Int)}(L:A.units<cLine)(hn:[]∈G):Kd prog w A MW.ltT (AtT prog w) (κT G) vs G where
 tot:=MW.V1 MW.aoo
 keep:=λk x=>by obtain⟨a,e,o,Z,n,ho,U,r⟩:=x;exact⟨a,e,o,Z,n,k a o U ho,U,r⟩
 kind:=λhp _ h=>a2i hp hn h
 less:=λhx hy h=>by
  obtain⟨a,rfl,x⟩:=hx;obtain⟨b,rfl,y⟩:=hy;unfold κT;split
  .rw[keyLt'_oneType];exact a2g L x y h
  .exact apk L x y h
def TI.apn{k:U1}(x:TI prog w h k a)(U:∀b o,o.cls=.type "tuple"-> h.get? b=some o->h'.get? b=some o):TI prog w h' k a:=by obtain⟨o,Z,n,L,G,r⟩:=x;exact⟨o,Z,n,U a o G L,G,r⟩
theorem Yu.apn{x:List (List Int)}{vs:Zl}(U:Yu prog w h x vs)(G:∀b o,o.cls=.type "tuple"-> h.get? b=some o->L.get? b=some o):Yu prog w L x vs:=by
 induction U with
 |nil=>exact .nil|cons Z _ ih=>exact .cons (Z.apn G) ih
theorem azo{fin:Bool}{Q:Bool->Shared->Prop}(U:A.units<cLine):∀{x y:List (List Int)}{Z G:Zl}{i:Nat},Yu prog w s.heap x Z->Yu prog w s.heap y G->fin=decide (Z.length<G.length)->Q (MW.ltN x y) s->KatLex prog w A false fin Q (Z.zip G) i s
 |_,_,_,_,i,.nil,.nil,e,h=>by
  rw[e];exact kat_nil (by simpa[MW.Fw]using h)
 |_,_,_,_,i,.nil,.cons _ _,e,h=>by
  rw[e];exact kat_nil (by simpa[MW.Fw]using h)
 |_,_,_,_,i,.cons _ _,.nil,e,h=>by
  rw[e];exact kat_nil (by simpa[MW.Fw]using h)
 |_,_,_,_,i,.cons (k:=k1) h1 t1,.cons (k:=k2) h2 t2,e,h=>by
  rw[Bc];have h:Q (if k1=k2 then MW.ltN _ _ else MW.ltT k1 k2) s:=h;refine kat_cons (wpAny_eqBool_tuple (knd:=intKind prog w) U h1 h2 (kat_go (λq=>?_) λq=>?_))
  .rw[bz (m6 q)]at h
   exact kat_yes (azo U t1 t2 (by rw[e];simp) h)
  .rw[bc (of_decide_eq_false q)]at h
   exact kat_no (by rw[Bool.false_and];exact apk U h1 h2 h)
theorem ad8:∀{U:Zl}{L:List (List (List Int))},Ht (AtN prog w) h U L->∃fs:List Value,KatTups h U fs/\fs.length=U.length/\∀f∈fs,∃a k,f=Value.ref a/\TI prog w h k a
 |[],[],_=>⟨[],KatTups.nil,rfl,λf G=>by cases G⟩
 |[],_::_,x=>by cases x.1|_::_,[],x=>by cases x.1
 |v::U,p::L,x=>by
  obtain⟨⟨a,rfl,⟨o,Z,n,ho,hc,hd,hi⟩,ne⟩,t⟩:=x.tail;obtain⟨fs,f1,f2,f3⟩:=ad8 t;have:∃b k,Z[0]?=some (Value.ref b)/\TI prog w h k b:=by
   rw[<-ir];generalize Z.toList=l at hi⊢;cases hi with
   |nil=>exact absurd rfl ne|cons h1 _=>exact⟨_,_,rfl,h1⟩
  obtain⟨b,k,e1,e2⟩:=this;refine⟨.ref b::fs,KatTups.cons ho hc hd e1 f1,by simp[f2],λf G=>?_⟩;rcases cj.mp G with rfl|G
  .exact⟨b,k,rfl,e2⟩
  .exact f3 f G
theorem a9j{vs:Zl}{ps:List (List (List Int))}(hu:A.units<cLine):Kd prog w A MW.ltN (AtN prog w) (tuples' false) vs ps where
 tot:=MW.V1 (MW.V1 MW.aoo)
 keep:=λk x=>by obtain⟨a,e,⟨o,Z,n,U,G,hd,hi⟩,ne⟩:=x;exact⟨a,e,⟨o,Z,n,k a o G U,G,hd,hi.apn k⟩,ne⟩
 kind:=fun{E} {s} {Q} hp h2 h=>by
  obtain⟨fs,f1,f2,f3⟩:=ad8 hp;refine kat_kind (T:=.type "tuple") f1 (by lia) (λf hf=>?_) rfl h;obtain⟨a,k,rfl,t⟩:=f3 f hf;obtain⟨o,U,G⟩:=ai5 t;have L:Looks (model prog w) s.heap (typeOf (.ref a)) o.cls:=(Looks.ld U).andThen .now
  rwa [G]at L
 less:=λhx hy h=>by obtain⟨a,rfl,⟨o,Z,n,U,G,hd,hi⟩,_⟩:=hx;obtain⟨b,rfl,⟨o',qq,n',Tf,qk,Ut,Q7⟩,_⟩:=hy;exact kat_lt U hd Tf Ut (azo hu hi Q7 (by simp) h)
end
end So
namespace L2
open PySem PySem.Spec PyProof.Rows
abbrev Key:=Sum Int Str
noncomputable def Xg:Key->Value->Bool
 |.inl k,v=>Value.isInt k v|.inr x,v=>Value.isStrOf x v
noncomputable def bf4(w:World):Key->Int
 |.inl k=>hashInt k|.inr x=>hashStr w x
theorem Aw:∀{k:Key}{v:Value},Xg k v=true->(∃i t,k=Sum.inl i/\v=Value.int i t)\/(∃x t,k=Sum.inr x/\v=Value.str x t)
 |.inl i,v,h=>by
  obtain⟨t,e⟩:=Value.isInt_shape (k:=i) (v:=v) h;exact .inl ⟨i,t,rfl,e⟩
 |.inr x,v,h=>by
  obtain⟨t,e⟩:=Value.isStrOf_shape (x:=x) (v:=v) h;exact .inr ⟨x,t,rfl,e⟩
def alm(i:Int)(t:Tok):Xg (.inl i) (.int i t)=true:=by simp[Xg,Value.isInt]
def aln(x:Str)(t:Tok):Xg (.inr x) (.str x t)=true:=by simp[Xg,Value.isStrOf]
def a2j(a b:Int):decide ((Sum.inl a:Key)=Sum.inl b)=(a==b):=by
 by_cases e:a=b
 .subst e;simp
 .have h:¬(Sum.inl a:Key)=Sum.inl b:=λq=>e (Sum.inl.inj q)
  rw[vy h];exact(vq.mpr e).symm
def a2k(a b:Str):decide ((Sum.inr a:Key)=Sum.inr b)=decide (a=b):=by
 by_cases e:a=b
 .subst e;simp
 .have h:¬(Sum.inr a:Key)=Sum.inr b:=λq=>e (Sum.inr.inj q)
  rw[vy h,vy e]
def a2l(a:Int)(b:Str):decide ((Sum.inl a:Key)=Sum.inr b)=false:=vy (λq=>nomatch q)
def a2m(a:Str)(b:Int):decide ((Sum.inr a:Key)=Sum.inl b)=false:=vy (λq=>nomatch q)
def m8(prog:Program)(w:World):PySem.KeyKind prog w Key where
 is:=Xg
 hash:=bf4 w
 inj:=λv a b U G=>by
  rcases Aw U with⟨i,t,rfl,rfl⟩|⟨x,t,rfl,rfl⟩
  .rcases Aw G with⟨j,u,rfl,e⟩|⟨y,u,rfl,e⟩
   .injection e with e1 _;rw[e1]
   .exact nomatch e
  .rcases Aw G with⟨j,u,rfl,e⟩|⟨y,u,rfl,e⟩
   .exact nomatch e
   .injection e with e1 _;rw[e1]
 byValue:=λk v h=>by rcases Aw h with⟨i,t,rfl,rfl⟩|⟨x,t,rfl,rfl⟩<;>rfl
 pyHash:=λZ h=>by
  rcases Aw Z with⟨i,t,rfl,rfl⟩|⟨x,t,rfl,rfl⟩
  .exact wpAny_pyHash_int h
  .exact wpAny_pyHash_str h
 eqBool:=λL Z h=>by
  rcases Aw L with⟨i,t,rfl,rfl⟩|⟨x,t,rfl,rfl⟩
  .rcases Aw Z with⟨j,u,rfl,rfl⟩|⟨y,u,rfl,rfl⟩
   .rw[a2j]at h;exact wpAny_eqBool_int h
   .rw[a2l]at h;exact SeqAt.EqAt.int_str i t y u _ _ _ _ h
  .rcases Aw Z with⟨j,u,rfl,rfl⟩|⟨y,u,rfl,rfl⟩
   .rw[a2m]at h;exact SeqAt.EqAt.str_int x t j u _ _ _ _ h
   .rw[a2k]at h;exact wpAny_eqBool_str h
 «strs»:=λk x t v h=>by
  rcases Aw h with⟨i,u,rfl,e⟩|⟨y,u,rfl,e⟩
  .exact nomatch e
  .injection e with e1 _
   subst e1;cases v<;>rfl
def ad9(prog:Program)(w:World)(i:Int)(t:Tok):(m8 prog w).is (.inl i) (.int i t)=true:=alm i t
def aea(prog:Program)(w:World)(x:Str)(t:Tok):(m8 prog w).is (.inr x) (.str x t)=true:=aln x t
end L2
namespace L2
open PySem PySem.Spec PyProof.Rows
set_option genInjectivity true in
inductive V where
 |non|bl (b:Bool)|int (i:Int)|str (x:Str)|byt (b:Array UInt8)|flt (b:UInt64)|ref (a:Addr)|ty (n:String)
 deriving DecidableEq
def RelV:V->Value->Prop
 |.non,u=>u=Value.none|.bl b,u=>u=Value.bool b|.int i,u=>∃t,u=Value.int i t|.str x,u=>∃t,u=Value.str x t|.byt b,u=>∃t,u=Value.bytes b t|.flt b,u=>∃t,u=Value.float b t|.ref a,u=>u=Value.ref a|.ty n,u=>u=Value.type n
abbrev Vals:List V->List Value->Prop:=Paired RelV
theorem Vals.length(r:Vals Z G):Z.length=G.length:=Paired.length r
theorem Vals.get:∀{Z:List V}{G:Zl}{i:Nat}{x:V},Vals Z G->Z[i]?=some x->∃u,G[i]?=some u/\RelV x u
 |_,_,_,_,.nil,e=>by simp at e|_,_,0,_,.cons r _,e=>by simp at e;subst e;exact⟨_,rfl,r⟩
 |_,_,i+1,x,.cons _ t,e=>by
  obtain⟨u,U,L⟩:=Vals.get (i:=i) (x:=x) t (by simpa using e);exact⟨u,by simpa using U,L⟩
theorem Vals.set{x:V}{u:Value}(r:RelV x u):∀{Z:List V}{G:Zl}(i:Nat),Vals Z G->Vals (Z.set i x) (G.set i u)
 |_,_,_,.nil=>.nil|_,_,0,.cons _ t=>.cons r t|_,_,i+1,.cons q t=>.cons q (Vals.set r i t)
theorem Vals.append:∀{Z L:List V}{U G:Zl},Vals Z U->Vals L G->Vals (Z++L) (U++G):=by intro _ _ _ _ h r;induction h with|nil=>exact r|cons q t ih=>exact .cons q ih
theorem Vals.take:∀{Z:List V}{G:Zl}(n:Nat),Vals Z G->Vals (Z.take n) (G.take n)
 |_,_,0,_=>.nil|_,_,_+1,.nil=>.nil|_,_,n+1,.cons r t=>.cons r (Vals.take n t)
theorem Vals.drop:∀{Z:List V}{G:Zl}(n:Nat),Vals Z G->Vals (Z.drop n) (G.drop n)
 |_,_,0,r=>r|_,_,_+1,.nil=>.nil|_,_,n+1,.cons _ t=>Vals.drop n t
def O7:Option V->Option Value->Prop
 |some v,some u=>RelV v u|none,none=>True|_,_=>False
def KV{Z:Type}:List (Z×V)->List (Z×Value)->Prop:=Paired λ(p:Z×V) (q:Z×Value)=>p.1=q.1/\RelV p.2 q.2
noncomputable def kV:Key->V
 |.inl i=>.int i|.inr x=>.str x
inductive HO where
 |lst (xs:List V)
 |tup (xs:List V)
 |dK (kvs:List (Key×V))|dT (kvs:List (List Key×V))
 |set (S:Int->Bool) (n:Nat)
 |ins (C dx:Addr) (fs:List (Str×V))
 |own (x:Addr)
 |xd (fs:List (Str×V))
 |met (f x:Addr)
 |Th (lo hi:Int)
 |Ox (o:Obj) (u:HO)
 |tbl (ps:Q1)
 |ext (φ:Heap->Prop)
abbrev Hp:=Addr->Option HO
noncomputable def upd(H:Hp)(a:Addr)(o:HO):Hp:=λb=>if b=a then some o else H b
def wz:upd H a o a=some o:=by unfold upd;rw[bz rfl]
def j0(h:b≠a):upd H a o b=H b:=by unfold upd;rw[bc h]
def apo{H:Hp}(h:H a=some o)(Z:H b=some u)(d:o≠u):a≠b:=by intro e;subst e;rw[h]at Z;exact d (ie Z)
def mj{H:Hp}(h:H a=some o)(Z:H b=none):a≠b:=by intro e;subst e;rw[h]at Z;cases Z
section
variable(P:Program)(w:World)
def Y6(h:Heap)(a:Addr)(Z:Q1):Prop:=∃o,h.get? a=some o/\o.cls=.type "tuple"/\∃n,o.data=.seq Z n/\o.dict=none
def Y6.is(x:Y6 h a items):IsTup h a items:=let ⟨o,h1,h2,n,h3,_⟩:=x;⟨o,h1,h2,n,h3⟩
def Y6.new(h:Heap)(items:Q1):Y6 (h.push { cls:=.type "tuple",data:=.seq items }) h.objs.size items:=⟨_,bu _ rfl,rfl,_,rfl,rfl⟩
def zj(H:Hp)(h:Heap)(a:Addr):HO->Prop
 |.lst Z=>Z.length<=sizeLine/\∃(U:Zl)(n:Nat),Vals Z U/\h.get? a=some { cls:=.type "list",data:=.seq U.toArray n }|.tup Z=>Z.length<=sizeLine/\∃U:List Value,Vals Z U/\Y6 h a U.toArray|.dK kvs=>kvs.length<=sizeLine/\(a==sysModules)=false/\∃L,KV kvs L/\h.DictOf (m8 P w) a L
 |.dT kvs=>kvs.length<=sizeLine/\(a==sysModules)=false/\∃Z:List (List Key×Addr×Value),
  Paired (λ(p:List Key×V) (q:List Key×Addr×Value)=>p.1=q.1/\H q.2.1=some (.tup (p.1.map kV))/\RelV p.2 q.2.2) kvs Z /\
  ∃o es ep,h.get? a=some o/\o.ExactDict/\o.data=.dict es ep/\es.toList=Z.map (entryOfKey (tupleKind (m8 P w)))/\(Z.map (·.1)).Nodup
 |.set S n=>h.SetOf (intKind P w) a S n
 |.ins C dx fs=>H dx=some (.own a)/\fs.length<=1000/\dx≠a/\h.get? a=some (PySem.W.instObj C dx) /\
  ∃G,h.Ns1 dx G/\(∀f,O7 (fs.lookup f) (G f))/\PySem.Within G (fs.map (·.1))
 |.own _=>∃o,h.get? a=some o|.xd fs=>∃G,h.Ns1 a G/\∀f,O7 (fs.lookup f) (G f)|.Th lo hi=>∃t u v,h.get? a=some { cls:=.type "range",data:=.fields #[.int lo t,.int hi u,.int 1 v] }|.Ox o u=>h.get? a=some o/\zj H h a u|.tbl ps=>h.get? a=some { cls:=.none,data:=.fields ps }|.met f x=>h.get? a=some (PySem.W.methodObj (.ref f) (.ref x))|.ext φ=>φ h/\(∃o,h.get? a=some o)/\∀h1 h2:Heap,φ h1->(∀o,h1.get? a=some o->h2.get? a=some o)->φ h2
def Pu(H:Hp)(h:Heap):Prop:=∀a o,H a=some o->zj P w H h a o
end
theorem zj.lt(x:zj P w H h a o):a<h.objs.size:=by
 cases o with
 |lst G=>obtain⟨_,_,_,_,e⟩:=x;exact aq e
 |tup G=>obtain⟨_,_,_,p⟩:=x;exact(Y6.is p).lt
 |dK Z=>obtain⟨_,_,_,_,o,_,_,e,_⟩:=x;exact aq e
 |dT Z=>obtain⟨_,_,_,_,o,_,_,e,_⟩:=x;exact aq e
 |set S n=>obtain⟨o,_,_,_,e,_⟩:=x;exact aq e
 |ins C dx fs=>obtain⟨_,_,_,e,_⟩:=x;exact aq e
 |own y=>obtain⟨_,e⟩:=x;exact aq e
 |xd fs=>obtain⟨_,⟨_,_,_,e,_⟩,_⟩:=x;exact aq e
 |Th lo hi=>obtain⟨_,_,_,e⟩:=x;exact aq e
 |Ox ob u=>obtain⟨e,_⟩:=x;exact aq e
 |tbl L=>exact aq (show h.get? a=some _ from x)
 |met f y=>exact aq (show h.get? a=some _ from x)
 |ext U=>obtain⟨_,⟨_,e⟩,_⟩:=x;exact aq e
theorem Paired.a2o{L β:Type}{F G:L->β->Prop}:∀{Z:List L}{U:List β},Paired F Z U->(∀a b,F a b->G a b)->Paired G Z U:=by intro _ _ h f;induction h with|nil=>exact .nil|cons r t ih=>exact .cons (f _ _ r) ih
def zj.stay(x:zj P w H h a o)(k:∀b u,(b=a\/H b=some (.own a))->h.get? b=some u->h'.get? b=some u)(ho:∀b,H b=some (.own a)->H' b=some (.own a))(ht:∀b L,H b=some (.tup L)->H' b=some (.tup L)):zj P w H' h' a o:=by
 induction o with
 |lst L=>obtain⟨z,xq,n,r,e⟩:=x;exact⟨z,xq,n,r,k _ _ (.inl rfl) e⟩
 |tup L=>obtain⟨z,xq,r,Z,e,c⟩:=x;exact⟨z,xq,r,Z,k _ _ (.inl rfl) e,c⟩
 |dK qq=>obtain⟨z,y,vs,r,Z,U,G,e,c⟩:=x;exact⟨z,y,vs,r,Z,U,G,k _ _ (.inl rfl) e,c⟩
 |dT qq =>
  obtain⟨z,y,L,r,Z,U,G,e,c⟩:=x;exact⟨z,y,L,Paired.a2o r λp q z=>⟨z.1,ht _ _ z.2.1,z.2.2⟩,Z,U,G,k _ _ (.inl rfl) e,c⟩
 |set S n=>obtain⟨Z,U,G,t,e,c⟩:=x;exact⟨Z,U,G,t,k _ _ (.inl rfl) e,c⟩
 |ins C dx fs =>
  obtain⟨d,z,ne,e,mA,⟨od,U,G,e2,c⟩,r⟩:=x;exact⟨ho _ d,z,ne,k _ _ (.inl rfl) e,mA,⟨od,U,G,k _ _ (.inr d) e2,c⟩,r⟩
 |own y=>obtain⟨Z,e⟩:=x;exact⟨Z,k _ _ (.inl rfl) e⟩
 |xd fs=>obtain⟨mA,⟨od,U,G,e,c⟩,r⟩:=x;exact⟨mA,⟨od,U,G,k _ _ (.inl rfl) e,c⟩,r⟩
 |Th lo hi=>obtain⟨t,u,v,e⟩:=x;exact⟨t,u,v,k _ _ (.inl rfl) e⟩
 |Ox Z u ih=>obtain⟨e,q⟩:=x;exact⟨k _ _ (.inl rfl) e,ih q⟩
 |tbl ps =>
  have e:h.get? a=some { cls:=.none,data:=.fields ps }:=x;show h'.get? a=some { cls:=.none,data:=.fields ps };exact k a _ (.inl rfl) e
 |met f y =>
  have e:h.get? a=some (PySem.W.methodObj (.ref f) (.ref y)):=x;show h'.get? a=some (PySem.W.methodObj (.ref f) (.ref y));exact k a _ (.inl rfl) e
 |ext φ=>obtain⟨p,⟨o,e⟩,st⟩:=x;exact⟨st _ _ p λo q=>k _ _ (.inl rfl) q,⟨o,k _ _ (.inl rfl) e⟩,st⟩
theorem Pu.lt(x:Pu P w H h)(e:H a=some o):a<h.objs.size:=(x a o e).lt
def Pu.fresh(x:Pu P w H h)(e:h.objs.size<=a):H a=none:=by
 cases q:H a with
 |none=>rfl|some u=>exact absurd (il (x.lt q) e) (qd _)
def Pu.kept(x:Pu P w H h)(k:∀b u,h.get? b=some u->h'.get? b=some u):Pu P w H h':=λa o e =>
 (x a o e).stay (λb u _ q=>k b u q) (λ_ q=>q) λ_ _ q=>q
def Pu.laid(x:Pu P w H h)(k:∀b u,h.get? b=some u->h'.get? b=some u)(U:h.objs.size<=a)(new:zj P w (upd H a o) h' a o):Pu P w (upd H a o) h':=λb u e=>by
 have G:=x.fresh U
 by_cases Z:b=a
 .subst Z;rw[wz]at e;cases e;exact new
 .rw[j0 Z]at e
  exact(x b u e).stay (λc v _ q=>k c v q) (λc q=>by rw[j0 (mj q G)];exact q) λc L q=>by rw[j0 (mj q G)];exact q
def Rd(H:Hp)(a:Addr)(u:HO):Prop:=H a=some u\/∃o,H a=some (.Ox o u)
def Rd.ok(r:Rd H a u)(x:Pu P w H h):zj P w H h a u:=by
 rcases r with r|⟨o,r⟩
 .exact x a u r
 .obtain⟨_,q⟩:=x a _ r
  exact q
def Mut:Option HO->Prop
 |some (.lst _)=>True|some (.dK _)=>True|some (.dT _)=>True|some (.set _ _)=>True|some (.ins _ _ _)=>True|some (.ext _)=>True|_=>False
def Pu.write(ok:Pu P w H h)(U:Mut (H x))(he:e=x\/H e=some (.own x))(k:∀b u,b≠e->h.get? b=some u->h'.get? b=some u)(qq:∃u,h'.get? e=some u)(new:zj P w (upd H x o') h' x o'):Pu P w (upd H x o') h':=λb u q=>by
 have G:∀c y,H c=some (.own y)->c≠x:=λc y r z=>by subst z;rw[r]at U;exact U
 have qk:∀c xs,H c=some (.tup xs)->c≠x:=λc xs r z=>by subst z;rw[r]at U;exact U
 by_cases L:b=x
 .subst L;rw[wz]at q;cases q;exact new
 .rw[j0 L]at q
  by_cases Z:b=e
  .have q':H b=some (.own x):=by
    rcases he with z|z
    .exact absurd (Z.trans z) L
    .rw[Z];exact z
   rw[q]at q';cases q';obtain⟨v,hv⟩:=qq;exact⟨v,by rw[Z];exact hv⟩
  .refine(ok b u q).stay (λc v hc r=>k c v ?_ r) (λc r=>by rw[j0 (G c b r)];exact r) λc xs r=>by rw[j0 (qk c xs r)];exact r
   rcases hc with rfl|hc
   .exact Z
   .rintro rfl
    rcases he with z|z
    .exact G c b hc z
    .rw[hc]at z;cases z;exact L rfl
structure Un(fs ex:Xt)(H H':Hp)(h h':Heap):Prop where
 keep:∀b o,h.get? b=some o->H b=none->b∉fs->b∉ex->h'.get? b=some o
 slot:∀b o,h.get? b=some o->H b=none->b∈fs->b∉ex->∃sl,h'.get? b=some { o with slots:=sl }
 free:∀b o,h.get? b=some o->H b=none->b∉ex->H' b=none
 there:∀b o,h.get? b=some o->b∉ex->∃o',h'.get? b=some o'
 Xh:∀b xs,H b=some (.tup xs)->H' b=some (.tup xs)
 abr:∀b o u,H b=some (.Ox o u)->H' b=some (.Ox o u)
 aeb:∀b ps,H b=some (.tbl ps)->∃more,H' b=some (.tbl (ps++more))
def Un.any(u:Un fs ex H H1 h L)(q:h.get? b=some Z)(n:H b=none)(U:b∉ex):∃sl,L.get? b=some { Z with slots:=sl }:=by
 by_cases G:b∈fs
 .exact u.slot b Z q n G U
 .exact⟨Z.slots,u.keep b Z q n G U⟩
def Un.kept(k:∀b u,h.get? b=some u->h'.get? b=some u):Un fs ex H H h h':=
 ⟨λb Z q _ _ _=>k b Z q,λb Z q _ _ _=>⟨Z.slots,k b Z q⟩,λ_ _ _ n _=>n,λb Z q _=>⟨Z,k b Z q⟩,λ_ _ q=>q,λ_ _ _ q=>q,λ_ G q=>⟨#[],by rw[q];simp⟩⟩
def Un.refl:Un fs ex H H h h:=Un.kept λ_ _ q=>q
theorem Un.laid(k:∀b u,h.get? b=some u->h'.get? b=some u)(U:h.objs.size<=a)(Z:H a=none):Un fs ex H (upd H a o) h h' where
 keep:=λb u q _ _ _=>k b u q
 slot:=λb u q _ _ _=>⟨u.slots,k b u q⟩
 free:=λb u q n _=>by rw[j0 (dq (il (aq q) U))];exact n
 there:=λb u q _=>⟨u,k b u q⟩
 Xh:=λb G q=>by rw[j0 (mj q Z)];exact q
 abr:=λb u G q=>by rw[j0 (mj q Z)];exact q
 aeb:=λb L q=>⟨#[],by rw[j0 (mj q Z),q];simp⟩
def Un.write(G:Mut (H x))(he:e=x\/H e=some (.own x))(k:∀b u,b≠e->h.get? b=some u->h'.get? b=some u)(U:∃u,h'.get? e=some u):Un fs ex H (upd H x o) h h':=by
 have hx:∀b,H b=none->b≠x:=λb n z=>by subst z;rw[n]at G;exact G
 have hb:∀b,H b=none->b≠e:=λb n z=>by
  subst z;rcases he with r|r
  .exact hx b n r
  .rw[n]at r;cases r
 have L:∀b u,H b=some u->¬Mut (some u)->b≠x:=λb u q nm z=>by subst z;rw[q]at G;exact nm G
 refine⟨λb u q n _ _=>k b u (hb b n) q,λb u q n _ _=>⟨u.slots,k b u (hb b n) q⟩,λb u q n _=>by rw[j0 (hx b n)];exact n,λb u q _=>?_,
  λb xs q=>by rw[j0 (L b _ q λz=>z)];exact q,λb u xs q=>by rw[j0 (L b _ q λz=>z)];exact q,λb ps q=>⟨#[],by rw[j0 (L b _ q λz=>z),q];simp⟩⟩
 by_cases Z:b=e
 .subst Z;exact U
 .exact⟨u,k b u Z q⟩
noncomputable def trk(h:Heap)(H:Hp):List Addr:=(List.range h.objs.size).filter λa=>(H a).isSome
def abt(h:Heap)(H:Hp):Heap:=PySem.W.hideAll h (trk h H)
def alo(h:Heap)(H:Hp):(abt h H).objs.size=h.objs.size:=PySem.W.hideAll_size _ _
def apq(e:h.get? b=some o)(n:H b=none):(abt h H).get? b=some o:=
 PySem.W.hideAll_get _ e λZ=>by have q:(H b).isSome=true:=(jq.mp Z).2;rw[n]at q;simp at q
def avr(e:(abt h H).get? b=some o):h.get? b=some o/\H b=none:=by
 have Z:h.get? b=some o:=PySem.W.of_hideAll (trk h H) e;refine⟨Z,?_⟩;cases q:H b with
 |none=>rfl
 |some x =>
  have G:b∈trk h H:=jq.mpr ⟨iw.mpr (aq Z),by simp[q]⟩;have z:(abt h H).get? b=none:=PySem.W.hideAll_none (trk h H) G;rw[z]at e;cases e
end L2
namespace L2
open PySem PySem.Spec PyProof.Rows
structure Mod(K:Fg)(mg:Zs)(base:Heap):Prop where
 kin:K.In base
 glob:base.Ns mainGlobals mg
 blt:∃mb,base.Ns builtinsNs mb/\∀x:Str,x≠"__name__"-> mb x=bootBuiltins x
 nolimit:base.NoLimit
structure Cx where
 prog:Program
 w:World
 K:Fg
 mg:Str->Option Value
 base:Heap
 A:Around
 N:List Str
 s₀:Shared
 H₀:Hp
 env:Env
 outer:List Env
 stack:List Env
 ex:List Addr
 fn:Str->Bool
 calm:Bool
 pn:List (Addr×Obj)
 xe:Value->Shared->Prop
noncomputable def frs(l:List Env):List Addr:=l.filterMap (·.frame)
abbrev Cx.fs(X:Cx):List Addr:=frs X.outer
def Vis(Z:Scope)(x:Str):Prop:=Z.names.lookup x=some .local\/Z.names.lookup x=some .cell\/Z.names.lookup x=some .free
def Loc(Z:Scope)(x:Str):Prop:=Z.names.lookup x=some .local\/Z.names.lookup x=some .cell
def Look(Z:Env)(h:Heap)(m:Zs)(x:Str)(u:Value):Prop:=
 (Z.kindOf x=some .local/\m x=some u)\/((Z.kindOf x=some .cell\/Z.kindOf x=some .free)/\∃c,Z.cells.lookup x=some c/\h.IsCell c (some u))
structure Cx.Ok(X:Cx):Prop where
 mod:Mod X.K X.mg X.base
 kind:X.env.scope.kind=.function
 glob:X.env.globals=mainGlobals
 blt:X.env.builtins=builtinsNs
 above:X.s₀.heap.objs.size<=X.env.locals
 inj:∀x y c,X.env.cells.lookup x=some c->X.env.cells.lookup y=some c->x=y
 has:∀x,(X.env.kindOf x=some .cell\/X.env.kindOf x=some .free)->∃c,X.env.cells.lookup x=some c
 cab:∀x c,X.fn x=true->X.env.cells.lookup x=some c->X.s₀.heap.objs.size<=c
 hd:X.calm=true->X.A.handled=none
 frames:X.A.frames=some X.stack
 stk:X.stack=X.outer\/(X.stack=X.env::X.outer/\X.env.frame=some X.env.locals)
 exf:∀b∈X.ex,b≠X.env.locals/\∀x c,X.env.cells.lookup x=some c->c≠b
 bs:∀b o,X.base.get? b=some o->X.s₀.heap.get? b=some o/\X.H₀ b=none
 bsz:X.base.objs.size<=X.s₀.heap.objs.size
 aps:∀b o,X.base.get? b=some o->b∉X.ex
 avt:∀b∈X.ex,b∉X.fs
 Vq:X.s₀.heap.FunFrames X.base X.outer
 frf:∀b∈X.fs,X.H₀ b=none
structure Inv(X:Cx)(pins:Zp)(σ:List (Option V))(H:Hp)(s:Shared):Prop where
 ok:X.Ok
 os:s.os=X.s₀.os
 bare:AllBare s.gens
 base:Un X.fs X.ex X.H₀ H X.s₀.heap s.heap
 loc:∃m,s.heap.Ns X.env.locals m/\∀(i:Nat)(x:Str)(v:V),X.N[i]?=some x->σ[i]?=some (some v)->Vis X.env.scope x->∃u,RelV v u/\Look X.env s.heap m x u
 cell:∀x c,X.env.cells.lookup x=some c->∃v,s.heap.IsCell c v
 free:H X.env.locals=none
 Ob:∀x c,X.env.cells.lookup x=some c->H c=none
 pin:∀p∈X.pn++pins,s.heap.get? p.1=some p.2/\H p.1=none/\p.1≠X.env.locals/\p.1∉X.fs/\∀v,p.2.data≠.cell v
 Ad:Pu X.prog X.w H s.heap
 len:σ.length=X.N.length
def Cx.Ok.bf6{X:Cx}(ok:X.Ok)(e:X.base.get? b=some o):b∉X.fs:=λZ=>by have:=(ok.Vq.mem Z).1;rw[e]at this;cases this
theorem Inv.bs(I:Inv X pins σ H s):∀b o,X.base.get? b=some o->s.heap.get? b=some o/\H b=none:=λb o e =>
 ⟨I.base.keep b o (I.ok.bs b o e).1 (I.ok.bs b o e).2 (I.ok.bf6 e) (I.ok.aps b o e),I.base.free b o (I.ok.bs b o e).1 (I.ok.bs b o e).2 (I.ok.aps b o e)⟩
def Inv.bk(I:Inv X pins σ H s):∀b o,X.base.get? b=some o->s.heap.get? b=some o:=λb o e=>(I.bs b o e).1
theorem Inv.mod(I:Inv X pins σ H s):Mod X.K X.mg X.base:=I.ok.mod
def Inv.T8(I:Inv X pins σ H s):X.K.In s.heap:=I.ok.mod.kin.keeps I.bk
theorem Inv.lt(I:Inv X pins σ H s):X.env.locals<s.heap.objs.size:=let ⟨_,hn,_⟩:=I.loc;hn.lt
def Inv.sz(I:Inv X pins σ H s):X.s₀.heap.objs.size<=s.heap.objs.size:=gb I.ok.above (yh I.lt)
def Inv.apt(I:Inv X pins σ H s)(h:s.heap.objs.size<=a):a∉X.fs:=λZ=>by obtain⟨_,o,G,_⟩:=I.ok.Vq.mem Z;exact absurd (il (aq G) (gb I.sz h)) (qd _)
def Inv.cne(I:Inv X pins σ H s):∀x c,X.env.cells.lookup x=some c->c≠X.env.locals:=λx c e z=>by obtain⟨v,o,G,Z⟩:=I.cell x c e;obtain⟨m,⟨o',es,ep,L,U,_⟩,_⟩:=I.loc;rw[z,L]at G;cases G;rw[U]at Z;cases Z
theorem Inv.Vq(I:Inv X pins σ H s):s.heap.FunFrames X.base X.outer:=by
 have all:∀(l:List Env),(∀b∈frs l,b∈X.fs)->X.s₀.heap.FunFrames X.base l->s.heap.FunFrames X.base l:=by
  intro l
  induction l with
  |nil=>intro _ _;trivial
  |cons qq r ih =>
   intro hs hl;obtain⟨hk,⟨L,o,G,hn,ho,hd⟩,hr⟩:=hl;have U:L∈X.fs:=hs L (by unfold frs;rw[List.filterMap_cons,G];exact dh);obtain⟨sl,e⟩:=I.base.slot L o ho (I.ok.frf L U) U λz=>I.ok.avt L z U
   exact⟨hk,⟨L,_,G,hn,e,hd⟩,ih (λb Z=>hs b (by unfold frs;rw[List.filterMap_cons,G];exact bx _ Z)) hr⟩
 exact all X.outer (λ_ Z=>Z) I.ok.Vq
theorem Inv.stack(I:Inv X pins σ H s):s.heap.FunFrames X.base X.stack:=by
 rcases I.ok.stk with e|⟨e,hf⟩
 .rw[e];exact I.Vq
 .rw[e]
  obtain⟨m,Z,_⟩:=I.loc;refine .cons (by rw[I.ok.kind];decide) hf Z ?_ I.Vq;exact Heap.get?_none_of_le (gb I.ok.bsz I.ok.above)
def Inv.abu(I:Inv X pins σ H s):∀b∈frs X.stack,b∈X.env.locals::X.fs:=λb Z=>by
 rcases I.ok.stk with e|⟨e,hf⟩
 .rw[e]at Z;exact bx _ Z
 .rw[e]at Z
  unfold frs at Z;rw[List.filterMap_cons,hf]at Z;exact Z
def Inv.ai6(I:Inv X pins σ H s):∀b∈frs X.stack,H b=none:=λb Z=>by
 rcases cj.mp (I.abu b Z)with e|Z
 .rw[e];exact I.free
 .obtain⟨_,o,G,_⟩:=I.ok.Vq.mem Z
  exact I.base.free b o G (I.ok.frf b Z) λz=>I.ok.avt b z Z
def Inv.step{ch:Xt}(I:Inv X pins σ H s)(G:∀b∈ch,(b∈X.ex\/X.s₀.heap.objs.size<=b)/\b≠X.env.locals/\(∀x c,X.env.cells.lookup x=some c->c≠b)/\∀p∈X.pn++pins,p.1≠b)(keep:∀b o,b≠X.env.locals->b∉X.fs->b∉ch->s.heap.get? b=some o->H b=none->h'.get? b=some o)(qk:∀b o,b≠X.env.locals->b∈X.fs->b∉ch->s.heap.get? b=some o->H b=none->∃sl,h'.get? b=some { o with slots:=sl })(free:∀b o,b∉ch->s.heap.get? b=some o->H b=none->H' b=none)(qv:∀b o,b∉ch->s.heap.get? b=some o->∃o',h'.get? b=some o')(Xh:∀b xs,H b=some (.tup xs)->H' b=some (.tup xs))(q4:∀b o u,H b=some (.Ox o u)->H' b=some (.Ox o u))(q2:∀b ps,H b=some (.tbl ps)->∃q1,H' b=some (.tbl (ps++q1)))(ns:∀m,s.heap.Ns X.env.locals m->h'.Ns X.env.locals m)(Ad:Pu X.prog X.w H' h')(hg:AllBare g') :
 Inv X pins σ H' { s with heap:=h',gens:=g',drawn:=d',toks:=t' }:=by
 have q0:∀b o,X.s₀.heap.get? b=some o->b≠X.env.locals:=λb o e=>dq (il (aq e) I.ok.above)
 have qq:∀b o,X.s₀.heap.get? b=some o->b∉X.ex->b∉ch:=λb o e Z hb=>by
  rcases(G b hb).1 with z|z
  .exact Z z
  .exact absurd (il (aq e) z) (qd _)
 have U:∀x c,X.env.cells.lookup x=some c->∀v,s.heap.IsCell c v->h'.IsCell c v:=λx c e v ⟨o,ho,hd⟩=>by
  have L:c∉ch:=λz=>(G c z).2.2.1 x c e rfl
  by_cases hc:c∈X.fs
  .obtain⟨sl,q⟩:=qk c o (I.cne x c e) hc L ho (I.Ob x c e)
   exact⟨_,q,hd⟩
  .exact⟨o,keep c o (I.cne x c e) hc L ho (I.Ob x c e),hd⟩
 refine⟨I.ok,I.os,hg,⟨λb o e n hb Z=>?_,λb o e n hb Z=>?_,λb o e n Z=>?_,λb o e Z=>?_,λb xs e=>Xh b xs (I.base.Xh b xs e),λb o xs e=>q4 b o xs (I.base.abr b o xs e),λb ps e=>?_⟩,?_,λx c e=>?_,?_,λx c e=>?_,λp hp=>?_,Ad,I.len⟩
 .exact keep b o (q0 b o e) hb (qq b o e Z) (I.base.keep b o e n hb Z) (I.base.free b o e n Z)
 .obtain⟨sl,e1⟩:=I.base.slot b o e n hb Z
  obtain⟨q3,e2⟩:=qk b _ (q0 b o e) hb (qq b o e Z) e1 (I.base.free b o e n Z);exact⟨q3,e2⟩
 .obtain⟨o',e1⟩:=I.base.there b o e Z
  exact free b o' (qq b o e Z) e1 (I.base.free b o e n Z)
 .obtain⟨o',e1⟩:=I.base.there b o e Z
  exact qv b o' (qq b o e Z) e1
 .obtain⟨m1,e1⟩:=I.base.aeb b ps e
  obtain⟨m2,e2⟩:=q2 b _ e1;exact⟨m1++m2,by rw[e2,Array.append_assoc]⟩
 .obtain⟨m,hn,hl⟩:=I.loc
  refine⟨m,ns m hn,λi x v e1 e2 e3=>?_⟩;obtain⟨u,r,l⟩:=hl i x v e1 e2 e3;refine⟨u,r,?_⟩;rcases l with l|⟨k,c,e,z⟩
  .exact .inl l
  .exact .inr ⟨k,c,e,U x c e _ z⟩
 .obtain⟨v,z⟩:=I.cell x c e
  exact⟨v,U x c e v z⟩
 .obtain⟨m,⟨o,_,_,ho,_⟩,_⟩:=I.loc
  exact free _ o (λz=>(G _ z).2.1 rfl) ho I.free
 .obtain⟨v,o,ho,hd⟩:=I.cell x c e
  exact free c o (λz=>(G c z).2.2.1 x c e rfl) ho (I.Ob x c e)
 .obtain⟨e,n,ne,nf,d⟩:=I.pin p hp
  have L:p.1∉ch:=λz=>(G p.1 z).2.2.2 p hp rfl
  exact⟨keep p.1 p.2 ne nf L e n,free p.1 p.2 L e n,ne,nf,d⟩
def Inv.un(I:Inv X pins σ H s)(u:Un X.fs [] H H' s.heap h')(Ad:Pu X.prog X.w H' h'):Inv X pins σ H' { s with heap:=h',toks:=t' }:=by
 obtain⟨m,⟨o,es,ep,ho,r⟩,_⟩:=id I.loc;obtain⟨sl,hL⟩:=u.any ho I.free (by simp);exact I.step (g':=s.gens) (d':=s.drawn) (ch:=[]) (λ_ z=>nomatch z) (λb o _ Z _ e n=>u.keep b o e n Z (by simp)) (λb o _ Z _ e n=>u.slot b o e n Z (by simp)) (λb o _ e n=>u.free b o e n (by simp)) (λb o _ e=>u.there b o e (by simp)) u.Xh u.abr u.aeb (λm' hm=>by
  obtain⟨o',U,G,L,r'⟩:=hm;rw[ho]at L;cases L;exact⟨_,U,G,hL,r'⟩) Ad I.bare
def Inv.call(I:Inv X pins σ H s)(u:Un (frs X.stack) ch H H' s.heap h')(Ad:Pu X.prog X.w H' h')(hg:AllBare g')(G:∀b∈ch,(b∈X.ex\/X.s₀.heap.objs.size<=b)/\b≠X.env.locals/\(∀x c,X.env.cells.lookup x=some c->c≠b)/\∀p∈X.pn++pins,p.1≠b) :
 Inv X pins σ H' { s with heap:=h',gens:=g',drawn:=d',toks:=t' }:=by
 obtain⟨m,⟨o,es,ep,ho,r⟩,_⟩:=id I.loc;obtain⟨sl,L⟩:=u.any ho I.free λz=>(G _ z).2.1 rfl
 exact I.step (ch:=ch) G (λb o L hb Z e n=>u.keep b o e n (λz=>(cj.mp (I.abu b z)).elim L hb) Z) (λb o _ _ Z e n=>u.any e n Z) (λb o Z e n=>u.free b o e n Z) (λb o Z e=>u.there b o e Z) u.Xh u.abr u.aeb (λm' hm=>by
  obtain⟨o',qq,U,Tf,r'⟩:=hm;rw[ho]at Tf;cases Tf;exact⟨_,qq,U,L,r'⟩) Ad hg
def Inv.turned(I:Inv X pins σ H s)(k:∀b o,b≠it->s.heap.get? b=some o->h'.get? b=some o)(L:H it=none)(U:it≠X.env.locals)(h1:it∈X.ex\/X.s₀.heap.objs.size<=it)(h2:∀x c,X.env.cells.lookup x=some c->c≠it)(h3:∀p∈X.pn++pins,p.1≠it):Inv X pins σ H { s with heap:=h',toks:=t' }:=by
 have G:∀b u,H b=some u->b≠it:=λb u e z=>by rw[z,L]at e;cases e
 refine I.step (g':=s.gens) (d':=s.drawn) (ch:=[it]) (λb hb=>?_) (λb o _ _ Z e _=>k b o (λz=>Z (by simp[z])) e) (λb o _ _ Z e _=>⟨o.slots,k b o (λz=>Z (by simp[z])) e⟩) (λ_ _ _ _ n=>n)
  (λb o Z e=>⟨o,k b o (λz=>Z (by simp[z])) e⟩) (λ_ _ e=>e) (λ_ _ _ e=>e) (λb ps e=>⟨#[],by rw[e];simp⟩) (λm hm=>?_) (λb u e=>?_) I.bare
 .have e:b=it:=by simpa using hb
  subst e;exact⟨h1,U,h2,h3⟩
 .obtain⟨o,es,ep,ho,r⟩:=hm
  exact⟨o,es,ep,k _ o (kj U) ho,r⟩
 .refine(I.Ad b u e).stay (λc v Z q=>k c v ?_ q) (λ_ q=>q) λ_ _ q=>q
  rcases Z with z|z
  .rw[z];exact G b u e
  .exact G c _ z
def Inv.tok(I:Inv X pins σ H s)(t:Nat):Inv X pins σ H { s with toks:=t }:=I.un (h':=s.heap) (t':=t) Un.refl I.Ad
theorem Inv.kept(I:Inv X pins σ H s)(k:∀b u,s.heap.get? b=some u->h'.get? b=some u):Inv X pins σ H { s with heap:=h',toks:=t' }:=I.un (Un.kept k) (I.Ad.kept k)
theorem Inv.laid(I:Inv X pins σ H s)(k:∀b u,s.heap.get? b=some u->h'.get? b=some u)(Z:s.heap.objs.size<=a)(new:zj X.prog X.w (upd H a o) h' a o) :
 Inv X pins σ (upd H a o) { s with heap:=h',toks:=t' }:=I.un (Un.laid k Z (I.Ad.fresh Z)) (I.Ad.laid k Z new)
theorem Inv.write(I:Inv X pins σ H s)(U:Mut (H x))(L:e=x\/H e=some (.own x))(k:∀b u,b≠e->s.heap.get? b=some u->G.get? b=some u)(Z:∃u,G.get? e=some u)(new:zj X.prog X.w (upd H x o) G x o):Inv X pins σ (upd H x o) { s with heap:=G,toks:=t' }:=I.un (Un.write U L k Z) (I.Ad.write U L k Z new)
def Inv.weak(I:Inv X pins σ H s)(Z:σ'.length=σ.length)(w:∀(i:Nat) v,σ'[i]?=some (some v)->σ[i]?=some (some v)):Inv X pins σ' H s:=
 ⟨I.ok,I.os,I.bare,I.base,let ⟨m,hn,hl'⟩:=I.loc;⟨m,hn,λi x v L U G=>hl' i x v L (w i v U) G⟩,I.cell,I.free,I.Ob,I.pin,I.Ad,Z.trans I.len⟩
def Inv.Ha(I:Inv X pins σ H s)(h:∀p∈ai7,s.heap.get? p.1=some p.2/\H p.1=none/\p.1≠X.env.locals/\p.1∉X.fs/\∀v,p.2.data≠.cell v):Inv X ai7 σ H s:=
 ⟨I.ok,I.os,I.bare,I.base,I.loc,I.cell,I.free,I.Ob,λp Z=>(du.mp Z).elim (λz=>I.pin p (xg _ z)) (h p),I.Ad,I.len⟩
def aec{N:X9}(hN:N.Nodup){i:Nat}(a:N[i]?=some x)(b:N[j]?=some x):i=j:=by obtain⟨U,Z⟩:=ak.mp a;obtain⟨L,G⟩:=ak.mp b;exact(yr hN).mp (Z.trans G.symm)
def alp(I:Inv X pins σ H s)(hN:X.N.Nodup)(hi:X.N[i]?=some x)(hx:Loc X.env.scope x)(r:RelV v u)(h:∀s',Inv X pins (σ.set i (some v)) H s'->(∃a,Heap.SameBut a s.heap s'.heap/\(a=X.env.locals\/X.env.cells.lookup x=some a))->Q () s')(hf:X.fn x=true\/X.env.scope.names.lookup x=some .local:=by first|exact .inl rfl|exact .inr rfl|assumption):wpAny M A (storeName X.env x u) Q E s:=by
 obtain⟨m,hn,hl⟩:=id I.loc;have q2:(X.env.scope.kind==.class||(X.env.scope.kind==.module&&X.env.locals != X.env.globals))=false:=by rw[I.ok.kind];rfl
 have qq:i < σ.length:=by rw[I.len];exact(ak.mp hi).1
 have cne:=I.cne;have U:∀{a:Addr}{h':Heap},(∃o,s.heap.get? a=some o/\H a=none)->Heap.SameBut a s.heap h'->Pu X.prog X.w H h':=fun{a h'} ha Z b ob e=>by
  obtain⟨_,_,Va⟩:=ha;refine(I.Ad b ob e).stay (λc w' L q=>(Z.2 c ?_).trans q) (λ_ q=>q) λ_ _ q=>q
  rintro rfl;rcases L with rfl|L
  .rw[Va]at e;cases e
  .rw[Va]at L;cases L
 rcases hx with hk|hk
 .refine wpAny_storeName_local hk hn (λh' Q9 Z=>?_) q2
  obtain⟨oL,_,_,q3,_⟩:=id hn;refine h _ ⟨I.ok,I.os,I.bare,⟨λb o e n hb hx=>?_,λb o e n hb hx=>?_,I.base.free,λb o e hx=>?_,I.base.Xh,I.base.abr,I.base.aeb⟩,⟨_,Q9,λj y v' G e2 e3=>?_⟩,λy c e=>?_,I.free,I.Ob,λp hp=>?_,U ⟨oL,q3,I.free⟩ Z,by simpa using I.len⟩ ⟨_,Z,.inl rfl⟩
  .exact(Z.2 b (dq (il (aq e) I.ok.above))).trans (I.base.keep b o e n hb hx)
  .obtain⟨sl,G⟩:=I.base.slot b o e n hb hx
   exact⟨sl,(Z.2 b (dq (il (aq e) I.ok.above))).trans G⟩
  .obtain⟨o',G⟩:=I.base.there b o e hx
   exact⟨o',(Z.2 b (dq (il (aq e) I.ok.above))).trans G⟩
  .by_cases hj:j=i
   .subst hj
    rw[hi]at G;cases G;rw[z6 qq]at e2;cases e2;exact⟨u,r,.inl ⟨hk,by simp⟩⟩
   .rw[xf (kj hj)]at e2
    obtain⟨u',r',q⟩:=hl j y v' G e2 e3;refine⟨u',r',?_⟩;rcases q with⟨k,e⟩|⟨k,c,e,z⟩
    .refine .inl ⟨k,?_⟩
     have:y≠x:=λe=>hj (aec hN G (e▸hi))
     simp[this,e]
    .exact .inr ⟨k,c,e,z.sameBut Z (cne y c e)⟩
  .obtain⟨w',z⟩:=I.cell y c e
   exact⟨w',z.sameBut Z (cne y c e)⟩
  .obtain⟨e,n,ne,nf,d⟩:=I.pin p hp
   exact⟨(Z.2 p.1 ne).trans e,n,ne,nf,d⟩
 .have qk:X.fn x=true:=by
   rcases hf with z|z
   .exact z
   .rw[z]at hk;cases hk
  obtain⟨c,L⟩:=I.ok.has x (.inl hk);obtain⟨w',z⟩:=I.cell x c L;refine wpAny_storeName_cell I.ok.kind hk L z (λh' qv Z=>?_);obtain⟨oc,q0,q4⟩:=id z;refine h { s with heap:=h' } ⟨I.ok,I.os,I.bare,⟨λb o e n hb hx=>?_,λb o e n hb hx=>?_,I.base.free,λb o e hx=>?_,I.base.Xh,I.base.abr,I.base.aeb⟩,⟨m,hn.sameBut Z (kj (cne x c L)),λj y v' G e2 e3=>?_⟩,λy c' e=>?_,I.free,I.Ob,λp hp=>?_,U ⟨oc,q0,I.Ob x c L⟩ Z,by simpa using I.len⟩ ⟨c,Z,.inr L⟩
  .exact(Z.2 b (dq (il (aq e) (I.ok.cab x c qk L)))).trans (I.base.keep b o e n hb hx)
  .obtain⟨sl,G⟩:=I.base.slot b o e n hb hx
   exact⟨sl,(Z.2 b (dq (il (aq e) (I.ok.cab x c qk L)))).trans G⟩
  .obtain⟨o',G⟩:=I.base.there b o e hx
   exact⟨o',(Z.2 b (dq (il (aq e) (I.ok.cab x c qk L)))).trans G⟩
  .by_cases hj:j=i
   .subst hj
    rw[hi]at G;cases G;rw[z6 qq]at e2;cases e2;exact⟨u,r,.inr ⟨.inl hk,c,L,qv⟩⟩
   .rw[xf (kj hj)]at e2
    obtain⟨u',r',q⟩:=hl j y v' G e2 e3;refine⟨u',r',?_⟩;rcases q with q|⟨k,c',e,z'⟩
    .exact .inl q
    .refine .inr ⟨k,c',e,z'.sameBut Z ?_⟩
     rintro rfl;exact hj (aec hN G (I.ok.inj _ _ _ e L▸hi))
  .by_cases q1:c'=c
   .subst q1;exact⟨_,qv⟩
   .obtain⟨w2,z2⟩:=I.cell y c' e
    exact⟨w2,z2.sameBut Z q1⟩
  .obtain⟨e,n,ne,nf,d⟩:=I.pin p hp
   refine⟨(Z.2 p.1 ?_).trans e,n,ne,nf,d⟩;intro q;rw[q,q0]at e;have q':oc=p.2:=ie e;exact d w' (by rw[<-q'];exact q4)
def apv(I:Inv X pins σ H s)(hN:X.N.Nodup)(hi:X.N[i]?=some x)(L:Loc X.env.scope x)(r:RelV v u)(h:∀Z,Inv X pins (σ.set i (some v)) H Z->Q () Z)(U:X.fn x=true\/X.env.scope.names.lookup x=some .local:=by first|exact .inl rfl|exact .inr rfl|assumption):wpAny M A (storeName X.env x u) Q E s:=
 alp I hN hi L r (λZ G _=>h Z G) U
def Inv.call'(I:Inv X pins σ H s)(ho:s'.os=s.os)(u:Un (frs X.stack) ch H L s.heap s'.heap)(Ad:Pu X.prog X.w L s'.heap)(hg:AllBare s'.gens)(Z:∀b∈ch,(b∈X.ex\/X.s₀.heap.objs.size<=b)/\b≠X.env.locals/\(∀x c,X.env.cells.lookup x=some c->c≠b)/\∀p∈X.pn++pins,p.1≠b):Inv X pins σ L s':=by obtain⟨h',g',U,G,o'⟩:=s';have e:o'=s.os:=ho;subst e;exact I.call (g':=g') (t':=G) (d':=U) u Ad hg Z
abbrev XK:=Value->Option Addr->Hp->Prop
abbrev St:=List (Option V)
abbrev VK:=V->Hp->Prop
abbrev TE:=St->Hp->VK->Prop
abbrev TT:=St->Hp->(Bool->Hp->Prop)->Prop
abbrev TA:=St->Hp->(List V->Hp->Prop)->Prop
structure Ends where
 nx:St->Hp->Prop
 rt:VK
 bk:St->Hp->Prop:=λ_ _=>False
 ct:St->Hp->Prop:=λ_ _=>False
abbrev TS:=Ends->St->Hp->Prop
def EP(X:Cx)(Z:Zp)(L:St)(Q:VK)(u:Value)(U:Shared):Prop:=∃v G,Inv X Z L G U/\RelV v u/\Q v G
def TP(X:Cx)(Z:Zp)(L:St)(Q:Bool->Hp->Prop)(b:Bool)(U:Shared):Prop:=∃G,Inv X Z L G U/\Q b G
def AP(X:Cx)(Z:Zp)(σ:St)(Q:List V->Hp->Prop)(us:Zl)(L:Shared):Prop:=∃G U,Inv X Z σ U L/\Vals G us/\Q G U
def SP(X:Cx)(G:Zp)(D:Ends)(f:Flow)(L:Shared):Prop:=
 match f with
 |.next=>∃Z U,Inv X G Z U L/\D.nx Z U|.brk=>∃Z U,Inv X G Z U L/\D.bk Z U|.cont=>∃Z U,Inv X G Z U L/\D.ct Z U|.ret u=>∃v Z U,Inv X G Z U L/\RelV v u/\D.rt v U
def PE(X:Cx)(e:Expr)(t:TE):Prop:=
 ∀(Z:Zp)(s:Shared)(G:St)(H:Hp)(Q:VK),Inv X Z G H s->t G H Q->wpAny (model X.prog X.w) X.A (eval e X.env) (EP X Z G Q) X.xe s
def PT(X:Cx)(e:Expr)(t:TT):Prop:=
 ∀(Z:Zp)(s:Shared)(G:St)(H:Hp)(Q:Bool->Hp->Prop),Inv X Z G H s->t G H Q->wpAny (model X.prog X.w) X.A (isTrue e X.env (eval e X.env)) (TP X Z G Q) X.xe s
def PW(X:Cx)(e:Expr)(t:TT):Prop:=
 ∀(G:Sem Value)(Z:Zp)(s:Shared)(U:St)(H:Hp)(Q:Bool->Hp->Prop),Inv X Z U H s->t U H Q->wpAny (model X.prog X.w) X.A (isTrue e X.env G) (TP X Z U Q) X.xe s
def PW.pt(h:PW X e t):PT X e t:=h _
def PA(X:Cx)(U:X0)(t:TA):Prop:=
 ∀(pos:Pos)(Z:Zp)(s:Shared)(G:St)(H:Hp)(Q:List V->Hp->Prop),Inv X Z G H s->t G H Q->wpAny (model X.prog X.w) X.A (spliced (backTo pos (starEach U X.env))) (AP X Z G Q) X.xe s
def PS(X:Cx)(U:Stmt)(t:TS):Prop:=
 ∀(Z:Zp)(s:Shared)(G:St)(H:Hp)(D:Ends),Inv X Z G H s->t D G H->wpAny (model X.prog X.w) X.A (exec U X.env) (SP X Z D) X.xe s
def R9(X:Cx)(U:List Stmt)(t:TS):Prop:=
 ∀(Z:Zp)(s:Shared)(G:St)(H:Hp)(D:Ends),Inv X Z G H s->t D G H->wpAny (model X.prog X.w) X.A (execs U X.env) (SP X Z D) X.xe s
def Bf(h:wpAny M A t Q E s)(Z:∀a s,Q a s->G a s):wpAny M A t G E s:=iz h Z λ_ _ x=>x
end L2
namespace L2
open PySem PySem.Spec PyProof.Rows
def bga(i:Nat):TE:=λZ H Q=>∃v,Z[i]?=some (some v)/\Q v H
def tC(v:V):TE:=λ_ H Q=>Q v H
def a2s(hN:X.N[i]?=some x)(hv:Vis X.env.scope x)(hd:(x==("__debug__": Str))=false:=by decide)(L:(x==("__classdict__": Str))=false:=by decide):PE X (.Name x pos) (bga i):=by
 intro U s σ H Q I h;obtain⟨v,e,h⟩:=h;obtain⟨m,hn,hl⟩:=I.loc;obtain⟨u,r,l⟩:=hl i x v hN e hv;have fin:EP X U σ Q u s:=⟨v,H,I,r,h⟩;rcases l with⟨Z,hm⟩|⟨Z,c,hc,G⟩
 .exact wpAny_Name (wpAny_loadName_local I.ok.kind Z hn hm fin) hd
 .rcases Z with Z|Z
  .exact wpAny_Name (wpAny_loadName_cell I.ok.kind Z hc G fin) hd
  .exact wpAny_Name (wpAny_loadName_free I.ok.kind Z hc G fin L) hd
def a2t:PE X (.Constant (.int i) j pos) (tC (.int i)):=λ_ _ _ H _ I h=>wpAny_Constant_int ⟨.int i,H,I.tok _,⟨_,rfl⟩,h⟩
def azs:PE X (.Constant (.bool b) j pos) (tC (.bl b)):=λ_ _ _ H _ I h=>Constant_bool ⟨.bl b,H,I,rfl,h⟩
def Gl(X:Cx)(x:Str):Prop:=X.env.kindOf x=some .globalImplicit
def abv(I:Inv X pins σ H s)(Z:Gl X x)(U:X.mg x=some u)(h:Q u s)(G:(x==("__debug__": Str))=false:=by decide):wpAny (model X.prog X.w) X.A (eval (.Name x pos) X.env) Q E s:=
 Calls.Name_function_global I.ok.kind Z (Calls.loadGlobal_global (by rw[I.ok.glob];exact I.mod.glob.keeps I.bk) U h) G
def Cg(I:Inv X pins σ H s)(L:Gl X x)(hm:X.mg x=none)(Z:bootBuiltins x=some u)(h:Q u s)(G:x≠"__name__":= by decide)(hd:(x==("__debug__": Str))=false:=by decide):wpAny (model X.prog X.w) X.A (eval (.Name x pos) X.env) Q E s:=by obtain⟨mb,U,h2⟩:=I.mod.blt;exact Calls.Name_function_global I.ok.kind L (Calls.loadGlobal_builtin (by rw[I.ok.glob];exact I.mod.glob.keeps I.bk) hm (by rw[I.ok.blt];exact U.keeps I.bk) ((h2 x G).trans Z) h) hd
def avu(Z:Gl X x)(U:X.mg x=some u)(r:RelV v u)(G:(x==("__debug__": Str))=false:=by decide):PE X (.Name x pos) (tC v):=
 λ_ _ _ H _ I h=>abv I Z U ⟨v,H,I,r,h⟩ G
def PC(X:Cx)(op:CmpOp)(a b:Expr)(t:TE):Prop:=
 ∀(Z:Zp)(s:Shared)(L:St)(H:Hp)(Q:VK),Inv X Z L H s->t L H Q ->
  wpAny (model X.prog X.w) X.A (eval a X.env) (λv U=>wpAny (model X.prog X.w) X.A (eval b X.env) (λu G=>wpAny (model X.prog X.w) X.A (compareOp op v u) (EP X Z L Q) X.xe G) X.xe U) X.xe s
def aed(b:Expr)(h:op≠.In)(U:op≠.NotIn):behindInMarks op b=false:=by
 have Z:(op==CmpOp.In)=false:=by cases op<;>first|rfl|exact absurd rfl h
 have G:(op==CmpOp.NotIn)=false:=by cases op<;>first|rfl|exact absurd rfl U
 cases b<;>simp[behindInMarks,Z,G]
def tB(t:TE):TT:=λG H Q=>t G H λx Z=>∃c,x=.bl c/\Q c Z
def a2u(h:PC X op a b t)(U:behindInMarks op b=false:=by first|exact aed _ (by decide) (by decide)|rfl):PE X (.Compare a [op] [b] pos) t:=λZ s L H Q I G=>wpAny_Compare1 (h Z s L H Q I G) U
def a2v(h:PC X op a b t)(G:behindInMarks op b=false:=by first|exact aed _ (by decide) (by decide)|rfl):PT X (.Compare a [op] [b] pos) (tB t):=by intro Z s L H Q I U;refine wpAny_isTrue_Compare1 (Bf (h Z s L H _ I U) λv s1 G=>Bf G λu s2 h2=>Bf h2 λc s3 ⟨x,H1,I1,r1,q1⟩=>?_) G;obtain⟨d,rfl,q⟩:=q1;cases r1;exact jn ⟨H1,I1,q⟩
def a2w(h:PE X e t)(U:∀Z,isTrue e X.env Z=(do let v<-Z;standAt e.pos;holding [v] (truthy v)):=by intro _;rfl):PT X e (tB t):=by intro G s L H Q I hw;refine isTrue_plain (Bf (h G s L H _ I hw) λv s1 ⟨x,H1,I1,r1,q1⟩=>?_) (U _);obtain⟨d,rfl,q⟩:=q1;cases r1;exact jn ⟨H1,I1,q⟩
def bgb(t u:TT):TT:=λG H Q=>t G H λc Z=>if c=true then u G Z Q else Q false Z
def tOr(t u:TT):TT:=λG H Q=>t G H λc Z=>if c=true then Q true Z else u G Z Q
def bgc(t:TT):TT:=λG H Q=>t G H λc Z=>Q (!c) Z
def avv(G:PT X a tA):PW X (.BoolOp .And [a] pos) tA:=by
 intro wh Z s U H Q I h;refine isTrue_and (Bf (G Z s U H Q I h) λc L e=>?_);cases c with
 |true=>exact isTrue_and_nil e|false=>exact e
def a2x(G:PT X a tA):PW X (.BoolOp .Or [a] pos) tA:=by
 intro wh Z s U H Q I h;refine isTrue_or (Bf (G Z s U H Q I h) λc L e=>?_);cases c with
 |false=>exact isTrue_or_nil e|true=>exact e
def a2y{G:X0}(ha:PT X a tA)(hb:PW X (.BoolOp .And (b::G) pos) tB'):PW X (.BoolOp .And (a::b::G) pos) (bgb tA tB'):=by
 intro wh Z s σ H Q I h;refine isTrue_and (Bf (ha Z s σ H _ I h) λc s1 z_=>?_);obtain⟨H1,U,L⟩:=z_;cases c with
 |true=>exact hb wh Z s1 σ H1 Q U L|false=>exact⟨H1,U,L⟩
def a9n{G:X0}(ha:PT X a tA)(hb:PW X (.BoolOp .Or (b::G) pos) tB'):PW X (.BoolOp .Or (a::b::G) pos) (tOr tA tB'):=by
 intro wh Z s σ H Q I h;refine isTrue_or (Bf (ha Z s σ H _ I h) λc s1 z_=>?_);obtain⟨H1,U,L⟩:=z_;cases c with
 |true=>exact⟨H1,U,L⟩|false=>exact hb wh Z s1 σ H1 Q U L
def a2z(L:PT X a tA):PT X (.UnaryOp .Not a pos) (bgc tA):=by intro Z s U H Q I h;exact isTrue_not (L Z s U H (λc G=>Q (!c) G) I h)
def a9o(L U:TE):TE:=λG H Q=>L G H λx Z=>∃c,x=.bl c/\if c=true then U G Z Q else Q (.bl false) Z
def bge(L U:TE):TE:=λG H Q=>L G H λx Z=>∃c,x=.bl c/\if c=true then Q (.bl true) Z else U G Z Q
def a9p(U:TE):TE:=λG H Q=>U G H λx Z=>∃c,x=.bl c/\Q (.bl (!c)) Z
def a3a{G:X0}(ha:PE X a ta)(hb:PE X (.BoolOp .And (b::G) pos) tb):PE X (.BoolOp .And (a::b::G) pos) (a9o ta tb):=by
 intro Z s σ H Q I h;refine BoolOp_and (Bf (ha Z s σ H _ I h) λv s1 z_=>?_);obtain⟨x,H1,L,r1,U⟩:=z_;obtain⟨c,rfl,U⟩:=U;cases r1;refine jn ?_;cases c with
 |true=>exact hb Z s1 σ H1 Q L U|false=>exact⟨.bl false,H1,L,rfl,U⟩
def a9q{G:X0}(ha:PE X a ta)(hb:PE X (.BoolOp .Or (b::G) pos) tb):PE X (.BoolOp .Or (a::b::G) pos) (bge ta tb):=by
 intro Z s σ H Q I h;refine BoolOp_or (Bf (ha Z s σ H _ I h) λv s1 z_=>?_);obtain⟨x,H1,L,r1,U⟩:=z_;obtain⟨c,rfl,U⟩:=U;cases r1;refine jn ?_;cases c with
 |false=>exact hb Z s1 σ H1 Q L U|true=>exact⟨.bl true,H1,L,rfl,U⟩
def a3b(ha:PE X a ta):PE X (.UnaryOp .Not a pos) (a9p ta):=by intro Z s σ H Q I h;refine UnaryOp_ (Bf (ha Z s σ H _ I h) λv s1 z_=>?_);obtain⟨x,H1,U,L,G⟩:=z_;obtain⟨c,rfl,G⟩:=G;cases L;exact not_of (jn ⟨.bl (!c),H1,U,rfl,G⟩)
def tIf(t:TT)(L U:TE):TE:=λZ H Q=>t Z H λc G=>if c=true then L Z G Q else U Z G Q
def apw(hc:PT X c tA)(ha:PE X a ta)(hb:PE X b tb):PE X (.IfExp c a b pos) (tIf tA ta tb):=by
 intro Z s G H Q I h;refine wpAny_IfExp (Bf (hc Z s G H _ I h) λd U z_=>?_);obtain⟨H1,L,q1⟩:=z_;cases d with
 |true=>exact ha Z U G H1 Q L q1|false=>exact hb Z U G H1 Q L q1
end L2
namespace L2
open PySem PySem.Spec PyProof.Rows
def Ie(K:Fg)(H:Hp)(a:Addr)(G:List V):Prop:=
 Rd H a (.lst G) \/
  ∃(o:Obj)(Z:Q1)(n:Nat),K.lookup a=some o/\o.cls=.type "list"/\o.dict=none/\o.data=.seq Z n/\Z.size<=sizeLine/\Vals G Z.toList
def Lq(K:Fg)(H:Hp)(a:Addr)(G:List V):Prop:=
 Rd H a (.tup G) \/
  ∃(o:Obj)(Z:Q1)(n:Nat),K.lookup a=some o/\o.cls=.type "tuple"/\o.data=.seq Z n/\Z.size<=sizeLine/\Vals G Z.toList
noncomputable def bgf:Value->Option V
 |.none=>some .non|.bool b=>some (.bl b)|.int i _=>some (.int i)|.str x _=>some (.str x)|.bytes b _=>some (.byt b)|.float b _=>some (.flt b)|.ref a=>some (.ref a)|.type n=>some (.ty n)|_=>none
def RelV.abs(r:RelV x u):bgf u=some x:=by
 cases x with
 |non=>cases r;rfl|bl _=>cases r;rfl|int _=>obtain⟨t,rfl⟩:=r;rfl
 |str _=>obtain⟨t,rfl⟩:=r;rfl
 |byt _=>obtain⟨t,rfl⟩:=r;rfl
 |flt _=>obtain⟨t,rfl⟩:=r;rfl
 |ref _=>cases r;rfl|ty _=>cases r;rfl
def RelV.inj(r:RelV x u)(q:RelV y u):x=y:=ie (r.abs.symm.trans q.abs)
theorem Vals.inj:∀{Z G:List V}{U:Zl},Vals Z U->Vals G U->Z=G
 |_,_,_,.nil,.nil=>rfl|_,_,_,.cons r t,.cons r' t'=>by rw[r.inj r',Vals.inj t t']
def Ie.of{K:Fg}(h:H a=some (.lst xs)):Ie K H a xs:=.inl (.inl h)
def Lq.of{K:Fg}(h:H a=some (.tup xs)):Lq K H a xs:=.inl (.inl h)
def Inv.list(I:Inv X pins σ H s)(h:Ie X.K H a G):∃Z:List Value,Vals G Z/\PlainL s.heap a Z.toArray/\G.length<=sizeLine:=by
 rcases h with h|⟨o,Z,n,hk,hc,hd,hs,hz,r⟩
 .obtain⟨z,Z,n,r,e⟩:=h.ok I.Ad
  exact⟨Z,r,⟨_,n,e,rfl,rfl,rfl⟩,z⟩
 .refine⟨Z.toList,r,⟨o,n,I.T8 a o hk,hc,hd,by simpa using hs⟩,?_⟩
  have e:=r.length;simp only[jr]at e;exact a_ (f_ e) hz
def Inv.tuple(I:Inv X pins σ H s)(h:Lq X.K H a G):∃Z:List Value,Vals G Z/\IsTup s.heap a Z.toArray/\G.length<=sizeLine:=by
 rcases h with h|⟨o,Z,n,hk,hc,hs,hz,r⟩
 .obtain⟨z,Z,r,p⟩:=h.ok I.Ad
  exact⟨Z,r,p.is,z⟩
 .refine⟨Z.toList,r,⟨o,I.T8 a o hk,hc,n,by simpa using hs⟩,?_⟩
  have e:=r.length;simp only[jr]at e;exact a_ (f_ e) hz
def Inv.aee(I:Inv X pins σ H s)(h:Ie X.K H a L)(h':Ie X.K H a ys):L=ys:=by
 obtain⟨xq,r,⟨o,n,e,_,_,d⟩,_⟩:=I.list h;obtain⟨its',U,⟨o',n',G,_,_,Z⟩,_⟩:=I.list h';rw[e]at G;cases G;rw[d]at Z;injection Z with d1 _
 have:xq=its':=by simpa using lg Array.toList d1
 subst this;exact r.inj U
def Inv.Z3(I:Inv X pins σ H s)(h:Lq X.K H a L)(h':Lq X.K H a ys):L=ys:=by
 obtain⟨xq,r,⟨o,e,_,n,d⟩,_⟩:=I.tuple h;obtain⟨its',U,⟨o',G,_,n',Z⟩,_⟩:=I.tuple h';rw[e]at G;cases G;rw[d]at Z;injection Z with d1 _
 have:xq=its':=by simpa using lg Array.toList d1
 subst this;exact r.inj U
noncomputable abbrev Cx.Y7(X:Cx)(E:Y3):Cx:={ X with xe:=E }
abbrev Cx.nox(X:Cx):Cx:=X.Y7 λ_ _=>False
theorem Cx.Ok.Y7{X:Cx}(ok:X.Ok)(E:Y3):(X.Y7 E).Ok:=
 ⟨ok.mod,ok.kind,ok.glob,ok.blt,ok.above,ok.inj,ok.has,ok.cab,ok.hd,ok.frames,ok.stk,ok.exf,ok.bs,ok.bsz,ok.aps,ok.avt,ok.Vq,ok.frf⟩
def Cx.Ok.Oc{X:Cx}(ok:(X.Y7 E).Ok):X.Ok:=
 ⟨ok.mod,ok.kind,ok.glob,ok.blt,ok.above,ok.inj,ok.has,ok.cab,ok.hd,ok.frames,ok.stk,ok.exf,ok.bs,ok.bsz,ok.aps,ok.avt,ok.Vq,ok.frf⟩
theorem Inv.Y7(I:Inv X pins σ H s)(E:Y3):Inv (X.Y7 E) pins σ H s:=⟨I.ok.Y7 E,I.os,I.bare,I.base,I.loc,I.cell,I.free,I.Ob,I.pin,I.Ad,I.len⟩
theorem Inv.Oc(I:Inv (X.Y7 E) pins σ H s):Inv X pins σ H s:=⟨I.ok.Oc,I.os,I.bare,I.base,I.loc,I.cell,I.free,I.Ob,I.pin,I.Ad,I.len⟩
theorem SP.Oc(h:SP (X.Y7 E) pins D f s'):SP X pins D f s':=by
 cases f with
 |next=>obtain⟨Z,G,I,q⟩:=h;exact⟨Z,G,I.Oc,q⟩
 |brk=>obtain⟨Z,G,I,q⟩:=h;exact⟨Z,G,I.Oc,q⟩
 |cont=>obtain⟨Z,G,I,q⟩:=h;exact⟨Z,G,I.Oc,q⟩
 |ret u=>obtain⟨v,Z,G,I,r,q⟩:=h;exact⟨v,Z,G,I.Oc,r,q⟩
theorem R9.nox{G:List Stmt}(h:R9 X.nox G t):R9 X G t:=λZ s L H D I U =>
 iz (h Z s L H D (I.Y7 _) U) (λ_ _ q=>q.Oc) λ_ _ z=>False.elim z
def a9s:TS:=λD Z H=>D.nx Z H
def bgg(t u:TS):TS:=λD Z H=>t { D with nx:=u D } Z H
def avw:R9 X [] a9s:=λ_ _ Z H _ I h=>wpAny_execs_nil ⟨Z,H,I,h⟩
def apx{L:Stmt}{G:List Stmt}(h1:PS X L t)(h2:R9 X G u):R9 X (L::G) (bgg t u):=by
 intro Z s σ H D I h;refine wpAny_execs_cons (Bf (h1 Z s σ H { D with nx:=u D } I h) λf s1 q=>?_);cases f with
 |next =>
  obtain⟨U,H',I',q⟩:=q;exact h2 Z s1 U H' D I' q
 |ret v=>exact q|brk=>exact q|cont=>exact q
def a9t:TS:=λD Z H=>D.ct Z H
def aef:PS X (.Continue pos) a9t:=λ_ _ Z H _ I h=>wpAny_Continue ⟨Z,H,I,h⟩
def Inv.quiet(I:Inv X pins σ H s):interactive X.env=false:=by simp[interactive,I.ok.kind]
def a9u(G:TE):TS:=λD Z H=>G Z H λ_ U=>D.nx Z U
def avx(U:PE X e te)(L:swapsWith e none pos.line X.env=pure false:=by rfl):PS X (.Expr e pos) (a9u te):=by intro Z s G H D I h;exact wpAny_Expr_any (Bf (U Z s G H _ I h) λv s1 ⟨x,H1,I1,r1,q1⟩=>⟨G,H1,I1,q1⟩) I.quiet L
def bgh(Z:TE):TS:=λD G H=>Z G H D.rt
def a3c(U:PE X e L):PS X (.Return (some e) pos) (bgh L):=by intro Z s G H D I h;exact wpAny_Return_some (Bf (U Z s G H _ I h) λv s1 ⟨x,H1,I1,r1,q1⟩=>⟨x,G,H1,I1,r1,q1⟩)
def bgi(c:TT)(t u:TS):TS:=λD Z H=>c Z H λb G=>if b=true then t D Z G else u D Z G
def a9v(hc:PT X c tc)(ha:R9 X a t)(hb:R9 X b u):PS X (.If c a b pos) (bgi tc t u):=by
 intro Z s G H D I h;refine wpAny_If (Bf (hc Z s G H _ I h) λd U z_=>?_);obtain⟨H1,L,q1⟩:=z_;cases d with
 |true=>exact ha Z U G H1 D L q1|false=>exact hb Z U G H1 D L q1
abbrev TG:=V->St->Hp->(St->Hp->Prop)->Prop
abbrev TGs:=List V->St->Hp->(St->Hp->Prop)->Prop
def PG(X:Cx)(Z:Expr)(t:TG):Prop:=
 ∀(G:Zp)(s:Shared)(σ:St)(H:Hp)(v:V)(u:Value)(Q:St->Hp->Prop),Inv X G σ H s->RelV v u->t v σ H Q ->
  wpAny (model X.prog X.w) X.A (assign Z X.env u) (λ_ s'=>∃U L,Inv X G U L s'/\Q U L) X.xe s
def PGs(X:Cx)(ts:X0)(t:TGs):Prop:=
 ∀(Z:Zp)(s:Shared)(σ:St)(H:Hp)(U:List V)(us:Zl)(Q:St->Hp->Prop),Inv X Z σ H s->Vals U us->t U σ H Q ->
  wpAny (model X.prog X.w) X.A (assignInOrder ((assignEach ts X.env).map (·.2)) us) (λ_ s'=>∃G L,Inv X Z G L s'/\Q G L) X.xe s
abbrev a3d:=V->V->V->Hp->(Hp->Prop)->Prop
def a3e(X:Cx)(t:a3d):Prop:=
 ∀(Z:Zp)(s:Shared)(L:St)(H:Hp)(o i v:V)(ov G u:Value)(Q:Hp->Prop),Inv X Z L H s->RelV o ov->RelV i G->RelV v u->t o i v H Q ->
  wpAny (model X.prog X.w) X.A (setItem ov G u) (λ_ s'=>∃U,Inv X Z L U s'/\Q U) X.xe s
def ai8(i:Nat):TG:=λv Z H Q=>Q (Z.set i (some v)) H
def abw(hN:X.N.Nodup)(hi:X.N[i]?=some x)(L:Loc X.env.scope x)(U:X.fn x=true\/X.env.scope.names.lookup x=some .local:=by first|exact .inl rfl|exact .inr rfl|assumption):PG X (.Name x pos) (ai8 i):=by intro Z s σ H v u Q I r h;exact wpAny_assign_Name (apv I hN hi L r (λs' G=>⟨_,H,G,h⟩) U)
def bgj:TGs:=λZ G H Q=>Z=[]/\Q G H
def a9y(t:TG)(u:TGs):TGs:=λG U H Q=>∃v r,G=v::r/\t v U H λZ L=>u r Z L Q
def avy:PGs X [] bgj:=by intro Z s G H U L Q I r h;obtain⟨e,h⟩:=h;subst e;cases r;exact assignInOrder_nil ⟨G,H,I,h⟩
def apy(h1:PG X e t)(h2:PGs X U u)(hs:(assignEach (e::U) X.env).map (·.2)=assign e X.env::(assignEach U X.env).map (·.2):=by rfl):PGs X (e::U) (a9y t u):=by
 intro Z s σ H vs us Q I r h;obtain⟨v,vr,e1,h⟩:=h;subst e1;cases r with
 |cons r rr =>
  rw[hs];refine assignInOrder_cons (Bf (h1 Z s σ H _ _ _ I r h) λ_ L z_=>?_);obtain⟨G,H1,I1,q1⟩:=z_;exact h2 Z L G H1 _ _ Q I1 rr q1
def bgk(K:Fg)(n:Nat)(t:TGs):TG:=λv G H Q=>∃a Z,v=.ref a/\Lq K H a Z/\Z.length=n/\t Z G H Q
def a3f(hc:X.calm=true)(h:PGs X U t)(hn:(assignEach U X.env).length=n:=by rfl)(Yx:(assignEach U X.env).findIdx? (·.1)=none:=by rfl):PG X (.Tuple U k pos) (bgk X.K n t):=by
 intro Z s σ H v u Q I r G;obtain⟨a,xs,e1,hq,hl,G⟩:=G;subst e1;cases r;obtain⟨xq,L,ht,hz⟩:=I.tuple hq;refine assign_Tuple_tuple (I.ok.hd hc) ht (by simp[hn,<-hl,L.length]) Yx λh' hx=>?_
 have I1:Inv X Z σ H { s with heap:=h' }:=I.kept (t':=s.toks) λb o e=>hx b o (dq (aq e)) e
 exact h Z _ σ H xs _ Q I1 (by simpa using L) G
def bgl(G U:TE)(t:a3d):TG:=λv Z H Q=>G Z H λo H1=>U Z H1 λi H2=>t o i v H2 λL=>Q Z L
def a3g(ho:PE X o to)(hi:PE X i ti)(hs:a3e X t)(ha:∀v,assign (.Subscript o i pos) X.env v=(do
 let G<-holding [v] (eval o X.env)
 let U<-holding [v,G] (eval i X.env)
 standAt pos
 holding [v,G,U] (setItem G U v)
 release [v,G,U] []):=by intro _;rfl):PG X (.Subscript o i pos) (bgl to ti t):=by
 intro Z s L H v u Q I r h;rw[ha];refine aa (fu (Bf (ho Z s L H _ I h) λG s1 z_=>?_));obtain⟨x,H1,I1,r1,q1⟩:=z_;refine aa (fu (Bf (hi Z s1 L H1 _ I1 q1) λU s2 z_=>?_));obtain⟨y,H2,I2,r2,q2⟩:=z_;refine aa (wpAny_standAt (aa (fu (Bf (hs Z s2 L H2 x y v G U u _ I2 r1 r2 r q2) λ_ s3 z_=>?_))));obtain⟨H3,I3,q3⟩:=z_;exact wpAny_release ⟨L,H3,I3,q3⟩
def a3h(G:TE)(g:TG):TS:=λD Z H=>G Z H λx U=>g x Z U D.nx
def apz(L:PE X e te)(hg:PG X tg g)(hs:swapsWithSole [tg] e pos.line X.env=pure false:=by rfl)(hw:swappedStores [tg] e X.env=pure none:=by rfl)(h1:(assignEach [tg] X.env).map (·.2)=[assign tg X.env]:=by rfl):PS X (.Assign [tg] e pos) (a3h te g):=by intro Z s G H D I h;refine wpAny_Assign_stores (Bf (L Z s G H _ I h) λv U ⟨x,H1,I1,r1,q1⟩=>?_) hs hw;rw[h1];exact Bf (hg Z U G H1 x v _ I1 r1 q1) λ_ s2 q=>q
def a3i(c:TT)(tb:TS):TS:=λD Z H=>∃W:Nat->St->Hp->Prop,(∃m,W m Z H)/\∀m Z H,W m Z H ->
 c Z H λb H1=>if b=true then ∃N:St->Hp->Prop,(∀G U,N G U->∃L,L<m/\W L G U)/\tb { D with nx:=N,ct:=N,bk:=D.nx } Z H1 else D.nx Z H1
def ap0(hp:PassesOwn (model X.prog X.w) X.A X.env X.xe)(hc:PT X c tc)(hb:R9 X body tb):PS X (.While c body [] pos) (a3i tc tb):=by
 intro G s σ H D I h;obtain⟨W,⟨m0,w0⟩,L⟩:=h;refine wpAny_While (codeAny_whileLoop (λn s'=>∃qq H',Inv X G qq H' s'/\W n qq H') ?_ m0 ⟨σ,H,I,w0⟩);rintro n s1 ⟨U,H1,I1,w1⟩;refine tu hp (Bf (hc G s1 U H1 _ I1 (L n U H1 w1)) λb s2 z_=>?_);obtain⟨H2,I2,q2⟩:=z_;cases b with
 |true =>
  obtain⟨N,hN,q2⟩:=q2;rw[bz rfl];refine tu hp (Bf (hb G s2 U H2 _ I2 q2) λf s3 q3=>?_);cases f with
  |next =>
   obtain⟨Z,H3,I3,n3⟩:=q3;obtain⟨m',hm,w3⟩:=hN Z H3 n3;exact⟨m',hm,Z,H3,I3,w3⟩
  |cont =>
   obtain⟨Z,H3,I3,n3⟩:=q3;obtain⟨m',hm,w3⟩:=hN Z H3 n3;exact⟨m',hm,Z,H3,I3,w3⟩
  |brk=>exact q3|ret v=>exact q3
 |false =>
  rw[bc ig];exact wpAny_execs_nil ⟨U,H2,I2,q2⟩
structure It where
 go:Nat->Hp->Prop
 yld:Nat->Hp->V->Hp->Prop
 stop:Nat->Hp->Prop
def Vr(X:Cx)(Z:Zp)(H:Hp)(b:Addr):Prop:=
 H b=none/\b≠X.env.locals/\b∉X.fs/\(b∈X.ex\/X.s₀.heap.objs.size<=b)/\(∀x c,X.env.cells.lookup x=some c->c≠b)/\∀p∈X.pn++Z,p.1≠b
def Inv.ap1(I:Inv X pins σ H s)(Z:s.heap.objs.size<=b)(L:G b=none):Vr X pins G b:=by
 refine⟨L,ou (il I.lt Z),I.apt Z,.inr (gb I.sz Z),λx c e z=>?_,λp U z=>?_⟩
 .obtain⟨v,q⟩:=I.cell x c e
  exact absurd (il q.lt (by rw[z];exact Z)) (qd _)
 .exact absurd (il (aq (I.pin p U).1) (by rw[z];exact Z)) (qd _)
structure Turn(P:Program)(w:World)(K:Fg)(tg:Expr)(J:It)(fp:Xt)(it:Addr)(tn:Nat->Heap->Prop):Prop where
 mem:it∈fp
 obj:∀i h,tn i h->∀b∈fp,∃o,h.get? b=some o/\∀v,o.data≠.cell v
 keep:∀i h h',tn i h->(∀b∈fp,∀o,h.get? b=some o->h'.get? b=some o)->tn i h'
 item:∀(X:Cx),X.prog=P->X.w=w->X.K=K->X.calm=true->∀(i:Nat)(pins:Zp)(s:Shared)(σ:St)(H:Hp)(E:Y3),Inv X pins σ H s->(∀b∈fp,Vr X pins H b)->tn i s.heap->J.go i H ->
  wpAny (model P w) X.A (pyNext (.ref it)) (λr s1=>∃u,r=some u /\
   wpAny (model P w) X.A (letOwnedTupleGo tg (.ref it) u) (λ_ s2=>∃x H',Inv X pins σ H' s2/\RelV x u/\J.yld i H x H'/\tn (i+1) s2.heap/\∀b∈fp,H' b=none) E s1) E s
 done:∀(X:Cx),X.prog=P->X.w=w->X.K=K->X.calm=true->∀(i:Nat)(pins:Zp)(s:Shared)(σ:St)(H:Hp)(E:Y3),Inv X pins σ H s->(∀b∈fp,Vr X pins H b)->tn i s.heap->J.stop i H ->
  wpAny (model P w) X.A (pyNext (.ref it)) (λr s1=>r=none/\Inv X pins σ H s1) E s
 self:∀(A:Around)(i:Nat)(s:Shared)(Q:Y3)(E:Y3),tn i s.heap->Q (.ref it) s->wpAny (model P w) A (pyIter (.ref it)) Q E s
abbrev TI:=St->Hp->(It->Hp->Prop)->Prop
def PIE(X:Cx)(Z:Zp)(σ:St)(tg:Expr)(R:It->Hp->Prop)(G:Value)(L:Shared):Prop:=
 ∃(it:Addr)(fp:Xt)(tn:Nat->Heap->Prop)(J:It)(U:Hp),G=.ref it/\Inv X Z σ U L/\Turn X.prog X.w X.K tg J fp it tn/\tn 0 L.heap/\(∀b∈fp,Vr X Z U b)/\R J U
def PI(X:Cx)(tg G:Expr)(wi:TI):Prop:=
 ∀(Z:Zp)(s:Shared)(U:St)(H:Hp)(R:It->Hp->Prop),Inv X Z U H s->wi U H R ->
  wpAny (model X.prog X.w) X.A (eval G X.env) (λv L=>wpAny (model X.prog X.w) X.A (pyIter v) (PIE X Z U tg R) X.xe L) X.xe s
def ap2(ho:s.heap.get? it=some o)(L:o.cls=.type n)(hd:o.data=.fields G)(U:["enumerate","zip","dict_itemiterator","dict_reverseitemiterator","odict_iterator","itertools.zip_longest","itertools.pairwise"].contains n=false)(Z:Q () s):wpAny M A (letOwnedTupleGo tg (.ref it) u) Q E s:=by
 unfold letOwnedTupleGo;cases tg<;>first
  |exact aj Z
  | (cases u<;>first
   |exact aj Z
   | (refine aa (wpAny_load ho ?_)
      rw[L,hd];show wpAny M A (if(["enumerate","zip","dict_itemiterator","dict_reverseitemiterator","odict_iterator","itertools.zip_longest","itertools.pairwise"].contains n&&G[0]?==some (rawInt _))=true then _ else _) Q E s;rw[bc (by intro h;rw[U,Bool.false_and]at h;cases h)];exact aj Z))
noncomputable def Itl(K:Fg)(a:Addr):It:=
 ⟨λi H=>∃Z x,Ie K H a Z/\Z[i]?=some x,λi H x G=>G=H/\∀Z,Ie K H a Z->Z[i]?=some x,λi H=>∃Z,Ie K H a Z/\Z.length<=i⟩
noncomputable def Itt(K:Fg)(a:Addr):It:=
 ⟨λi H=>∃Z x,Lq K H a Z/\Z[i]?=some x,λi H x G=>G=H/\∀Z,Lq K H a Z->Z[i]?=some x,λi H=>∃Z,Lq K H a Z/\Z.length<=i⟩
noncomputable def Ka(G:Int)(n:Nat):It:=⟨λi _=>i<n,λi H x Z=>Z=H/\x=.int (G+i),λi _=>n<=i⟩
theorem alq{K:Fg}(a it:Addr):Turn P w K tg (Itl K a) [it] it (λi h=>h.IsListIter it a i)where
 mem:=by simp
 obj:=λi h Z b U=>by
  have e:b=it:=by simpa using U
  subst e;obtain⟨o,e,c,d⟩:=Z;exact⟨o,e,λv z=>by rw[d]at z;cases z⟩
 keep:=λi h h' Z k=>Z.at λo e=>k it (by simp) o e
 item:=by
  intro X hP hw hK hc i G s σ H E I hf Z hg;subst hP hw hK;obtain⟨xs,x,hq,hx⟩:=hg;obtain⟨xq,rv,p,hz⟩:=I.list hq;obtain⟨u,hu,ru⟩:=rv.get hx;obtain⟨f0,f1,f2,f3,f4,f5⟩:=hf it (by simp);refine wpAny_pyNext_list_item Z p.isList (x:=u) (by simpa using hu) λh' L sb=>?_
  have I1:Inv X G σ H { s with heap:=h' }:=I.turned (t':=s.toks) (λb o U e=>(sb.2 b U).trans e) f0 f1 f3 f4 f5;obtain⟨o,e,c,d⟩:=id L;exact⟨u,rfl,ap2 (s:={ s with heap:=h' }) e c d (by decide) ⟨x,H,I1,ru,⟨rfl,λys hy=>by rw[I.aee hy hq];exact hx⟩,L,λb U=>(hf b U).1⟩⟩
 done:=by intro X hP hw hK hc i G s σ H E I hf Z hg;subst hP hw hK;obtain⟨xs,hq,hx⟩:=hg;obtain⟨xq,rv,p,hz⟩:=I.list hq;obtain⟨f0,f1,f2,f3,f4,f5⟩:=hf it (by simp);have hl:=rv.length;exact wpAny_pyNext_list_end (I.ok.hd hc) Z p.isList (by simp;exact a_ (g_ hl) hx) λh' eb=>⟨rfl,I.turned (t':=s.toks) (λb o U e=>eb b o U e) f0 f1 f3 f4 f5⟩
 self:=λ_ _ _ _ _ Z h=>wpAny_pyIter_listiter Z h
theorem ahb{K:Fg}(a it:Addr):Turn P w K tg (Itt K a) [it] it (λi h=>h.IsTupleIter it a i)where
 mem:=by simp
 obj:=λi h Z b U=>by
  have e:b=it:=by simpa using U
  subst e;obtain⟨o,e,c,d⟩:=Z;exact⟨o,e,λv z=>by rw[d]at z;cases z⟩
 keep:=λi h h' Z k=>Z.at λo e=>k it (by simp) o e
 item:=by
  intro X hP hw hK hc i G s σ H E I hf Z hg;subst hP hw hK;obtain⟨xs,x,hq,hx⟩:=hg;obtain⟨xq,rv,p,hz⟩:=I.tuple hq;obtain⟨u,hu,ru⟩:=rv.get hx;obtain⟨f0,f1,f2,f3,f4,f5⟩:=hf it (by simp);refine wpAny_pyNext_tuple_item Z (show s.heap.IsTuple a xq.toArray from p) (x:=u) (by simpa using hu) λh' L sb=>?_
  have I1:Inv X G σ H { s with heap:=h' }:=I.turned (t':=s.toks) (λb o U e=>(sb.2 b U).trans e) f0 f1 f3 f4 f5;obtain⟨o,e,c,d⟩:=id L;exact⟨u,rfl,ap2 (s:={ s with heap:=h' }) e c d (by decide) ⟨x,H,I1,ru,⟨rfl,λys hy=>by rw[I.Z3 hy hq];exact hx⟩,L,λb U=>(hf b U).1⟩⟩
 done:=by intro X hP hw hK hc i G s σ H E I hf Z hg;subst hP hw hK;obtain⟨xs,hq,hx⟩:=hg;obtain⟨xq,rv,p,hz⟩:=I.tuple hq;obtain⟨f0,f1,f2,f3,f4,f5⟩:=hf it (by simp);have hl:=rv.length;exact wpAny_pyNext_tuple_end (I.ok.hd hc) Z (show s.heap.IsTuple a xq.toArray from p) (by simp;exact a_ (g_ hl) hx) λh' eb=>⟨rfl,I.turned (t':=s.toks) (λb o U e=>eb b o U e) f0 f1 f3 f4 f5⟩
 self:=λ_ _ _ _ _ Z h=>wpAny_pyIter_tupleiter Z h
theorem ahc{K:Fg}(it:Addr)(lo:Int)(n:Nat):Turn P w K tg (Ka lo n) [it] it (λi h=>IsRangeIter h it (lo+(i:Nat)*1) ((n:Int)-(i:Nat)) 1)where
 mem:=by simp
 obj:=λi h Z b U=>by
  have e:b=it:=by simpa using U
  subst e;exact⟨_,Z,λv z=>by
   have z':Data.fields _=Data.cell v:=z;cases z'⟩
 keep:=λi h h' Z k=>k it (by simp) _ Z
 item:=by
  intro X hP hw hK hc i G s σ H E I hf Z hg;subst hP hw hK;obtain⟨f0,f1,f2,f3,f4,f5⟩:=hf it (by simp);have W:=Walks.range (prog:=X.prog) (w:=X.w) (I.ok.hd hc) it lo 1 n;refine W.item i s _ _ hg Z λv h' tk hv L kk=>?_
  obtain⟨t,rfl⟩:=hv;have I1:Inv X G σ H { s with heap:=h',toks:=tk }:=I.turned (λb o U e=>kk b o (by simpa using U) e) f0 f1 f3 f4 f5;refine⟨_,rfl,ap2 (s:={ s with heap:=h',toks:=tk }) (n :="range_iterator") L rfl rfl (by decide) ⟨.int (lo+i),H,I1,⟨t,?_⟩,⟨rfl,rfl⟩,L,λb U=>(hf b U).1⟩⟩;rw[Int.mul_one]
 done:=by intro X hP hw hK hc i G s σ H E I hf Z hg;subst hP hw hK;obtain⟨f0,f1,f2,f3,f4,f5⟩:=hf it (by simp);exact wpAny_pyNext_range_end (I.ok.hd hc) Z (by have:n<=i:=hg;lia) λh' eb=>⟨rfl,I.turned (t':=s.toks) (λb o U e=>eb b o U e) f0 f1 f3 f4 f5⟩
 self:=λ_ _ _ _ _ Z h=>wpAny_pyIter_rangeiter Z h
end L2
namespace L2
open PySem PySem.Spec PyProof.Rows
def ap3{lo:Int}(I:Inv X pins σ H s)(L:-(2^62)<=lo)(h2:lo<2^62)(h3:-(2^62)<=Z)(h4:Z<2^62)(q:R (Ka lo (Z-lo).toNat) H):wpAny (model X.prog X.w) X.A (pyIter (.ref s.heap.objs.size)) (PIE X pins σ tg R) E { s with heap:=s.heap.push { cls:=.type "range",data:=.fields #[.int lo t,.int Z u,.int 1 v] },toks:=U }:=by
 refine wpAny_pyIter_range (IsRange.new ..) (small_one L h2 h3 h4) ?_;have G:Inv X pins σ H { s with heap:=s.heap.push { cls:=.type "range",data:=.fields #[.int lo t,.int Z u,.int 1 v] },toks:=U }:=I.kept λb o e=>ao _ e
 refine⟨(s.heap.push { cls:=.type "range",data:=.fields #[.int lo t,.int Z u,.int 1 v] }).objs.size,[(s.heap.push { cls:=.type "range",data:=.fields #[.int lo t,.int Z u,.int 1 v] }).objs.size],_,_,H,rfl,
  G.kept (t':=U) λb o e=>ao _ e,ahc _ lo (Z-lo).toNat,?_,λb hb=>?_,q⟩
 .have e1:lo+((0:Nat):Int)*1=lo:=by simp
  have e2:(((Z-lo).toNat:Nat):Int)-((0:Nat):Int)=Builtin.Range.rangeSize lo Z 1:=by rw[rangeSize_one];split<;>lia
  show IsRangeIter _ _ (lo+((0:Nat):Int)*1) ((((Z-lo).toNat:Nat):Int)-((0:Nat):Int)) 1;rw[e1,e2];exact bu _ rfl
 .have e:b=(s.heap.push { cls:=.type "range",data:=.fields #[.int lo t,.int Z u,.int 1 v] }).objs.size:=by simpa using hb
  subst e;exact G.ap1 (cg _) (G.Ad.fresh (cg _))
def a90(L:TA):TI:=λU H R=>L U H λZ G=>∃j:Int,Z=[.int j]/\-(2^62)<=j/\j<2^62/\R (Ka 0 j.toNat) G
def alr{X:Cx}{tg:Expr}(L:Gl X "range")(hm:X.mg "range"= none)(ha:PA X [a] ta)(U:starEach [a] X.env=[(false,eval a X.env)]:=by rfl):PI X tg (.Call (.Name "range" p) [a] [] pos) (a90 ta):=by
 intro Z s σ H R I h;refine Call_ (Cg I L hm boot_range (jo (Bf (ha pos Z s σ H _ I h) λus s1 ⟨vs,H1,I1,r1,G⟩=>?_) U rfl));obtain⟨j,e,G,q2,q⟩:=G;subst e;cases r1 with
 |cons r rr =>
  cases rr;obtain⟨t,rfl⟩:=r;exact call_range_1 (ap3 I1 (by lia) (by lia) G q2 (by simpa using q))
def bgn(wi:TI)(g:TG)(tb:TS):TS:=λD Z H=>wi Z H λJ H1=>∃W:Nat->Nat->St->Hp->Prop,(∃m,W 0 m Z H1)/\∀i m Z H,W i m Z H ->
 (J.stop i H/\D.nx Z H)\/(J.go i H/\∃N:St->Hp->Prop,(∀U G,N U G->∃m',m'<m/\W (i+1) m' U G)/\∀x G,J.yld i H x G->g x Z G λL H2=>tb { D with nx:=N,ct:=N,bk:=D.nx } L H2)
noncomputable def T9(Z:Xt)(h:Heap):List (Addr×Obj):=Z.filterMap λb=>(h.get? b).map λo=>(b,o)
def Ku(Z:b∈G)(e:h.get? b=some o):(b,o)∈T9 G h:=List.mem_filterMap.mpr ⟨b,Z,by rw[e];rfl⟩
def als(G:p∈T9 L h):p.1∈L/\h.get? p.1=some p.2:=by
 obtain⟨b,U,e⟩:=List.mem_filterMap.mp G;cases q:h.get? b with
 |none=>rw[q]at e;cases e
 |some o =>
  rw[q]at e;have Z:(b,o)=p:=ie e;subst Z;exact⟨U,q⟩
def Inv.pinned{X:Cx}(I:Inv X pins σ H s)(hf:∀b∈U,Vr X pins H b)(ho:∀b∈U,∃o,s.heap.get? b=some o/\∀v,o.data≠.cell v):Inv X (pins++T9 U s.heap) σ H s:=
 I.Ha λp L=>(du.mp L).elim (λz=>I.pin p (fc _ z)) λz=>by obtain⟨G,e⟩:=als z;obtain⟨f0,f1,f2,_⟩:=hf p.1 G;obtain⟨o,Z,d⟩:=ho p.1 G;rw[e]at Z;cases Z;exact⟨e,f0,f1,f2,d⟩
def Inv.Od{X:Cx}(I:Inv X (pins++G) σ H s):Inv X pins σ H s:=I.Ha λp Z=>I.pin p (fc _ (xg _ Z))
def a3j{X:Cx}{tg:Expr}(hp:PassesOwn (model X.prog X.w) X.A X.env X.xe)(hc:X.calm=true)(hi:PI X tg iter wi)(hg:PG X tg g)(hb:R9 X body tb)(hs:∀x,foldedSetIterable iter X.env x=pure x:=by intro _;rfl):PS X (.For tg iter body [] pos) (bgn wi g tb):=by
 intro G s σ H D I h;refine wpAny_For (Bf (hi G s σ H _ I h) λv s1 h1=>Bf h1 λzk s2 h2=>?_) hs;obtain⟨it,fp,tn,J,H2,e,I2,T,zz,f2,W,⟨m0,w0⟩,q2⟩:=h2;subst e;have qk:∀{H':Hp},(∀b∈fp,H' b=none)->∀b∈fp,Vr X G H' b:=λhn b hb=>⟨hn b hb,(f2 b hb).2⟩
 refine codeAny_forLoop_any (λn s'=>∃i qq H',Inv X G qq H' s'/\tn i s'.heap/\(∀b∈fp,H' b=none)/\W i n qq H') ?_ m0 ⟨0,σ,H2,I2,zz,λb hb=>(f2 b hb).1,w0⟩;rintro n s3 ⟨i,U,H3,I3,q0,q3,w3⟩;rcases q2 i n U H3 w3 with⟨q1,qn⟩|⟨go,N,hN,step⟩
 .refine tu hp (Bf (T.done X rfl rfl rfl hc i G s3 U H3 X.xe I3 (qk q3) q0 q1) λr s4 z_=>?_)
  obtain⟨hr,I4⟩:=z_;subst hr;exact wpAny_execs_nil ⟨U,H3,I4,qn⟩
 .refine tu hp (Bf (T.item X rfl rfl rfl hc i G s3 U H3 X.xe I3 (qk q3) q0 go) λr s4 z_=>?_)
  obtain⟨u,hr,h4⟩:=z_;subst hr;refine tu hp (Bf h4 λ_ s5 z_=>?_);obtain⟨x,H5,I5,r5,y5,qv,q8⟩:=z_;have q4:=I5.pinned (qk q8) (T.obj _ _ qv);refine tu hp (Bf (hg _ s5 U H5 x u _ q4 r5 (step x H5 y5)) λ_ s6 z_=>?_);obtain⟨q5,H6,I6,q6⟩:=z_;refine tu hp (Bf (hb _ s6 q5 H6 _ I6 q6) λf s7 q7=>?_);have L:∀{Z:St}{H7:Hp},Inv X (G++T9 fp s5.heap) Z H7 s7->N Z H7->∃m,m<n/\∃i qq H',Inv X G qq H' s7/\tn i s7.heap/\(∀b∈fp,H' b=none)/\W i m qq H':=fun{Z H7} I7 n7=>by obtain⟨m',hm,w7⟩:=hN Z H7 n7;refine⟨m',hm,i+1,Z,H7,I7.Od,T.keep _ _ _ qv λb hb o e=>(I7.pin (b,o) (fc _ (fc _ (Ku hb e)))).1,λb hb=>?_,w7⟩;obtain⟨o,e,d⟩:=T.obj _ _ qv b hb;exact(I7.pin (b,o) (fc _ (fc _ (Ku hb e)))).2.1
  cases f with
  |next=>obtain⟨Z,H7,I7,n7⟩:=q7;exact L I7 n7
  |cont=>obtain⟨Z,H7,I7,n7⟩:=q7;exact L I7 n7
  |brk=>obtain⟨Z,H7,I7,q7⟩:=q7;exact⟨Z,H7,I7.Od,q7⟩
  |ret v=>obtain⟨x7,Z,H7,I7,r7,q7⟩:=q7;exact⟨x7,Z,H7,I7.Od,r7,q7⟩
end L2
namespace L2
open PySem PySem.Spec PyProof.Rows
abbrev R2:=V->V->Hp->VK->Prop
def Cy(X:Cx)(f:Value->Value->Sem Value)(r:R2):Prop:=
 ∀(Z:Zp)(s:Shared)(G:St)(H:Hp)(x y:V)(v u:Value)(Q:VK),Inv X Z G H s->RelV x v->RelV y u->r x y H Q ->
  wpAny (model X.prog X.w) X.A (f v u) (EP X Z G Q) X.xe s
def UnR(X:Cx)(f:Value->Sem Value)(r:V->Hp->VK->Prop):Prop:=
 ∀(Z:Zp)(s:Shared)(G:St)(H:Hp)(x:V)(v:Value)(Q:VK),Inv X Z G H s->RelV x v->r x H Q ->
  wpAny (model X.prog X.w) X.A (f v) (EP X Z G Q) X.xe s
def By(X:Cx)(f:Value)(r:List V->Hp->VK->Prop):Prop:=
 ∀(Z:Zp)(s:Shared)(L:St)(H:Hp)(G:List V)(U:Zl)(Q:VK),Inv X Z L H s->Vals G U->r G H Q ->
  wpAny (model X.prog X.w) X.A (call f U) (EP X Z L Q) X.xe s
def tOp(r:R2)(ta G:TE):TE:=λZ H Q=>ta Z H λx U=>G Z U λy L=>r x y L Q
def tUn(r:V->Hp->VK->Prop)(U:TE):TE:=λG H Q=>U G H λx Z=>r x Z Q
def rI(C:Int->Int->Prop)(g:Int->Int->V):R2:=λx y H Q=>∃i j,x=.int i/\y=.int j/\C i j/\Q (g i j) H
def rI0(g:Int->Int->V):R2:=λx y H Q=>∃i j,x=.int i/\y=.int j/\Q (g i j) H
def rU(g:Int->V):V->Hp->VK->Prop:=λx H Q=>∃i,x=.int i/\Q (g i) H
def a3l{X:Cx}{a b:Expr}{ta tb:TE}(ha:PE X a ta)(hb:PE X b tb){Z:Zp}{s:Shared}{U:St}{H:Hp}{R:V->V->Hp->Prop}(I:Inv X Z U H s)
 (h:ta U H λx H1=>tb U H1 λy G=>R x y G) {Q:Y3} {f:Value->Value->Sem Value}
 (hf:∀v u s2 x y G,Inv X Z U G s2->RelV x v->RelV y u->R x y G->wpAny (model X.prog X.w) X.A (f v u) Q X.xe s2) :
 wpAny (model X.prog X.w) X.A (eval a X.env) (λv L=>wpAny (model X.prog X.w) X.A (eval b X.env) (λu qq=>wpAny (model X.prog X.w) X.A (f v u) Q X.xe qq) X.xe L) X.xe s:=by
 refine Bf (ha Z s U H _ I h) λv s1 z_=>?_
 obtain⟨x,H1,I1,r1,q1⟩:=z_;refine Bf (hb Z s1 U H1 _ I1 q1) λu s2 z_=>?_
 obtain⟨y,G,I2,r2,q2⟩:=z_;exact hf v u s2 x y G I2 r1 r2 q2
def a92{X:Cx}{a b:Expr}{L U:TE}{pos:Pos}{G:Operator}{r:R2}(ho:Cy X (binaryOp G) r)(ha:PE X a L)(hb:PE X b U):PE X (.BinOp a G b pos) (tOp r L U):=by intro Z s σ H Q I h;exact wpAny_BinOp (a3l ha hb I h λv u s2 x y H2 I2 rx ry q=>ho Z s2 σ H2 x y v u Q I2 rx ry q)
def a93{X:Cx}{a:Expr}{L:TE}{pos:Pos}{G:UnaryOp}{r:V->Hp->VK->Prop}(ho:UnR X (unaryOp G) r)(ha:PE X a L):PE X (.UnaryOp G a pos) (tUn r L):=by intro Z s U H Q I h;exact UnaryOp_ (Bf (ha Z s U H _ I h) λv s1 ⟨x,H1,I1,r1,q1⟩=>ho Z s1 U H1 x v Q I1 r1 q1)
def opI{X:Cx}{f:Value->Value->Sem Value}{C:Int->Int->Prop}{g:Int->Int->Int}
 (Z:∀(i j:Int)(t u:Tok)(s:Shared)(Q:Y3)(E:Y3),C i j->Q (.int (g i j) s.toks) { s with toks:=s.toks+1 }->wpAny (model X.prog X.w) X.A (f (.int i t) (.int j u)) Q E s) :
 Cy X f (rI C λi j=>.int (g i j)):=by
 intro G s σ H x y v u Q I rx ry h;obtain⟨i,j,rfl,rfl,L,q⟩:=h;obtain⟨t,rfl⟩:=rx;obtain⟨U,rfl⟩:=ry;exact Z i j t U s _ _ L ⟨.int (g i j),H,I.tok _,⟨_,rfl⟩,q⟩
def a94{X:Cx}{f:Value->Value->Sem Value}{g:Int->Int->Int}
 (Z:∀(i j:Int)(t u:Tok)(s:Shared)(Q:Y3)(E:Y3),Q (.int (g i j) s.toks) { s with toks:=s.toks+1 }->wpAny (model X.prog X.w) X.A (f (.int i t) (.int j u)) Q E s) :
 Cy X f (rI0 λi j=>.int (g i j)):=by
 intro G s σ H x y v u Q I rx L h;obtain⟨i,j,rfl,rfl,q⟩:=h;obtain⟨t,rfl⟩:=rx;obtain⟨U,rfl⟩:=L;exact Z i j t U s _ _ ⟨.int (g i j),H,I.tok _,⟨_,rfl⟩,q⟩
def av0{X:Cx}{f:Value->Value->Sem Value}{g:Int->Int->Bool}
 (Z:∀(i j:Int)(t u:Tok)(s:Shared)(Q:Y3)(E:Y3),Q (.bool (g i j)) s->wpAny (model X.prog X.w) X.A (f (.int i t) (.int j u)) Q E s) :
 Cy X f (rI0 λi j=>.bl (g i j)):=by
 intro G s σ H x y v u Q I rx L h;obtain⟨i,j,rfl,rfl,q⟩:=h;obtain⟨t,rfl⟩:=rx;obtain⟨U,rfl⟩:=L;exact Z i j t U s _ _ ⟨.bl (g i j),H,I,rfl,q⟩
def bgr(i j:Int):Prop:=0<j/\j<1073741824
def bgs(i j:Int):Prop:=0<=j/\j<=1000000/\i.natAbs<2^64
def a3m(i j:Int):Prop:=(-(2^64)<i/\i<2^64)\/(-(2^64)<j/\j<2^64)
def a3m.ok{i j:Int}(h:a3m i j):IntMulOk i j:=by
 rcases h with⟨Z,G⟩|⟨Z,G⟩
 .exact .of_left (intBits_le_64 Z G)
 .exact .of_right (intBits_le_64 Z G)
def a3n{X:Cx}:Cy X (binaryOp .Add) (rI0 λi j=>.int (i+j)):=a94 λ_ _ _ _ _ _ _ q=>add_int q
def a3o{X:Cx}:Cy X (binaryOp .Sub) (rI0 λi j=>.int (i-j)):=a94 λ_ _ _ _ _ _ _ q=>sub_int q
def a3p{X:Cx}:Cy X (binaryOp .Mult) (rI a3m λi j=>.int (i*j)):=opI λ_ _ _ _ _ _ _ Z q=>mul_int q Z.ok
def av1{X:Cx}:Cy X (binaryOp .FloorDiv) (rI bgr λi j=>.int (i/j)):=opI λi j _ _ _ _ _ Z q=>by
 have G:(0:Int)<j:=Z.1
 have U:j<1073741824:=Z.2
 exact floordiv_int (by lia) (by rw[Int.fdiv_eq_ediv_of_nonneg i (by lia)];exact q) (.inl (PyProof.noPylong_small (by omega)))
def a3q{X:Cx}:Cy X (binaryOp .Mod) (rI (λ_ j=>0<j) λi j=>.int (i%j)):=opI λi j _ _ _ _ _ Z q=>by
 have G:(0:Int)<j:=Z
 exact mod_int' (by lia) (by rw[Int.fmod_eq_emod_of_nonneg i (by lia)];exact q)
def a3r{X:Cx}:Cy X (binaryOp .Pow) (rI bgs λi j=>.int (i^j.toNat)):=opI λ_ _ _ _ _ _ _ Z q=>pow_int_small Z.1 Z.2.1 Z.2.2 q
def unI{X:Cx}{f:Value->Sem Value}{g:Int->Int}
 (Z:∀(i:Int)(t:Tok)(s:Shared)(Q:Y3)(E:Y3),Q (.int (g i) s.toks) { s with toks:=s.toks+1 }->wpAny (model X.prog X.w) X.A (f (.int i t)) Q E s) :
 UnR X f (rU λi=>.int (g i)):=by
 intro G s L H x v Q I U h;obtain⟨i,rfl,q⟩:=h;obtain⟨t,rfl⟩:=U;exact Z i t s _ _ ⟨.int (g i),H,I.tok _,⟨_,rfl⟩,q⟩
def a3s{X:Cx}:UnR X (unaryOp .USub) (rU λi=>.int (-i)):=unI λ_ _ _ _ _ q=>neg_int q
noncomputable def a3t:V->V->Bool
 |.non,.non=>true|.non,.int _=>true|.int _,.non=>true|.non,.bl _=>true|.bl _,.non=>true|.non,.str _=>true|.str _,.non=>true
 |.int _,.int _=>true|.bl _,.bl _=>true|.str _,.str _=>true|.byt _,.byt _=>true
 |.int _,.str _=>true|.str _,.int _=>true|.bl _,.str _=>true|.str _,.bl _=>true
 |_,_=>false
def rEq:R2:=λx y H Q=>a3t x y=true/\Q (.bl (decide (x=y))) H
def rNe:R2:=λx y H Q=>a3t x y=true/\Q (.bl (!decide (x=y))) H
def ai9{i j:Int}:decide (V.int i=V.int j)=(i==j):=by rw[qe];simp
def ap4{i j:Bool}:decide (V.bl i=V.bl j)=(i==j):=by rw[qe];simp
def aja{i j:Str}:decide (V.str i=V.str j)=(i==j):=by rw[qe];simp
def ajb{i j:Array UInt8}:decide (V.byt i=V.byt j)=(i.toList==j.toList):=by rw[qe];cases i;cases j;simp
def zm{X:Cx}{Z:Zp}{G:St}{H:Hp}{s:Shared}{Q:VK}{k U:Bool}(I:Inv X Z G H s)(q:Q (.bl k) H)(e:k=U):EP X Z G Q (.bool U) s:=by subst e;exact⟨.bl k,H,I,rfl,q⟩
def a95{X:Cx}:Cy X (compareOp .Eq) rEq:=by
 intro qq s σ H x y v u Q I L Z h;obtain⟨U,q⟩:=h;cases x with
 |non =>
  cases L;cases y with
  |non=>cases Z;exact PySem.EqNone.eq_none_none (zm I q (by simp))|bl j=>cases Z;exact PySem.EqNone.eq_none_bool (zm I q (by simp))|int j=>obtain⟨G,rfl⟩:=Z;exact PySem.EqNone.eq_none_int (zm I q (by simp))
  |str j=>obtain⟨G,rfl⟩:=Z;exact PySem.EqNone.eq_none_str (zm I q (by simp))
  |_=>exact absurd (show false=true from U) ig
 |bl i =>
  cases L;cases y with
  |non=>cases Z;exact PySem.EqNone.eq_bool_none (zm I q (by simp))|bl j=>cases Z;exact eq_bool (zm I q ap4)|str j=>obtain⟨G,rfl⟩:=Z;exact PySem.EqMixed.eq_bool_str (zm I q (by simp))
  |_=>exact absurd (show false=true from U) ig
 |int i =>
  obtain⟨t,rfl⟩:=L;cases y with
  |non=>cases Z;exact PySem.EqNone.eq_int_none (zm I q (by simp))|int j=>obtain⟨G,rfl⟩:=Z;exact eq_int (zm I q ai9)
  |str j=>obtain⟨G,rfl⟩:=Z;exact PySem.EqMixed.eq_int_str (zm I q (by simp))
  |_=>exact absurd (show false=true from U) ig
 |str i =>
  obtain⟨t,rfl⟩:=L;cases y with
  |non=>cases Z;exact PySem.EqNone.eq_str_none (zm I q (by simp))|bl j=>cases Z;exact PySem.EqMixed.eq_str_bool (zm I q (by simp))|int j=>obtain⟨G,rfl⟩:=Z;exact PySem.EqMixed.eq_str_int (zm I q (by simp))
  |str j=>obtain⟨G,rfl⟩:=Z;exact eq_str (zm I q aja)
  |_=>exact absurd (show false=true from U) ig
 |byt i =>
  obtain⟨t,rfl⟩:=L;cases y with
  |byt j=>obtain⟨G,rfl⟩:=Z;exact PySem.W.eq_bytes (zm I q ajb)
  |_=>exact absurd (show false=true from U) ig
 |_=>cases y<;>exact absurd (show false=true from U) ig
def a96{X:Cx}:Cy X (compareOp .NotEq) rNe:=by
 intro qq s σ H x y v u Q I L Z h;obtain⟨U,q⟩:=h;cases x with
 |non =>
  cases L;cases y with
  |non=>cases Z;exact PySem.EqNone.ne_none_none (zm I q (by simp))|bl j=>cases Z;exact PySem.EqNone.ne_none_bool (zm I q (by simp))|int j=>obtain⟨G,rfl⟩:=Z;exact PySem.EqNone.ne_none_int (zm I q (by simp))
  |str j=>obtain⟨G,rfl⟩:=Z;exact PySem.EqNone.ne_none_str (zm I q (by simp))
  |_=>exact absurd (show false=true from U) ig
 |bl i =>
  cases L;cases y with
  |non=>cases Z;exact PySem.EqNone.ne_bool_none (zm I q (by simp))|bl j=>cases Z;exact ne_bool (zm I q (lg not ap4))|str j=>obtain⟨G,rfl⟩:=Z;exact PySem.EqMixed.ne_bool_str (zm I q (by simp))
  |_=>exact absurd (show false=true from U) ig
 |int i =>
  obtain⟨t,rfl⟩:=L;cases y with
  |non=>cases Z;exact PySem.EqNone.ne_int_none (zm I q (by simp))|int j=>obtain⟨G,rfl⟩:=Z;exact ne_int (zm I q (lg not ai9))
  |str j=>obtain⟨G,rfl⟩:=Z;exact PySem.EqMixed.ne_int_str (zm I q (by simp))
  |_=>exact absurd (show false=true from U) ig
 |str i =>
  obtain⟨t,rfl⟩:=L;cases y with
  |non=>cases Z;exact PySem.EqNone.ne_str_none (zm I q (by simp))|bl j=>cases Z;exact PySem.EqMixed.ne_str_bool (zm I q (by simp))|int j=>obtain⟨G,rfl⟩:=Z;exact PySem.EqMixed.ne_str_int (zm I q (by simp))
  |str j=>obtain⟨G,rfl⟩:=Z;exact ne_str (zm I q (lg not aja))
  |_=>exact absurd (show false=true from U) ig
 |byt i =>
  obtain⟨t,rfl⟩:=L;cases y with
  |byt j=>obtain⟨G,rfl⟩:=Z;exact PySem.W.ne_bytes (zm I q (lg not ajb))
  |_=>exact absurd (show false=true from U) ig
 |_=>cases y<;>exact absurd (show false=true from U) ig
def a97{X:Cx}:Cy X (compareOp .Lt) (rI0 λi j=>.bl (decide (i<j))):=av0 λ_ _ _ _ _ _ _ q=>lt_int q
def a98{X:Cx}:Cy X (compareOp .LtE) (rI0 λi j=>.bl (decide (i<=j))):=av0 λ_ _ _ _ _ _ _ q=>le_int q
def a99{X:Cx}:Cy X (compareOp .Gt) (rI0 λi j=>.bl (decide (j<i))):=av0 λ_ _ _ _ _ _ _ q=>gt_int q
def baa{X:Cx}:Cy X (compareOp .GtE) (rI0 λi j=>.bl (decide (j<=i))):=av0 λ_ _ _ _ _ _ _ q=>ge_int q
def Cy.or{X:Cx}{f:Value->Value->Sem Value}{r G:R2}(h:Cy X f r)(h':Cy X f G):Cy X f (λx y H Q=>r x y H Q\/G x y H Q):=by
 intro Z s U H x y v u Q I rx L q;rcases q with q|q
 .exact h Z s U H x y v u Q I rx L q
 .exact h' Z s U H x y v u Q I rx L q
def av2{X:Cx}{a b:Expr}{L U:TE}{pos:Pos}{G:CmpOp}{r:R2}(ho:Cy X (compareOp G) r)(ha:PE X a L)(hb:PE X b U)(hm:behindInMarks G b=false):PE X (.Compare a [G] [b] pos) (tOp r L U):=by intro Z s σ H Q I h;exact wpAny_Compare1 (a3l ha hb I h λv u s2 x y H2 I2 rx ry q=>ho Z s2 σ H2 x y v u Q I2 rx ry q) hm
def azt(t:TE):TT:=λG H Q=>t G H λx Z=>∃k,x=.bl k/\Q k Z
def av3{X:Cx}{a b:Expr}{ta L:TE}{pos:Pos}{G:CmpOp}{r:R2}(ho:Cy X (compareOp G) r)(ha:PE X a ta)(hb:PE X b L)(hm:behindInMarks G b=false):PT X (.Compare a [G] [b] pos) (azt (tOp r ta L)):=by
 intro Z s U H Q I h;refine wpAny_isTrue_Compare1 (Bf (ha Z s U H _ I h) λv s1 ⟨x,H1,I1,r1,q1⟩=>Bf (hb Z s1 U H1 _ I1 q1) λu s2 ⟨y,H2,I2,r2,q2⟩ =>
  Bf (ho Z s2 U H2 x y v u _ I2 r1 r2 q2) λc s3 ⟨z,H3,I3,r3,k,e,q3⟩=>?_) hm
 subst e;cases r3;exact jn ⟨H3,I3,q3⟩
def abx(r L:R2)(ta tb U:TE):TE:=λZ H Q=>ta Z H λx H1=>tb Z H1 λy H2=>r x y H2 λz G=>∃k,z=.bl k /\
 (if k=true then U Z G λw' H4=>L y w' H4 Q else Q (.bl false) G)
def ap5{X:Cx}{a b c:Expr}{ta tb tc:TE}{pos:Pos}{L G:CmpOp}{r r':R2}(ho:Cy X (compareOp L) r)(Tf:Cy X (compareOp G) r')(ha:PE X a ta)(hb:PE X b tb)(hc:PE X c tc)
 (hm:lastMarks [L,G] [b,c]=false:=by with_unfolding_all rfl):PE X (.Compare a [L,G] [b,c] pos) (abx r r' ta tb tc):=by
 intro Z s U H Q I h;refine Compare_chain (Bf (ha Z s U H _ I h) λv s1 ⟨x,H1,I1,r1,q1⟩=>chain_link (Bf (hb Z s1 U H1 _ I1 q1) λu s2 ⟨y,H2,I2,r2,q2⟩ =>
  Bf (ho Z s2 U H2 x y v u _ I2 r1 r2 q2) λd s3 ⟨z,H3,I3,r3,k,e,q3⟩=>?_)) hm
 subst e;cases r3;refine jn ?_;cases k with
 |false=>exact ite_ff ⟨.bl false,H3,I3,rfl,q3⟩|true=>exact ite_tt (chain_last (Bf (hc Z s3 U H3 _ I3 q3) λw' s4 ⟨z',H4,I4,r4,q4⟩=>Tf Z s4 U H4 y z' u w' Q I4 r2 r4 q4))
def ap6{X:Cx}{a b c:Expr}{ta tb tc:TE}{pos:Pos}{L G:CmpOp}{r r':R2}(ho:Cy X (compareOp L) r)(Tf:Cy X (compareOp G) r')(ha:PE X a ta)(hb:PE X b tb)(hc:PE X c tc)
 (hm:lastMarks [L,G] [b,c]=false:=by with_unfolding_all rfl):PT X (.Compare a [L,G] [b,c] pos) (azt (abx r r' ta tb tc)):=by
 intro Z s U H Q I h;refine isTrue_chain (Bf (ha Z s U H _ I h) λv s1 ⟨x,H1,I1,r1,q1⟩=>test_link (Bf (hb Z s1 U H1 _ I1 q1) λu s2 ⟨y,H2,I2,r2,q2⟩ =>
  Bf (ho Z s2 U H2 x y v u _ I2 r1 r2 q2) λd s3 ⟨z,H3,I3,r3,k,e,q3⟩=>?_)) hm
 subst e;cases r3;refine jn ?_;cases k with
 |false =>
  obtain⟨k',e',q'⟩:=q3;cases e';exact ite_ff ⟨H3,I3,q'⟩
 |true =>
  refine ite_tt (test_last (Bf (hc Z s3 U H3 _ I3 q3) λw' s4 ⟨z',H4,I4,r4,q4⟩=>Bf (Tf Z s4 U H4 y z' u w' _ I4 r2 r4 q4) λd' s5 z_=>?_));obtain⟨z2,H5,I5,r5,k2,e2,q5⟩:=z_;subst e2;cases r5;exact jn ⟨H5,I5,q5⟩
def aby:(sizeLine:Nat)<2^63:=by rw[jw];decide
def vals1{x:V}{Z:Zl}(r:Vals [x] Z):∃u,Z=[u]/\RelV x u:=by
 cases r with
 |cons U G=>cases G;exact⟨_,rfl,U⟩
def vals2{x y:V}{Z:Zl}(r:Vals [x,y] Z):∃u w',Z=[u,w']/\RelV x u/\RelV y w':=by
 cases r with
 |cons G r2 =>
  cases r2 with
  |cons L U=>cases U;exact⟨_,_,rfl,G,L⟩
def alu{X:Cx}(L:X.calm=true):By X (.builtin "max") (λG H Q=>∃i j,G=[.int i,.int j]/\Q (.int (if j > i then j else i)) H):=by
 intro U s σ H G us Q I r h;obtain⟨i,j,rfl,q⟩:=h;obtain⟨u,w',rfl,⟨t,rfl⟩,⟨t',rfl⟩⟩:=vals2 r;refine max_two_ints (I.ok.hd L) λh' tk k=>⟨_,H,I.kept k,?_,q⟩
 by_cases Z:j > i
 .rw[bz Z,bz Z];exact⟨_,rfl⟩
 .rw[bc Z,bc Z];exact⟨_,rfl⟩
end L2
namespace L2
open PySem PySem.Spec PyProof.Rows
structure ahe(h:Heap)(x dx C:Addr)(mA:Zs):Prop where
 obj:h.get? x=some (PySem.W.instObj C dx)
 ns:h.Ns1 dx mA
 ne:dx≠x
set_option tactic.hygienic true in
def alv{h:Heap}{J:Addr}{G:Zs}(n:h.Ns1 J G):∃C,h.get? J=some C/\∀Z,PySem.W.lookIn Z C=some (G Z):=by
 obtain⟨o,U,ep,u,hd,R,_,hm⟩:=n;refine⟨o,u,λZ=>?_⟩;have e:=hm Z;unfold nsFind findBy at e;rw[<-Array.find?_toList]at e;unfold PySem.W.lookIn;rw[hd];dsimp only;split
 .rename_i y q
  rw[q]at e;exact lg some e
 .rename_i q
  rw[q]at e;have a:U.toList.any (·.refKey)=false:=by rw[List.any_eq_false];intro y L;obtain⟨z,t,Y⟩:=R y (Array.mem_toList_iff.mp L);simp[DictEntry.refKey,Y]
  have S:¬U.toList.any (·.refKey)=true:=by rw[a];exact ig
  rw[bc S];exact lg some e
def ahe.look{h:Heap}{x U C:Addr}{L:Zs}(I:ahe h x U C L):∃G,PySem.W.InstAt h x (PySem.W.instObj C U) C (some G)/\∀Z,PySem.W.lookIn Z G=some (L Z):=
 let ⟨G,ho,hl⟩:=alv I.ns
 ⟨G,⟨I.obj,rfl,rfl,ho⟩,hl⟩
def get_map{prog:Program}{w:World}{A:Around}{E:Y3}{s:Shared}{K:Fg}{x dx C:Addr}{L:Zs}{Z:Str}{v:Value}{G:Bool}{Q:Y3}(X:K.In s.heap)(I:ahe s.heap x dx C L)(hg:PySem.W.plainGet K C Z=true)(hh:PySem.W.hasDictIn K C=true)
 (ha:PySem.W.findIn K (.ref C) Z=some none) (hv:L Z=some v) (U:PySem.W.handedIn v=true) (h:Q v { s with toks:=s.toks+1 }) :
 wpAny (model prog w) A (getAttr (.ref x) Z G) Q E s:=by
 obtain⟨od,J,hl⟩:=I.look;exact PySem.W.get_value X J (PySem.W.plainGet_of hg).1 (PySem.W.findObj_own hh ha rfl (by rw[hl,hv])) U h
def ap7{prog:Program}{w:World}{A:Around}{E:Y3}{s:Shared}{K:Fg}{x dx C f:Addr}{G:Zs}{Z:Str}{pl:Sem Bool}{Q:Value×List Value->Shared->Prop}(X:K.In s.heap)(I:ahe s.heap x dx C G)(U:PySem.W.plainGet K C Z=true)
 (hf:PySem.W.findIn K (.ref C) Z=some (some (.ref f))) (ht:PySem.W.isFn K (.ref f)=true) (L:G Z=none) (h:Q (.ref f,[.ref x]) s) :
 wpAny (model prog w) A (getMethod (.ref x) Z pl) Q E s:=by
 obtain⟨od,J,hl⟩:=I.look;exact PySem.W.method_fn X J (PySem.W.plainGet_of U).1 (PySem.W.plainGet_of U).2 hf (beq_iff_eq.mp ht) (by show(PySem.W.lookIn Z od).map (·.isSome)=some false;rw[hl,L];rfl) h
def av4{prog:Program}{w:World}{A:Around}{E:Y3}{s:Shared}{K:Fg}{x G C:Addr}{mA:Zs}{Z:Str}{v:Value}{ns:X9}{Q:Unit->Shared->Prop}(X:K.In s.heap)(I:ahe s.heap x G C mA)
 (hs:PySem.W.findIn K (.ref C) "__setattr__"= some (some (.builtin "object.__setattr__"))) (hp:PySem.W.plainOver K C=true) (ht:PySem.W.takerIn K C Z=some none) (hh:PySem.W.hasDictIn K C=true)
 (hw:PySem.Within mA ns) (q0:ns.length<=sizeLine)
 (h:∀L,ahe L x G C (λy=>if y=Z then some v else mA y)->Heap.SameBut G s.heap L->Q () { s with heap:=L,toks:=s.toks+2 }) :
 wpAny (model prog w) A (setAttr (.ref x) Z v) Q E s:=by
 obtain⟨od,J,hl⟩:=I.look;refine PySem.W.set_plain X J hs (PySem.W.osa_open (s:={ s with toks:=s.toks+1 }) (r:=none) X J hp ht λb=>?_);obtain⟨cd,hc,Ut⟩:=PySem.W.any_some hh;have hx:s.heap.get? x=some ⟨.ref C,some G,.plain,#[]⟩:=I.obj;refine aa (aj (aa (aa (wpAny_loadPart hx (aa (PySem.W.Looks.here (s:={ s with toks:=s.toks+1 }) (PySem.W.looks_clsIn X hc) ?_))))));rw[Ut];refine aj (a:=some G) (aa (aj (aa ?_)));refine wpAny_nsSet1 (s:={ s with toks:=s.toks+1 }) I.ns λL Yy U=>?_
 obtain⟨oD,q1,q2,qk,qv,qq⟩:=Yy.count (PySem.Within.cons Z v hw);refine aa (wpAny_lookBehind qk (by rw[qv];exact pastItsLine_dict (gb qq (by rw[gq];exact v_ q0))) ?_);exact aj (h _ ⟨(U.2 _ (kj I.ne)).trans I.obj,Yy,I.ne⟩ U)
def ap8{prog:Program}{w:World}{A:Around}{s:Shared}{K:Fg}{C f:Addr}{R:Result->Shared->Prop}{G:Zl}{U:List (Str×Value)}(X:K.In s.heap)(hm:PySem.W.makesIn K C=true)
 (hi:PySem.W.findIn K (.ref C) "__init__"= some (some (.ref f))) (L:PySem.W.typeIn K (.ref f)=some (.type "function"))
 (h:codeAny (model prog w) (A.under (.builtin "type.__call__" ⟨.ref C::G,U⟩)) (.call (.ref f) ⟨.ref (s.heap.objs.size+1)::G,U⟩) (PySem.W.InitBack (s.heap.objs.size+1) R)
  { s with heap:=(s.heap.push PySem.W.emptyDict).push (PySem.W.instObj C s.heap.objs.size) }) :
 codeAny (model prog w) A (.call (.ref C) ⟨G,U⟩) R s:=by
 obtain⟨hh,g,d,t,os⟩:=s;exact PySem.W.make_core (PySem.W.makes_of X hm) (PySem.W.looks_findIn X hi) (λZ=>PySem.W.bind_fn X Z L) (.inl rfl) h
noncomputable def Ig(f:Str)(v:V):List (Str×V)->List (Str×V)
 |[]=>[(f,v)]|(g,x)::r=>if g=f then(g,v)::r else(g,x)::Ig f v r
theorem Vb(f g:Str)(v:V):∀fs:List (Str×V),(Ig f v fs).lookup g=if g=f then some v else fs.lookup g
 |[]=>by
  show List.lookup g [(f,v)]=_
  by_cases h:g=f
  .have Z:(g==f)=true:=beq_iff_eq.mpr h
   simp only[List.lookup,Z,bz h]
  .have Z:(g==f)=false:=vq.mpr h
   simp only[List.lookup,Z,bc h]
 |(k,x)::r=>by
  have U:=Vb f g v r;rw[show Ig f v ((k,x)::r)=(if k=f then(k,v)::r else(k,x)::Ig f v r)from rfl]
  by_cases G:k=f
  .rw[bz G]
   by_cases h:g=k
   .have Z:(g==k)=true:=beq_iff_eq.mpr h
    simp only[List.lookup,Z,bz (h.trans G)]
   .have Z:(g==k)=false:=vq.mpr h
    simp only[List.lookup,Z,bc (λe:g=f=>h (e.trans G.symm))]
  .rw[bc G]
   by_cases h:g=k
   .have Z:(g==k)=true:=beq_iff_eq.mpr h
    simp only[List.lookup,Z,bc (λe:g=f=>G (h.symm.trans e))]
   .have Z:(g==k)=false:=vq.mpr h
    simp only[List.lookup,Z];exact U
theorem Ua(f:Str)(v:V):∀fs:List (Str×V),f∈(Ig f v fs).map (·.1)/\∀g,g∈fs.map (·.1)->g∈(Ig f v fs).map (·.1)
 |[]=>⟨by simp[Ig],λg h=>by simp at h⟩
 |(k,x)::r=>by
  obtain⟨G,U⟩:=Ua f v r;rw[show Ig f v ((k,x)::r)=(if k=f then(k,v)::r else(k,x)::Ig f v r)from rfl]
  by_cases Z:k=f
  .rw[bz Z]
   subst Z;exact⟨by simp,λg h=>by simpa using h⟩
  .rw[bc Z]
   refine⟨?_,λg h=>?_⟩
   .rw[dj]
    exact bx _ G
   .rw[dj]at h⊢
    rcases cj.mp h with e|e
    .exact cj.mpr (.inl e)
    .exact bx _ (U g e)
theorem Vc(f:Str)(v:V):∀fs:List (Str×V),(Ig f v fs).length<=fs.length+1
 |[]=>by simp[Ig]
 |(k,x)::r=>by
  have G:=Vc f v r;rw[show Ig f v ((k,x)::r)=(if k=f then(k,v)::r else(k,x)::Ig f v r)from rfl]
  by_cases Z:k=f
  .rw[bz Z,gq,gq];exact x_
  .rw[bc Z,gq,gq];exact v_ G
def O7.some_of{v:V}{o:Option Value}(r:O7 (some v) o):∃u,o=some u/\RelV v u:=by
 cases o with
 |none=>exact(show False from r).elim
 |some u=>exact⟨u,rfl,r⟩
def O7.none_of{o:Option Value}(r:O7 none o):o=none:=by
 cases o with
 |none=>rfl|some u=>exact(show False from r).elim
def alw{v:V}{u:Value}(r:RelV v u):PySem.W.handedIn u=true:=by
 cases v with
 |non=>cases(show u=Value.none from r);rfl
 |bl b=>cases(show u=Value.bool b from r);rfl
 |int i=>obtain⟨t,e⟩:=(show ∃t,u=Value.int i t from r);cases e;rfl
 |str x=>obtain⟨t,e⟩:=(show ∃t,u=Value.str x t from r);cases e;rfl
 |byt b=>obtain⟨t,e⟩:=(show ∃t,u=Value.bytes b t from r);cases e;rfl
 |flt b=>obtain⟨t,e⟩:=(show ∃t,u=Value.float b t from r);cases e;rfl
 |ref a=>cases(show u=Value.ref a from r);rfl
 |ty n=>cases(show u=Value.type n from r);rfl
def J7{P:Program}{w:World}{H:Hp}{h:Heap}{a C G:Addr}{fs:List (Str×V)}(Ad:Pu P w H h)(e:H a=some (.ins C G fs)):∃Z,ahe h a G C Z/\(∀f,O7 (fs.lookup f) (Z f))/\PySem.Within Z (fs.map (·.1))/\fs.length<=1000/\H G=some (.own a):=by obtain⟨d,z,L,U,Z,n,r,q⟩:=(show zj P w H h a (.ins C G fs)from Ad a _ e);exact⟨Z,⟨U,n,L⟩,r,q,z,d⟩
structure Cls(K:Fg)(C:Addr):Prop where
 pg:PySem.W.plainGet K C Str.empty=true
 hd:PySem.W.hasDictIn K C=true
 po:PySem.W.plainOver K C=true
 sa:PySem.W.findIn K (.ref C) "__setattr__"= some (some (.builtin "object.__setattr__"))
def Cls.get{K:Fg}{C:Addr}(c:Cls K C)(f:Str):PySem.W.plainGet K C f=true:=c.pg
def Hu(K:Fg)(C:Addr)(f:Str):Prop:=PySem.W.findIn K (.ref C) f=some none
def Hu.taker{K:Fg}{C:Addr}{f:Str}(n:Hu K C f):PySem.W.takerIn K C f=some none:=by unfold PySem.W.takerIn;rw[show PySem.W.findIn K (.ref C) f=some none from n];rfl
structure Meth(K:Fg)(C:Addr)(m:Str)(f:Addr):Prop where
 at_:PySem.W.findIn K (.ref C) m=some (some (.ref f))
 fn:PySem.W.isFn K (.ref f)=true
 kp:PySem.W.keepIn K (.ref f)=true
def ahf{X:Cx}{Z:Zp}{L:St}{H:Hp}{s:Shared}{a C dx:Addr}{fs:List (Str×V)}{f:Str}{v:V}{A:Around}{E:Y3}{b:Bool}{Q:Y3}(I:Inv X Z L H s)(e:H a=some (.ins C dx fs))(c:Cls X.K C)(n:Hu X.K C f)(l:fs.lookup f=some v)
 (h:∀u U,Inv X Z L H U->RelV v u->Q u U):wpAny (model X.prog X.w) A (getAttr (.ref a) f b) Q E s:=by
 obtain⟨mA,O,r,_,_,_⟩:=J7 I.Ad e;obtain⟨u,hu,G⟩:=O7.some_of (v:=v) (o:=mA f) (by rw[<-l];exact r f);exact get_map I.T8 O (c.get f) c.hd n hu (alw G) (h u _ (I.tok _) G)
def Xi{X:Cx}{Z:Zp}{σ:St}{H:Hp}{s:Shared}{a C L:Addr}{fs:List (Str×V)}{A:Around}{E:Y3}{m:Str}{g:Addr}{pl:Sem Bool}{Q:Value×List Value->Shared->Prop}(I:Inv X Z σ H s)(e:H a=some (.ins C L fs))(c:Cls X.K C)(k:Meth X.K C m g)(l:fs.lookup m=none)
 (h:Q (.ref g,[.ref a]) s):wpAny (model X.prog X.w) A (getMethod (.ref a) m pl) Q E s:=by
 obtain⟨G,O,r,_,_,_⟩:=J7 I.Ad e;have U:G m=none:=O7.none_of (by rw[<-l];exact r m);exact ap7 I.T8 O (c.get m) k.at_ k.fn U h
def ahg{X:Cx}{Z:Zp}{σ:St}{H:Hp}{s:Shared}{a C G:Addr}{fs:List (Str×V)}{f:Str}{A:Around}{E:Y3}{y:V}{u:Value}{Q:Unit->Shared->Prop}(I:Inv X Z σ H s)(e:H a=some (.ins C G fs))(c:Cls X.K C)(n:Hu X.K C f)(L:fs.length<1000)(ry:RelV y u)
 (h:∀s',Inv X Z σ (upd H a (.ins C G (Ig f y fs))) s'->Q () s'):wpAny (model X.prog X.w) A (setAttr (.ref a) f u) Q E s:=by
 obtain⟨mA,O,r,wi,_,ho⟩:=J7 I.Ad e;have hz:(fs.map (·.1)).length<=sizeLine:=by rw[dg,jw];exact e_ (b_ L (by decide))
 refine av4 I.T8 O c.sa c.po n.taker c.hd wi hz λh' U sb=>h _ ?_
 have hd:∃o,h'.get? G=some o:=let ⟨o,_,_,e',_⟩:=U.ns;⟨o,e'⟩;refine I.write (x:=a) (e:=G) (by rw[e];exact True.intro) (.inr ho) (λb q hb z=>(sb.2 b hb).trans z) hd ?_;refine⟨by rw[j0 O.ne];exact ho,?_,O.ne,U.obj,_,U.ns,λg=>?_,λg hg=>?_⟩
 .have:=Vc f y fs;exact a_ this L
 .show O7 ((Ig f y fs).lookup g) (if g=f then some u else mA g)
  rw[Vb]
  by_cases q:g=f
  .rw[bz q,bz q];exact ry
  .rw[bc q,bc q];exact r g
 .by_cases q:g=f
  .rw[q];exact(Ua f y fs).1
  .refine(Ua f y fs).2 g (wi g λz=>hg ?_)
   show(if g=f then some u else mA g)=none;rw[bc q];exact z
def Inv.made{X:Cx}{Z:Zp}{U:St}{H:Hp}{s:Shared}{C:Addr}(I:Inv X Z U H s):Inv X Z U (upd (upd H s.heap.objs.size (.own (s.heap.objs.size+1))) (s.heap.objs.size+1) (.ins C s.heap.objs.size []))
 { s with heap:=(s.heap.push PySem.W.emptyDict).push (PySem.W.instObj C s.heap.objs.size) }:=by
 have L:(s.heap.push PySem.W.emptyDict).get? s.heap.objs.size=some PySem.W.emptyDict:=bu s.heap rfl;have e2:((s.heap.push PySem.W.emptyDict).push (PySem.W.instObj C s.heap.objs.size)).get? (s.heap.objs.size+1)=some (PySem.W.instObj C s.heap.objs.size):=by
  have:=bu (s.heap.push PySem.W.emptyDict) (o:=PySem.W.instObj C s.heap.objs.size) rfl
  rwa [jt]at this
 have e3:(s.heap.push PySem.W.emptyDict).Ns s.heap.objs.size (λ_=>none):=⟨PySem.W.emptyDict,#[],_,L,rfl,(λe he=>absurd he (by simp)),λ_=>rfl⟩;have I1:=I.laid (a:=s.heap.objs.size) (o:=.own (s.heap.objs.size+1)) (h':=s.heap.push PySem.W.emptyDict) (t':=s.toks) (λb u q=>ao _ q) (cg _) ⟨_,L⟩;refine I1.laid (a:=s.heap.objs.size+1) (o:=.ins C s.heap.objs.size []) (t':=s.toks) (λb u q=>ao _ q) (Nat.le_of_eq (jt _ _)) ?_;have G:s.heap.objs.size≠s.heap.objs.size+1:=dq (qw _);refine⟨by rw[j0 G,wz],iy _,G,e2,λ_=>none,(Heap.Ns1.of_empty e3).at λo q=>ao _ q,λ_=>True.intro,λy hy=>absurd rfl hy⟩
def av5{A:Around}{E:Y3}{prog:Program}{w:World}{Z:Env}{e:Expr}{f:Str}{pos:Pos}{s:Shared}{Q:Y3}(U:attributeBase e f Z (eval e Z)=eval e Z)
 (h:wpAny (model prog w) A (eval e Z) (λo G=>wpAny (model prog w) A (getAttr o f true) Q E G) E s):wpAny (model prog w) A (eval (.Attribute e f pos) Z) Q E s:=
 Attribute_any_ h (by rw[arm_eval_Attribute,U])
def bgt(K:Fg)(L:TE)(f:Str):TE:=λU H Q=>L U H λx Z=>∃a C G fs v,x=.ref a/\Z a=some (.ins C G fs)/\Cls K C/\Hu K C f/\fs.lookup f=some v/\Q v Z
def bgu(K:Fg)(ta L:TE)(f:Str):TS:=λD Z H=>L Z H λy H1=>ta Z H1 λx U=>∃a C G fs,x=.ref a/\U a=some (.ins C G fs)/\Cls K C/\Hu K C f/\fs.length<1000 /\
 D.nx Z (upd U a (.ins C G (Ig f y fs)))
def a3u{X:Cx}{e:Expr}{f:Str}{pos:Pos}{G:TE}(L:PE X e G)(hb:attributeBase e f X.env (eval e X.env)=eval e X.env):PE X (.Attribute e f pos) (bgt X.K G f):=by intro Z s σ H Q I h;refine av5 hb (Bf (L Z s σ H _ I h) λu s1 z_=>?_);obtain⟨x,H1,I1,rx,a,C,dx,fs,v,ex,ea,c,n,l,q⟩:=z_;subst ex;obtain rfl:u=Value.ref a:=rx;exact ahf I1 ea c n l λu' s2 I2 U=>⟨v,H1,I2,U,q⟩
def a3v{X:Cx}{o Z:Expr}{f:Str}{pos U:Pos}{ta tv:TE}(ha:PE X o ta)(hv:PE X Z tv)(hs:swapsWith Z (some (.Attribute o f U)) pos.line X.env=pure false):PS X (.Assign [.Attribute o f U] Z pos) (bgu X.K ta tv f):=by intro G s L H D I h;refine plainObj_wpAny_Assign_Attribute (Bf (hv G s L H _ I h) λu s1 ⟨y,H1,I1,ry,q⟩=>Bf (ha G s1 L H1 _ I1 q) λov s2 ⟨x,H2,I2,rx,a,C,dx,fs,ex,ea,c,n,l,q2⟩=>?_) hs;subst ex;obtain rfl:ov=Value.ref a:=rx;exact ahg I2 ea c n l ry λs3 I3=>⟨L,_,I3,q2⟩
inductive Vs(K:Fg)(H:Hp):V->Value->Prop where
 |non:Vs K H .non (.type "NoneType")
 |bl (x:Bool):Vs K H (.bl x) (.type "bool")
 |int (i:Int):Vs K H (.int i) (.type "int")
 |str (x:Str):Vs K H (.str x) (.type "str")
 |flt (x:UInt64):Vs K H (.flt x) (.type "float")
 |lst {a:Addr} {xs:List V} (e:H a=some (.lst xs)):Vs K H (.ref a) (.type "list")
 |Ox {a:Addr} {o:Obj} {xs:List V} (e:H a=some (.Ox o (.lst xs))):Vs K H (.ref a) (.type "list")
 |tup {a:Addr} {xs:List V} (e:H a=some (.tup xs)):Vs K H (.ref a) (.type "tuple")
 |dK {a:Addr} {kvs:List (Key×V)} (e:H a=some (.dK kvs)):Vs K H (.ref a) (.type "dict")
 |dT {a:Addr} {kvs:List (List Key×V)} (e:H a=some (.dT kvs)):Vs K H (.ref a) (.type "dict")
 |ins {a C dx:Addr} {fs:List (Str×V)} (e:H a=some (.ins C dx fs)) (cl:Cls K C) (ha:PySem.W.findIn K (.ref C) "__class__"= some (some (.builtin "object.__class__")))
  (hn:PySem.W.specialIn K (.builtin "object.__class__") "__get__"= some (some (.builtin "getset_descriptor.__get__"))) (htk:PySem.W.takesIn K (.builtin "object.__class__")=some true)
  (hm:PySem.W.mroIn K C (.type "object")=some true):Vs K H (.ref a) (.ref C)
def Z4{X:Cx}{qq:Zp}{σ:St}{H:Hp}{s:Shared}{A:Around}{E Q:Y3}{c:Value}{b:Bool}{x:V}{u t:Value}(I:Inv X qq σ H s)(Z:RelV x u)(ty:Vs X.K H x t)(e:PySem.W.kitOne X.K t c=some b)(h:∀tk,Q (.bool b) { s with toks:=tk }) :
 wpAny (model X.prog X.w) A (call (.builtin "isinstance") [u,c]) Q E s:=by
 cases ty with
 |non=>cases(show u=Value.none from Z);exact ql PySem.W.kitx_none I.T8 True.intro e (λz=>nomatch z) h
 |bl y=>cases(show u=Value.bool y from Z);exact ql PySem.W.kitx_bool I.T8 True.intro e (λz=>nomatch z) h
 |int i=>obtain⟨t,q⟩:=(show ∃t,u=Value.int i t from Z);cases q;exact ql PySem.W.kitx_int I.T8 True.intro e (λz=>nomatch z) h
 |str y=>obtain⟨t,q⟩:=(show ∃t,u=Value.str y t from Z);cases q;exact ql PySem.W.kitx_str I.T8 True.intro e (λz=>nomatch z) h
 |flt y=>obtain⟨t,q⟩:=(show ∃t,u=Value.float y t from Z);cases q;exact ql PySem.W.kitx_float I.T8 True.intro e (λz=>nomatch z) h
 |@lst a U ea =>
  cases(show u=Value.ref a from Z);obtain⟨_,_,n,_,G⟩:=(show zj X.prog X.w H s.heap a (.lst U)from I.Ad a _ ea);exact ql PySem.W.kitx_list I.T8 ⟨_,G,rfl⟩ e (λz=>nomatch z) h
 |@Ox a ob U ea =>
  cases(show u=Value.ref a from Z);obtain⟨_,_,_,n,_,G⟩:=(show zj X.prog X.w H s.heap a (.Ox ob (.lst U))from I.Ad a _ ea);exact ql PySem.W.kitx_list I.T8 ⟨_,G,rfl⟩ e (λz=>nomatch z) h
 |@tup a U ea =>
  cases(show u=Value.ref a from Z);obtain⟨_,_,_,p⟩:=(show zj X.prog X.w H s.heap a (.tup U)from I.Ad a _ ea);obtain⟨o,G,L,_⟩:=p;exact ql PySem.W.kitx_tuple I.T8 ⟨o,G,L⟩ e (λz=>nomatch z) h
 |@dK a kvs ea =>
  cases(show u=Value.ref a from Z);obtain⟨_,_,vs,_,p⟩:=(show zj X.prog X.w H s.heap a (.dK kvs)from I.Ad a _ ea);obtain⟨o,es,ep,G,L,_⟩:=p;exact ql PySem.W.kitx_dict I.T8 ⟨o,G,L.1⟩ e (λz=>nomatch z) h
 |@dT a kvs ea =>
  cases(show u=Value.ref a from Z);obtain⟨_,_,U,_,o,es,ep,G,L,_⟩:=(show zj X.prog X.w H s.heap a (.dT kvs)from I.Ad a _ ea);exact ql PySem.W.kitx_dict I.T8 ⟨o,G,L.1⟩ e (λz=>nomatch z) h
 |@ins a C dx fs ea cl ha hn htk hm =>
  cases(show u=Value.ref a from Z);obtain⟨mA,O,_⟩:=J7 I.Ad ea;obtain⟨od,J,_⟩:=O.look;exact ql (PySem.W.kitx_own (cl.get _) cl.hd ha hn htk hm) I.T8 J e (λz=>nomatch z) h
end L2
namespace L2
open PySem PySem.Spec PyProof.Rows
structure zp(k:Nat)(A:Around):Prop where
 hd:A.handled=none
 dp:A.depth+3*k+5<recursionLimit
 un:A.units+16*k+200<cLine
def zp.mono{j k:Nat}{A:Around}(r:zp k A)(h:j<=k):zp j A:=⟨r.hd,by have:=r.dp;lia,by have:=r.un;lia⟩
theorem zp.deeper{k:Nat}{A:Around}(r:zp (k+1) A)(Z:Env):zp k (A.deeper Z):=
 ⟨r.hd,by have:=r.dp;show A.depth+1+3*k+5<_;lia,by have:=r.un;show A.units+3+16*k+200<_;lia⟩
theorem zp.in1{k:Nat}{A:Around}(r:zp (k+1) A):zp k A.in1:=
 ⟨r.hd,by have:=r.dp;show A.depth+3*k+5<_;lia,by have:=r.un;show A.units+1+16*k+200<_;lia⟩
def ahh{A:Around}{C:Addr}{G:Zl}{Z:List (Str×Value)}:(A.under (.builtin "type.__call__" ⟨.ref C::G,Z⟩)).depth=A.depth+1:=by first|rfl|simp[Around.under,Code.weight,Code.isCreation,Code.isGuard,Code.isCaller,Code.frames,Code.isFrame,guardIds]
def ahi{A:Around}{C:Addr}{G:Zl}{Z:List (Str×Value)}:(A.under (.builtin "type.__call__" ⟨.ref C::G,Z⟩)).units=A.units+1:=by first|rfl|simp[Around.under,Code.cUnits,Code.frames,Code.isFrame]
def zp.make{k:Nat}{A:Around}(r:zp (k+1) A)(C:Addr)(G:Zl)(Z:List (Str×Value)):zp k (A.under (.builtin "type.__call__" ⟨.ref C::G,Z⟩)):=
 ⟨r.hd,by have:=r.dp;rw[ahh];lia,by have:=r.un;rw[ahi];lia⟩
theorem zp.depth{k:Nat}{A:Around}(r:zp k A):A.depth<recursionLimit:=by have:=r.dp;lia
theorem zp.units{k:Nat}{A:Around}(r:zp k A):A.units+64<cLine:=by have:=r.un;lia
def zp.Xj{k:Nat}{A:Around}(r:zp k A):A.units<cLine:=by have:=r.un;lia
def bab:TA:=λ_ H Q=>Q [] H
def bac(ta:TE)(tr:TA):TA:=λZ H Q=>ta Z H λx U=>tr Z U λG L=>Q (x::G) L
def a3w{X:Cx}:PA X [] bab:=λ_ _ _ _ H Q I h=>uv ⟨[],H,I,.nil,h⟩
def av6{X:Cx}{e:Expr}{G:X0}{L:TE}{t:TA}(ha:PE X e L)(hr:PA X G t)(hs:starEach (e::G) X.env=(false,eval e X.env)::starEach G X.env:=by rfl):PA X (e::G) (bac L t):=by intro pos Z s U H Q I h;rw[hs];show wpAny _ _ (spliced ((false,eval e X.env)::backTo pos (starEach G X.env))) _ _ s;refine kh (Bf (ha Z s U H _ I h) λu s1 z_=>?_);obtain⟨x,H1,I1,r1,q1⟩:=z_;exact Bf (hr pos Z s1 U H1 _ I1 q1) λus s2 ⟨xs,H2,I2,r2,q2⟩=>⟨x::xs,H2,I2,.cons r1 r2,q2⟩
def bgv(t:TA):TE:=λU H Q=>t U H λZ G=>Z.length<=sizeLine/\∀p,G p=none->Q (.ref p) (upd G p (.tup Z))
def bgw(t:TA):TE:=λU H Q=>t U H λZ G=>Z.length<=sizeLine/\∀p,G p=none->Q (.ref p) (upd G p (.lst Z))
def a3x{X:Cx}{U:X0}{t:TA}{pos:Pos}{L}(h:PA X U t):PE X (.Tuple U L pos) (bgv t):=by intro Z s σ H Q I hq;refine wpAny_Tuple_spliced (Bf (h pos Z s σ H _ I hq) λus G ⟨xs,H1,I1,r,z,q⟩=>⟨by rw[<-r.length];exact z,?_⟩);have hf:H1 G.heap.objs.size=none:=I1.Ad.fresh (cg _);refine⟨.ref G.heap.objs.size,upd H1 G.heap.objs.size (.tup xs),I1.laid (t':=G.toks) (λb u e=>ao _ e) (cg _) ?_,rfl,q _ hf⟩;exact⟨z,us,r,Y6.new _ _⟩
def ap9{X:Cx}{U:X0}{t:TA}{pos:Pos}(h:PA X U t):PE X (.List U pos) (bgw t):=by intro Z s σ H Q I L;refine wpAny_List_spliced (Bf (h pos Z s σ H _ I L) λus G ⟨xs,H1,I1,r,z,q⟩=>⟨by rw[<-r.length];exact z,?_⟩);have hf:H1 G.heap.objs.size=none:=I1.Ad.fresh (cg _);refine⟨.ref G.heap.objs.size,upd H1 G.heap.objs.size (.lst xs),I1.laid (t':=G.toks) (λb u e=>ao _ e) (cg _) ?_,rfl,q _ hf⟩;exact⟨z,us,0,r,bu _ rfl⟩
abbrev Sp:=List V->Hp->VK->XK->Prop
abbrev CXT:=List Env->Hp->Shared->XK->Value->Shared->Prop
structure ahk(P:Program)(w:World)(K:Fg)(mg:Zs)(base:Heap)(A:Around)(outer:List Env)(s:Shared)(H:Hp):Prop where
 frames:A.frames=some outer
 mod:Mod K mg base
 bs:∀b o,base.get? b=some o->s.heap.get? b=some o/\H b=none
 bsz:base.objs.size<=s.heap.objs.size
 Vq:s.heap.FunFrames base outer
 frf:∀b∈frs outer,H b=none
 Ad:Pu P w H s.heap
 bare:AllBare s.gens
def CE(Z:List Env)(P:Program)(w:World)(H:Hp)(s:Shared)(Q:VK)(u:Value)(G:Shared):Prop:=
 ∃v U,G.os=s.os/\AllBare G.gens/\Un (frs Z) [] H U s.heap G.heap/\Pu P w U G.heap/\RelV v u/\Q v U
def CR(U:CXT)(Z:List Env)(P:Program)(w:World)(H:Hp)(s:Shared)(Q:VK)(E:XK)(r:Result)(G:Shared):Prop:=
 match r with
 |.ok (.ret u)=>CE Z P w H s Q u G|.ok _=>False|.error e=>U Z H s E e G
structure Ff(P:Program)(w:World)(K:Fg)(mg:Zs)(base:Heap)(CX:CXT)(k:Nat)(f:Addr)(fd:FuncData)(ps:X9)(sp:Sp):Prop where
 len:∀vs H Q E,sp vs H Q E->vs.length=ps.length
 run:∀(A:Around)(outer:List Env)(s:Shared)(H:Hp)(args:Args)(us:Zl)(vs:List V)(Q:VK)(E:XK),zp k A->ahk P w K mg base A outer s H->BindsTo s fd args (ps.zip us)->Vals vs us->sp vs H Q E ->
  codeAny (model P w) A (.call (.ref f) args) (CR CX outer P w H s Q E) s
def Ff.imp{P:Program}{w:World}{K:Fg}{mg:Zs}{Z:Heap}{CX:CXT}{k:Nat}{f:Addr}{fd:FuncData}{ps:X9}{sp sp':Sp}(F:Ff P w K mg Z CX k f fd ps sp)
 (h:∀U H Q E,sp' U H Q E->sp U H Q E):Ff P w K mg Z CX k f fd ps sp':=
 ⟨λU H Q E q=>F.len U H Q E (h _ _ _ _ q),λA G s H L us U Q E hr he hb hv hs=>F.run A G s H L us U Q E hr he hb hv (h _ _ _ _ hs)⟩
def ahk.make{P:Program}{w:World}{K:Fg}{mg:Zs}{G:Heap}{A:Around}{Z:List Env}{s:Shared}{H:Hp}(e:ahk P w K mg G A Z s H)(C:Addr)(L:Zl)(U:List (Str×Value)) :
 ahk P w K mg G (A.under (.builtin "type.__call__" ⟨.ref C::L,U⟩)) Z s H:=⟨by first|exact e.frames|(simpa[Around.under,Code.envs,Code.isFrame,pushEnvs]using e.frames),e.mod,e.bs,e.bsz,e.Vq,e.frf,e.Ad,e.bare⟩
def Inv.env0{X:Cx}{Z:Zp}{G:St}{H:Hp}{s:Shared}(I:Inv X Z G H s):ahk X.prog X.w X.K X.mg X.base X.A X.stack s H:=
 ⟨I.ok.frames,I.ok.mod,I.bs,gb I.ok.bsz I.sz,I.stack,I.ai6,I.Ad,I.bare⟩
def Inv.after{X:Cx}{Z:Zp}{L:St}{H:Hp}{s s':Shared}{Q:VK}{u:Value}(I:Inv X Z L H s)(h:CE X.stack X.prog X.w H s Q u s'):EP X Z L Q u s':=by obtain⟨v,H',os,G,un,Ad,r,q⟩:=h;obtain⟨hh,g,d,t,U⟩:=s';obtain rfl:U=s.os:=os;exact⟨v,H',I.call (h':=hh) (g':=g) (d':=d) (t':=t) (ch:=[]) un Ad G (λb z=>absurd z (by simp)),r,q⟩
def bae(G:Sp)(U:List V)(E:XK)(t:TA):TE:=λL H Q=>t L H λZ H1=>G (Z++U) H1 Q E
def azu(C:Addr)(m:Str)(sp:Sp)(Vd:List V)(E:XK)(ta:TE)(t:TA):TE:=λZ H Q=>ta Z H λx G=>∃a L fs,x=.ref a/\G a=some (.ins C L fs)/\fs.lookup m=none /\
 t Z G λU H2=>sp (x::(U++Vd)) H2 Q E
def baf(C:Addr)(L:Sp)(Vd:List V)(E:XK)(t:TA):TE:=fun σ H Q=>t σ H λU G=>∀x Z,G x=none->G Z=none->Z≠x ->
 L (.ref x::(U++Vd)) (upd (upd G Z (.own x)) x (.ins C Z [])) (λv H2=>v=.non/\Q (.ref x) H2) E
def Binds(K:Fg)(L:FuncData)(U:X9)(G:Zl):Prop:=
 ∀(s:Shared)(Z:Zl),K.In s.heap->(Z++G).length=U.length->BindsTo s L ⟨Z,[]⟩ (U.zip (Z++G))
def Binds.all{K:Fg}{L:FuncData}{G:X9}(h:∀Z:List Value,Z.length=G.length->bindArgs L ⟨Z,[]⟩=pure (G.zip Z)):Binds K L G []:=λs Z _ U=>by rw[xr]at U⊢;exact .of_eq (h Z U)
def Passes(U:CXT)(X:Cx)(E:XK):Prop:=∀(Z:Zp)(L:St)(H:Hp)(s:Shared)(e:Value)(G:Shared),Inv X Z L H s->U X.stack H s E e G->X.xe e G
def ahl{X:Cx}{CX:CXT}{k:Nat}{f:Addr}{fd:FuncData}{ps:X9}{sp:Sp}{L:List V}{G:Zl}{E:XK}{Z:Zp}{σ:St}{H:Hp}{s:Shared}{Q:VK}{us:Zl}{vs:List V}(F:Ff X.prog X.w X.K X.mg X.base CX k f fd ps sp)(hr:zp k X.A)(hb:Binds X.K fd ps G)(hd:Vals L G)(hx:Passes CX X E)
 (I:Inv X Z σ H s) (r:Vals vs us) (h:sp (vs++L) H Q E):wpAny (model X.prog X.w) X.A (call (.ref f) us) (EP X Z σ Q) X.xe s:=by
 have r2:Vals (vs++L) (us++G):=r.append hd;have hl:(us++G).length=ps.length:=by rw[<-r2.length];exact F.len _ _ _ _ h
 refine wpAny_call (ue (F.run X.A X.stack s H ⟨us,[]⟩ (us++G) (vs++L) Q E hr I.env0 (hb s us I.T8 hl) r2 h) λr s' U=>?_);cases r with
 |error e=>exact hx Z σ H s e s' I U
 |ok fl =>
  cases fl with
  |ret u=>exact I.after U|next=>exact False.elim U|brk=>exact False.elim U|cont=>exact False.elim U
def av7{X:Cx}{CX:CXT}{k:Nat}{f:Addr}{fd:FuncData}{ps:X9}{sp:Sp}{L:List V}{U:Zl}{E:XK}{x:Str}{p pos:Pos}{e:Expr}{Z:X0}{t:TA}(F:Ff X.prog X.w X.K X.mg X.base CX k f fd ps sp)(hr:zp k X.A)(hg:Gl X x)(hm:X.mg x=some (.ref f))(hk:PySem.W.keepIn X.K (.ref f)=true)(hb:Binds X.K fd ps U)(hd:Vals L U)(hx:Passes CX X E)
 (ha:PA X (e::Z) t) (Q4:(x==("__debug__": Str))=false:=by decide) (he:starEach (e::Z) X.env=(false,eval e X.env)::starEach Z X.env:=by rfl) (Hz:(backTo pos (starEach Z X.env)).any (·.1)=false:=by rfl) :
 PE X (.Call (.Name x p) (e::Z) [] pos) (bae sp L E t):=by
 intro G s σ H Q I h;refine jd (abv I hg hm ?_ Q4);refine PySem.W.callWith_K (h₀:=X.base) I.ok.mod.kin hk (Bf (ha pos G s σ H _ I h) λus s1 ⟨vs,H1,I1,r,q⟩=>⟨I1.T8,?_⟩) he Hz;exact ahl F hr hb hd hx I1 r q
def av8{X:Cx}{CX:CXT}{k:Nat}{f C:Addr}{fd:FuncData}{ps:X9}{sp:Sp}{Vd:List V}{L:Zl}{E:XK}{m:Str}{pos Z:Pos}{e o:Expr}{U:X0}{ta:TE}{t:TA}{pl:Sem Bool}(he:PE X o ta)(c:Cls X.K C)(hm:Meth X.K C m f)(F:Ff X.prog X.w X.K X.mg X.base CX k f fd ps sp)(hr:zp k X.A)(hb:Binds X.K fd ps L)(hd:Vals Vd L)(hx:Passes CX X E)(ha:PA X (e::U) t)
 (Yx:starEach (e::U) X.env=(false,eval e X.env)::starEach U X.env:=by rfl) (Hz:(backTo pos (starEach U X.env)).any (·.1)=false:=by rfl)
 (ht:eval (.Call (.Attribute o m Z) (e::U) [] pos) X.env=(do
  let ov<-eval o X.env
  standAt Z.atName
  let (f,first) <-holding [ov] (getMethod ov m pl)
  callWith pos f first (backTo pos (starEach (e::U) X.env)) (backToKw pos (keywordEach [] X.env))):=by rfl) :
 PE X (.Call (.Attribute o m Z) (e::U) [] pos) (azu C m sp Vd E ta t):=by
 intro G s σ H Q I h;refine PySem.W.methodCall_KW (pl:=pl) (Bf (he G s σ H _ I h) λu s1 ⟨x,H1,I1,rx,a,dx,fs,ex,ea,l,q⟩=>?_) ht;subst ex;obtain rfl:u=Value.ref a:=rx;refine Xi I1 ea c hm l ?_;refine PySem.W.callWith_K (first:=[.ref a]) (h₀:=X.base) I.ok.mod.kin hm.kp (Bf (ha pos G s1 σ H1 _ I1 q) λus s2 ⟨vs,H2,I2,r,q2⟩=>⟨I2.T8,?_⟩) Yx Hz;exact ahl (us:=.ref a::us) (vs:=.ref a::vs) F hr hb hd hx I2 (.cons rfl r) q2
def aqa{X:Cx}{CX:CXT}{k:Nat}{f C:Addr}{fd:FuncData}{ps:X9}{sp:Sp}{Vd:List V}{U:Zl}{E:XK}{m:Str}{pos Z:Pos}{o:Expr}{ta:TE}{pl:Sem Bool}(he:PE X o ta)(c:Cls X.K C)(L:Meth X.K C m f)(F:Ff X.prog X.w X.K X.mg X.base CX k f fd ps sp)(hr:zp k X.A)(hb:Binds X.K fd ps U)(hd:Vals Vd U)(hx:Passes CX X E)
 (ht:eval (.Call (.Attribute o m Z) [] [] pos) X.env=(do
  let ov<-eval o X.env
  standAt Z.atName
  let (f,first) <-holding [ov] (getMethod ov m pl)
  callWith pos f first (backTo pos (starEach [] X.env)) (backToKw pos (keywordEach [] X.env))):=by rfl) :
 PE X (.Call (.Attribute o m Z) [] [] pos) (azu C m sp Vd E ta bab):=by
 intro G s σ H Q I h;refine PySem.W.methodCall_KW (pl:=pl) (Bf (he G s σ H _ I h) λu s1 ⟨x,H1,I1,rx,a,dx,fs,ex,ea,l,q⟩=>?_) ht;subst ex;obtain rfl:u=Value.ref a:=rx;refine Xi I1 ea c L l ?_;exact PySem.W.callWith_K0 (first:=[.ref a]) I1.T8 L.kp (ahl (us:=[.ref a]) (vs:=[.ref a]) F hr hb hd hx I1 (.cons rfl .nil) q)
structure Mk(K:Fg)(C f:Addr):Prop where
 makes:PySem.W.makesIn K C=true
 init:PySem.W.findIn K (.ref C) "__init__"= some (some (.ref f))
 fn:PySem.W.isFn K (.ref f)=true
 kp:PySem.W.keepIn K (.ref C)=true
def aqb{X:Cx}{CX:CXT}{k:Nat}{f C:Addr}{fd:FuncData}{ps:X9}{sp:Sp}{Vd:List V}{L:Zl}{E:XK}{Z:Zp}{σ:St}{H:Hp}{s:Shared}{Q:VK}{U:Zl}{vs:List V}(M:Mk X.K C f)(F:Ff X.prog X.w X.K X.mg X.base CX k f fd ps sp)(hr:zp (k+1) X.A)(hb:Binds X.K fd ps L)(hd:Vals Vd L)
 (hx:Passes CX X E) (I:Inv X Z σ H s) (r:Vals vs U)
 (h:∀x dx,H x=none->H dx=none->dx≠x->sp (.ref x::(vs++Vd)) (upd (upd H dx (.own x)) x (.ins C dx [])) (λv H2=>v=.non/\Q (.ref x) H2) E) :
 wpAny (model X.prog X.w) X.A (call (.ref C) U) (EP X Z σ Q) X.xe s:=by
 have hq:=h (s.heap.objs.size+1) s.heap.objs.size (I.Ad.fresh (ur _)) (I.Ad.fresh (cg _)) (dq (qw _));have I2:=Inv.made (C:=C) I;have r2:Vals (V.ref (s.heap.objs.size+1)::(vs++Vd)) (Value.ref (s.heap.objs.size+1)::(U++L)):=.cons rfl (r.append hd);have hl:(Value.ref (s.heap.objs.size+1)::U++L).length=ps.length:=by have e:=r2.length;rw[F.len _ _ _ _ hq]at e;exact e.symm
 refine wpAny_call (ap8 (f:=f) I.T8 M.makes M.init (beq_iff_eq.mp M.fn) (ue (F.run _ X.stack _ _ ⟨Value.ref (s.heap.objs.size+1)::U,[]⟩ (Value.ref (s.heap.objs.size+1)::(U++L)) _ _ E (hr.make C U [])
  (I2.env0.make C U []) (hb _ (Value.ref (s.heap.objs.size+1)::U) I2.T8 hl) r2 hq) λr s' G=>?_))
 cases r with
 |error e=>exact hx Z σ _ _ e s' I2 G
 |ok fl =>
  cases fl with
  |ret u =>
   obtain⟨v,H',I3,rv,ev,q3⟩:=I2.after G;subst ev;exact⟨rv,⟨V.ref (s.heap.objs.size+1),H',I3,rfl,q3⟩⟩
  |next=>exact False.elim G|brk=>exact False.elim G|cont=>exact False.elim G
def av9{X:Cx}{CX:CXT}{k:Nat}{f C:Addr}{fd:FuncData}{ps:X9}{sp:Sp}{L:List V}{U:Zl}{E:XK}{x:Str}{p pos:Pos}{e:Expr}{Z:X0}{t:TA}(M:Mk X.K C f)(F:Ff X.prog X.w X.K X.mg X.base CX k f fd ps sp)(hr:zp (k+1) X.A)(hg:Gl X x)(hm:X.mg x=some (.ref C))(hb:Binds X.K fd ps U)(hd:Vals L U)(hx:Passes CX X E)
 (ha:PA X (e::Z) t) (Q4:(x==("__debug__": Str))=false:=by decide) (he:starEach (e::Z) X.env=(false,eval e X.env)::starEach Z X.env:=by rfl) (Hz:(backTo pos (starEach Z X.env)).any (·.1)=false:=by rfl) :
 PE X (.Call (.Name x p) (e::Z) [] pos) (baf C sp L E t):=by
 intro G s σ H Q I h;refine jd (abv I hg hm ?_ Q4);refine PySem.W.callWith_K (h₀:=X.base) I.ok.mod.kin M.kp (Bf (ha pos G s σ H _ I h) λus s1 ⟨vs,H1,I1,r,q⟩=>⟨I1.T8,?_⟩) he Hz;exact aqb M F hr hb hd hx I1 r q
structure V6(N P:X9)(sc:Scope):Prop where
 kind:sc.kind=.function
 co:sc.isCoroutine=false
 gen:sc.isGenerator=false
 nd:N.Nodup
 pre:N.take P.length=P
 par:∀x∈P,sc.names.lookup x=some .local\/sc.names.lookup x=some .cell
 a3y:∀y∈sc.names,y.2≠.free
theorem Z5{Z:Str->Option NameKind}{x:Str}:∀{binds:List (Str×Value)}{m:Zs},(∀v,(x,v)∉binds)->bindL Z binds m x=m x
 |[],_,_=>rfl
 |(n,v)::r,m,h=>by
  unfold bindL;rw[Z5 λw G=>h w (bx _ G)];split
  .have:x≠n:=by rintro rfl;exact h v dh
   simp[this]
  .rfl
theorem Z6{Z:Str->Option NameKind}{x:Str}:∀{binds:List (Str×Value)}{m:Zs},(∀v,(x,v)∉binds)->bindC Z binds m x=m x
 |[],_,_=>rfl
 |(n,v)::r,m,h=>by
  unfold bindC;rw[Z6 λw G=>h w (bx _ G)];split
  .rfl
  .have:x≠n:=by rintro rfl;exact h v dh
   simp[this]
theorem Z7{Z:Str->Option NameKind}{x:Str}{v:Value}:∀{P:X9}{G:Zl}{i:Nat}{m:Zs},P.Nodup->P[i]?=some x->G[i]?=some v->Z x=some .local ->
 bindL Z (P.zip G) m x=some v
 |[],_,_,_,_,h,_,_=>by simp at h|_::_,[],_,_,_,_,h,_=>by simp at h
 |p::P,w::G,0,m,nd,h1,h2,hk=>by
  simp at h1 h2;subst h1;subst h2;show bindL Z ((p,w)::P.zip G) m p=_;unfold bindL;rw[Z5 λv U=>(ju.mp nd).1 (List.of_mem_zip U).1,bz hk];simp
 |p::P,w::G,i+1,m,nd,h1,h2,hk=>by
  show bindL Z ((p,w)::P.zip G) m x=_;unfold bindL;exact Z7 (i:=i) (ju.mp nd).2 (by simpa using h1) (by simpa using h2) hk
theorem Z8{Z:Str->Option NameKind}{x:Str}{v:Value}:∀{P:X9}{G:Zl}{i:Nat}{m:Zs},P.Nodup->P[i]?=some x->G[i]?=some v->Z x≠some .local ->
 bindC Z (P.zip G) m x=some v
 |[],_,_,_,_,h,_,_=>by simp at h|_::_,[],_,_,_,_,h,_=>by simp at h
 |p::P,w::G,0,m,nd,h1,h2,hk=>by
  simp at h1 h2;subst h1;subst h2;show bindC Z ((p,w)::P.zip G) m p=_;unfold bindC;rw[Z6 λv U=>(ju.mp nd).1 (List.of_mem_zip U).1,bc hk];simp
 |p::P,w::G,i+1,m,nd,h1,h2,hk=>by
  show bindC Z ((p,w)::P.zip G) m x=_;unfold bindC;exact Z8 (i:=i) (ju.mp nd).2 (by simpa using h1) (by simpa using h2) hk
noncomputable def start(N:X9)(Z:List V):St:=Z.map some++List.replicate (N.length-Z.length) none
noncomputable def ahm(CX:CXT)(P:Program)(w:World)(K:Fg)(mg:Zs)(base:Heap)(N:X9)(G:Str)(Z:Scope)(f:Addr)(L:Value)(A:Around)(outer:List Env)(s:Shared)(H:Hp)(E:XK):Cx where
 prog:=P
 w:=w
 K:=K
 mg:=mg
 base:=base
 A:=A.deeper (envOfC G Z s.heap.objs.size f L)
 N:=N
 s₀:=s
 H₀:=H
 env:=envOfC G Z s.heap.objs.size f L
 outer:=outer
 stack:=envOfC G Z s.heap.objs.size f L::outer
 ex:=[]
 calm:=true
 fn:=λ_=>true
 pn:=[]
 xe:=λe s'=>wpAny (model P w) (A.deeper (envOfC G Z s.heap.objs.size f L)) (leaving (envOfC G Z s.heap.objs.size f L) e) (λ_ U=>CX outer H s E e U) (λe' U=>CX outer H s E e' U) s'
def aeg{Z:Scope}{n:Nat}{x:Str}(h:Z.names.lookup x=some .cell):∃c,(cellsFrom n Z.names []).lookup x=some c:=by have q:=PySem.W.cellsFrom_some Z.names n [] (.inl h);exact p8.mp q
def alx{CX:CXT}{P:Program}{w:World}{K:Fg}{mg:Zs}{qq:Heap}{N ps:X9}{U:Str}{Z:Scope}{f:Addr}{cd:Value}{A:Around}{G:List Env}{s s1:Shared}{H:Hp}{E:XK}{us:Zl}{vs:List V}
 (S:V6 N ps Z) (hd:A.handled=none) (e0:ahk P w K mg qq A G s H) (hl:vs.length=ps.length) (r:Vals vs us)
 (x:InCallC s s.heap.objs.size (bindL (envOfC U Z s.heap.objs.size f cd).kindOf (ps.zip us) λ_=>none) (cellsFrom (s.heap.objs.size+1) Z.names []) (bindC (envOfC U Z s.heap.objs.size f cd).kindOf (ps.zip us) λ_=>none) s1) :
 Inv (ahm CX P w K mg qq N U Z f cd A G s H E) [] (start N vs) H s1:=by
 have Hz:ps.length<=N.length:=by have:=lg List.length S.pre;rw[Ao]at this;lia
 obtain⟨h1,tk,rfl,hk⟩:=x.done;have qk:∀b:Addr,b∉(ahm CX P w K mg qq N U Z f cd A G s H E).ex:=λb z=>absurd (show b∈([]:Xt)from z) (by simp)
 refine⟨⟨e0.mod,S.kind,rfl,rfl,cg _,λy z c h1 L=>?_,λy hy=>?_,λy c _ h=>?_,λ_=>hd,Around.frames_deeper e0.frames,.inr ⟨rfl,rfl⟩,λb z=>absurd z (qk b),e0.bs,e0.bsz,λb _ _=>qk b,λb z=>absurd z (qk b),e0.Vq,e0.frf⟩,
  rfl,e0.bare,Un.kept hk,⟨_,x.toInCall.ns,λi y v h1 L h3=>?_⟩,λy c h=>⟨_,x.cell y c h⟩,e0.Ad.fresh (cg _),λy c h=>?_,λp hp=>absurd (show p∈([]:Zp)from hp) (by simp),e0.Ad.kept hk,?_⟩
 .exact name_of_addr x.apart (zq h1) (zq L)
 .have hy:Z.names.lookup y=some .cell\/Z.names.lookup y=some .free:=hy
  rcases hy with hy|hy
  .exact aeg hy
  .exact absurd rfl (S.a3y _ (zq hy))
 .exact yh (x.above y c (zq h))
 .have hi:i<vs.length:=by
   unfold start at L
   by_cases hi:i<vs.length
   .exact hi
   .rw[o6 (by simpa using hi)]at L
    rw[List.getElem?_replicate]at L;split at L<;>cases L
  have ha:vs[i]?=some v:=by
   unfold start at L;rw[jx (by simpa using hi),dm]at L;cases e:vs[i]? with
   |none=>rw[e]at L;cases L|some a=>rw[e]at L;cases L;rfl
  obtain⟨u,hu,rv⟩:=r.get ha;have hp:ps[i]?=some y:=by rw[<-S.pre,List.getElem?_take_of_lt (b_ hi (f_ hl))];exact h1
  have qv:ps.Nodup:=by rw[<-S.pre];exact S.nd.sublist (List.take_sublist _ _)
  refine⟨u,rv,?_⟩;rcases S.par y (az hp)with k|k
  .exact .inl ⟨k,Z7 qv hp hu k⟩
  .obtain⟨c,e⟩:=aeg (n:=s.heap.objs.size+1) k
   refine .inr ⟨.inl k,c,e,?_⟩;have q:=x.cell y c e;rw[Z8 qv hp hu (by show Z.names.lookup y≠_;rw[k];decide)]at q;exact q
 .exact e0.Ad.fresh (yh (x.above y c (zq h)))
 .unfold start
  show _=N.length;rw[o8,dg,List.length_replicate]
  lia
def bai{CX:CXT}{P:Program}{w:World}{K:Fg}{mg:Zs}{qk:Heap}{k:Nat}{f:Addr}{q1 U:Str}{qq:Arguments}{qv:List Stmt}{Z:Scope}{dV kV q2 pm L ct oc:Value}{an od:Option Addr}
 {q7:Array (Option Value)} {N ps:X9} {sp:Sp} (lk:K.lookup f=some ⟨oc,od,.func (PySem.W.fnOf q1 U qq qv Z dV kV q2 pm an L ct),q7⟩) (q5:PySem.W.codeIn K L U=true) (S:V6 N ps Z)
 (len:∀vs H Q E,sp vs H Q E->vs.length=ps.length)
 (q6:∀(A:Around)(G:List Env)(s:Shared)(H:Hp)(vs:List V)(Q:VK)(E:XK),zp k (A.deeper (envOfC U Z s.heap.objs.size f L))->sp vs H Q E ->
  ∃t,R9 (ahm CX P w K mg qk N U Z f L A G s H E) qv t/\t { nx:=λ_ H'=>Q .non H',rt:=Q } (start N vs) H) :
 Ff P w K mg qk CX (k+1) f (PySem.W.fnOf q1 U qq qv Z dV kV q2 pm an L ct) ps sp:=by
 refine⟨len,λA G s H zz us vs Q E hr e0 hb r q3=>?_⟩;have hl:=len _ _ _ _ q3;have KX:K.In s.heap:=e0.mod.kin.keeps λb o e=>(e0.bs b o e).1
 have q8:s.heap.NoLimit:=e0.mod.nolimit.keeps λb o e=>(e0.bs b o e).1
 have q4:∀y∈ps.zip us,Z.names.lookup y.1=some .local\/(Z.names.lookup y.1=some .cell/\((cellsFrom (s.heap.objs.size+1) Z.names []).lookup y.1).isSome=true):=λ⟨n,v⟩ hy=>by
  rcases S.par n (List.of_mem_zip hy).1 with q|q
  .exact .inl q
  .exact .inr ⟨q,PySem.W.cellsFrom_some _ _ _ (.inl q)⟩
 refine codeAny_call_function hr.depth (KX _ _ lk) rfl S.co S.gen rfl (PySem.W.codeRec_of KX q5) (hb _ _ _ _ ?_);refine wpAny_newFunctionEnv_cells S.kind q4 λzk he s1 x=>?_
 subst he;refine⟨q8.keeps x.toInCall.keep,codeAny_func ?_⟩;obtain⟨t,ht,hq⟩:=q6 A G s H vs Q E (hr.deeper _) q3;have I:Inv (ahm CX P w K mg qk N U Z f L A G s H E) [] (start N vs) H s1:=alx S hr.hd e0 hl r x;refine iz (ht [] s1 (start N vs) H _ I hq) (λfl s' hs=>?_) λe s' hs=>hs
 have fin:∀{q0:St}{H':Hp}{v:V}{u:Value},Inv (ahm CX P w K mg qk N U Z f L A G s H E) [] q0 H' s'->RelV v u->Q v H'->CE G P w H s Q u s':=
  fun{q0 H' v u} J rv q=>⟨v,H',J.os,J.bare,J.base,J.Ad,rv,q⟩
 cases fl with
 |ret u =>
  obtain⟨v,q0,H',J,rv,q⟩:=hs;exact fin J rv q
 |next =>
  obtain⟨q0,H',J,q⟩:=hs;exact fin (v:=V.non) (u:=Value.none) J rfl q
 |brk =>
  obtain⟨_,_,_,q⟩:=hs;exact False.elim q
 |cont =>
  obtain⟨_,_,_,q⟩:=hs;exact False.elim q
end L2
namespace L2
open PySem PySem.Spec PyProof.Rows
def tCB(r:List V->Hp->VK->Prop)(t:TA):TE:=λU H Q=>t U H λZ G=>r Z G Q
def aqd{X:Cx}{x:Str}{p pos:Pos}{e:Expr}{G:X0}{t:TA}{id:String}{r:List V->Hp->VK->Prop}(hc:By X (.builtin id) r)(hg:Gl X x)(hm:X.mg x=none)(hv:bootBuiltins x=some (.builtin id))(ha:PA X (e::G) t)(hn:x≠"__name__":= by decide)(Q4:(x==("__debug__": Str))=false:=by decide)
 (he:starEach (e::G) X.env=(false,eval e X.env)::starEach G X.env:=by rfl) (Hz:(backTo pos (starEach G X.env)).any (·.1)=false:=by rfl):PE X (.Call (.Name x p) (e::G) [] pos) (tCB r t):=by
 intro Z s U H Q I h;refine jd (Cg I hg hm hv ?_ hn Q4);exact v5 (Bf (ha pos Z s U H _ I h) λus L ⟨vs,H1,I1,r1,q1⟩=>hc Z L U H1 vs us Q I1 r1 q1) he Hz
def aly{X:Cx}{x:Str}{p pos:Pos}{e:Expr}{G:X0}{t:TA}{T:String}{r:List V->Hp->VK->Prop}(hc:By X (.type T) r)(hg:Gl X x)(hm:X.mg x=none)(hv:bootBuiltins x=some (.type T))(ha:PA X (e::G) t)(hn:x≠"__name__":= by decide)(Q4:(x==("__debug__": Str))=false:=by decide)
 (he:starEach (e::G) X.env=(false,eval e X.env)::starEach G X.env:=by rfl) (Hz:(backTo pos (starEach G X.env)).any (·.1)=false:=by rfl):PE X (.Call (.Name x p) (e::G) [] pos) (tCB r t):=by
 intro Z s U H Q I h;refine jd (Cg I hg hm hv ?_ hn Q4);exact jo (Bf (ha pos Z s U H _ I h) λus L ⟨vs,H1,I1,r1,q1⟩=>hc Z L U H1 vs us Q I1 r1 q1) he Hz
section
variable{κ:Type}[DecidableEq κ]
noncomputable def Sd(Z:List (κ×V))(k:κ):Option V:=(Z.find? λG=>decide (G.1=k)).map (·.2)
noncomputable def putK(Z:List (κ×V))(k:κ)(v:V):List (κ×V):=
 if(Z.any λG=>decide (G.1=k))=true then Z.map (λG=>if G.1=k then(G.1,v)else G)else Z++[(k,v)]
def Sg{p:κ×V}(e:p.1=k):Sd (p::r) k=some p.2:=by simp[Sd,qg,e]
def Sh{p:κ×V}(e:¬p.1=k):Sd (p::r) k=Sd r k:=by simp[Sd,qg,e]
theorem aeh(k:κ):∀Z:List (κ×V),(Z.any λG=>decide (G.1=k))=(Sd Z k).isSome
 |[]=>rfl
 |p::r=>by
  rw[List.any_cons]
  by_cases e:p.1=k
  .simp only[Sg e,Al e,Bool.true_or,Option.isSome_some]
  .rw[Sh e,vy e,Bool.false_or];exact aeh k r
def Ve(Z:List (κ×V))(k:κ)(v:V):(putK Z k v).length<=Z.length+1:=by
 unfold putK;split
 .rw[dg];exact x_
 .rw[o8,gq,Ba];exact cg _
def O7.Jx(r:O7 o u):o.isSome=u.isSome:=by
 cases o with
 |none=>cases u with
  |none=>rfl|some _=>exact(show False from r).elim
 |some _=>cases u with
  |none=>exact(show False from r).elim
  |some _=>rfl
def KV.val(r:KV kvs U)(k:κ):O7 (Sd kvs k) (valueAt U k):=by
 unfold KV at r
 induction r with
 |nil=>exact True.intro
 |@cons p q ps qs h t ih =>
  obtain⟨G,L⟩:=h
  by_cases e:p.1=k
  .have Z:q.1=k:=G.symm.trans e
   have b:valueAt (q::qs) k=some q.2:=by simp[valueAt,qg,Z]
   rw[Sg e,b];exact L
  .have Z:¬q.1=k:=λz=>e (G.trans z)
   have b:valueAt (q::qs) k=valueAt qs k:=by simp[valueAt,qg,Z]
   rw[Sh e,b];exact ih
theorem KV.any(r:KV kvs G)(k:κ):(kvs.any λZ=>decide (Z.1=k))=G.any λZ=>decide (Z.1=k):=by
 unfold KV at r
 induction r with
 |nil=>rfl|cons h t U=>rw[List.any_cons,List.any_cons,U,h.1]
def KV.ahn(r:KV kvs U)(k:κ)(L:RelV y u) :
 KV (kvs.map λZ=>if Z.1=k then(Z.1,y)else Z) (U.map λZ=>if Z.1=k then(Z.1,u)else Z):=by
 unfold KV at r⊢
 induction r with
 |nil=>exact .nil
 |@cons p q ps qs h t ih =>
  rw[dj,dj];refine .cons ?_ ih;obtain⟨G,h2⟩:=h
  by_cases e:p.1=k
  .rw[bz e,bz (G.symm.trans e)];exact⟨G,L⟩
  .rw[bc e,bc (λz=>e (G.trans z))];exact⟨G,h2⟩
def KV.put(r:KV kvs Z)(k:κ)(G:RelV y u):KV (putK kvs k y) (stored Z k u):=by
 unfold putK stored;rw[r.any k]
 by_cases e:(Z.any λU=>decide (U.1=k))=true
 .rw[bz e,bz e];exact r.ahn k G
 .rw[bc e,bc e];exact Paired.snoc r ⟨rfl,G⟩
theorem KV.length{Z:List (κ×V)}{G:List (κ×Value)}(r:KV Z G):Z.length=G.length:=Paired.length r
end
def aei(r:RelV (kV k) u):(m8 P w).is k u=true:=by
 cases k with
 |inl i=>obtain⟨t,e⟩:=(show ∃t,u=Value.int i t from r);subst e;exact ad9 P w i t
 |inr x=>obtain⟨t,e⟩:=(show ∃t,u=Value.str x t from r);subst e;exact aea P w x t
theorem Z9{P:Program}{w:World}:∀{Z:List Key}{G:Zl},Vals (Z.map kV) G->ItemsAre (m8 P w) Z G
 |[],_,r=>by rw[List.map_nil]at r;cases r;exact .nil
 |k::Z,_,r=>by
  rw[dj]at r;cases r with
  |cons h t=>exact .cons (aei h) (Z9 t)
abbrev KT(H:Hp):List (List Key×V)->List (List Key×Addr×Value)->Prop:=Paired λp q=>p.1=q.1/\H q.2.1=some (.tup (p.1.map kV))/\RelV p.2 q.2.2
def KT.val(r:KT H kvs U)(k:List Key):O7 (Sd kvs k) ((atKey U k).map (·.2)):=by
 induction r with
 |nil=>exact True.intro
 |@cons p q ps qs h t ih =>
  obtain⟨G,_,L⟩:=h
  by_cases e:p.1=k
  .have Z:q.1=k:=G.symm.trans e
   have b:atKey (q::qs) k=some q.2:=by simp[atKey,qg,Z]
   rw[Sg e,b];exact L
  .have Z:¬q.1=k:=λz=>e (G.trans z)
   have b:atKey (q::qs) k=atKey qs k:=by simp[atKey,qg,Z]
   rw[Sh e,b];exact ih
def KT.ahn(r:KT H kvs xs)(k:List Key)(ry:RelV y u) :
 KT H (kvs.map λG=>if G.1=k then(G.1,y)else G) (xs.map (putAt k u)):=by
 induction r with
 |nil=>exact .nil
 |@cons p q ps qs h t ih =>
  rw[dj,dj];refine .cons ?_ ih;obtain⟨Z,U,L⟩:=h;unfold putAt
  by_cases e:p.1=k
  .rw[bz e,bz (Z.symm.trans e)];exact⟨Z,U,ry⟩
  .rw[bc e,bc (λz=>e (Z.trans z))];exact⟨Z,U,L⟩
def KT.put(r:KT H kvs Z)(k:List Key)(U:H b=some (.tup (k.map kV)))(G:RelV y u) :
 KT H (putK kvs k y) (storedH Z k b u):=by
 have e:(kvs.any λL=>decide (L.1=k))=(atKey Z k).isSome:=by rw[aeh,(r.val k).Jx,Option.isSome_map]
 unfold putK storedH;rw[e]
 by_cases q:(atKey Z k).isSome=true
 .rw[bz q,bz q];exact r.ahn k G
 .rw[bc q,bc q];exact Paired.snoc r ⟨rfl,U,G⟩
def KT.keeps(r:KT H kvs xs)(U:∀b Z,H b=some (.tup Z)->G b=some (.tup Z)):KT G kvs xs:=
 Paired.a2o r λ_ _ z=>⟨z.1,U _ _ z.2.1,z.2.2⟩
def azw(ok:Pu P w H h)(e:Rd H a u):zj P w H h a u:=e.ok ok
def aej(ok:Pu P w H h)(e:Rd H a (.dK kvs)):kvs.length<=sizeLine/\(a==sysModules)=false/\∃vs,KV kvs vs/\h.DictOf (m8 P w) a vs:=
 show zj P w H h a (.dK kvs)from azw ok e
def bak(ok:Pu P w H h)(e:H a=some (.dK kvs)):kvs.length<=sizeLine/\(a==sysModules)=false/\∃vs,KV kvs vs/\h.DictOf (m8 P w) a vs:=aej ok (.inl e)
def Qq(ok:Pu P w H h)(e:H a=some (.tup (Z.map kV))):(tupleKind (m8 P w)).is h Z a:=by obtain⟨_,L,r,o,G,h2,n,U,_⟩:=(show zj P w H h a (.tup (Z.map kV))from ok a _ e);exact⟨o,L.toArray,n,G,h2,U,by simpa using Z9 r⟩
def aek(ok:Pu P w H h)(e:Rd H a (.dT kvs)):kvs.length<=sizeLine/\(a==sysModules)=false /\
 ∃xs,KT H kvs xs/\h.DictOfH (tupleKind (m8 P w)) a xs:=by
 obtain⟨z,y,xs,r,o,es,L,G,h2,h3,U,h5⟩:=(show zj P w H h a (.dT kvs)from azw ok e);refine⟨z,y,xs,r,o,es,L,G,h2,h3,U,λx Z=>?_,h5⟩;have all:∀{l:List (List Key×V)}{m:List (List Key×Addr×Value)},KT H l m->∀x∈m,(tupleKind (m8 P w)).is h x.1 x.2.1:=by
  intro l m q
  induction q with
  |nil=>intro x Z;exact nomatch Z
  |@cons p q ps qs hq t ih =>
   intro x Z;rcases cj.mp Z with e|Z
   .subst e
    exact Qq ok (by rw[<-hq.1];exact hq.2.1)
   .exact ih x Z
 exact all r x Z
def aqe(ok:Pu P w H h)(e:H a=some (.dT kvs)):kvs.length<=sizeLine/\(a==sysModules)=false /\
 ∃xs,KT H kvs xs/\h.DictOfH (tupleKind (m8 P w)) a xs:=aek ok (.inl e)
def Y8(H:Hp)(a:Addr)(y:V)(r:Option V):Prop:=
 (∃Z k,Rd H a (.dK Z)/\y=kV k/\r=Sd Z k)\/∃Z k b,Rd H a (.dT Z)/\y=.ref b/\H b=some (.tup (k.map kV))/\r=Sd Z k
def awa(H:Hp)(a:Addr)(y v:V)(G:Hp):Prop:=
 (∃Z k,H a=some (.dK Z)/\y=kV k/\Z.length<sizeLine/\G=upd H a (.dK (putK Z k v))) \/
 ∃Z k b,H a=some (.dT Z)/\y=.ref b/\H b=some (.tup (k.map kV))/\Z.length<sizeLine/\G=upd H a (.dT (putK Z k v))
def Y8.t{k:List Key}(e:H a=some (.dT kvs))(Z:H b=some (.tup (k.map kV))):Y8 H a (.ref b) (Sd kvs k):=.inr ⟨kvs,k,b,.inl e,rfl,Z,rfl⟩
def awa.t{k:List Key}(e:H a=some (.dT kvs))(G:H b=some (.tup (k.map kV)))(Z:kvs.length<sizeLine) :
 awa H a (.ref b) v (upd H a (.dT (putK kvs k v))):=.inr ⟨kvs,k,b,e,rfl,G,Z,rfl⟩
def Inv.big(I:Inv X pins σ H s):sysModules<s.heap.objs.size:=by
 have h:mainGlobals<s.heap.objs.size:=(I.mod.glob.keeps I.bk).lt
 exact Nat.lt_trans (by decide) h
def alz(hu:A.units+1<cLine)(I:Inv X pins σ H s)(g:Y8 H a y (some v))(ry:RelV y u)(h:∀G s',Inv X pins σ H s'->RelV v G->Q G s') :
 wpAny (model X.prog X.w) A (getItem (.ref a) u) Q E s:=by
 rcases g with⟨L,k,e,ey,l⟩|⟨L,k,b,e,ey,eb,l⟩
 .subst ey
  obtain⟨z,hd,vs,rel,U⟩:=aej I.Ad e;obtain⟨G,hw,Z⟩:=O7.some_of (v:=v) (o:=valueAt vs k) (by rw[l];exact rel.val k);exact wpAny_getItem_of (aei ry) U.mapOf hw (h G _ (I.tok _) Z)
 .subst ey
  cases(show u=Value.ref b from ry);obtain⟨z,hd,xs,rel,U⟩:=aek I.Ad e;obtain⟨G,hw,Z⟩:=O7.some_of (v:=v) (o:=(atKey xs k).map (·.2)) (by rw[l];exact rel.val k);obtain⟨p,hp,qq⟩:=cz.mp hw;refine wpAny_getItem_heap (tupleKind_room_in1 hu) (Qq I.Ad eb) U hp ?_;rw[qq];exact h G _ (I.tok _) Z
def bgy(hu:A.units+1<cLine)(I:Inv X pins σ H s)(g:Y8 H a y o)(ry:RelV y u)(h:∀s',Inv X pins σ H s'->Q (.bool o.isSome) s') :
 wpAny (model X.prog X.w) A (compareOp .In u (.ref a)) Q E s:=by
 rcases g with⟨Z,k,e,L,l⟩|⟨Z,k,b,e,L,eb,l⟩
 .subst L
  obtain⟨z,U,vs,rel,G⟩:=aej I.Ad e;refine wpAny_in_of (aei ry) U G.mapOf ?_;rw[<-(rel.val k).Jx,<-l];exact h _ (I.tok _)
 .subst L
  cases(show u=Value.ref b from ry);obtain⟨z,U,xs,rel,G⟩:=aek I.Ad e;refine wpAny_in_heap (tupleKind_room_in1 hu) (Qq I.Ad eb) U G ?_;have q:=(rel.val k).Jx;rw[Option.isSome_map]at q;rw[<-q,<-l];exact h _ (I.tok _)
def awb(hu:A.units+1<cLine)(I:Inv X pins σ H s)(g:Y8 H a y o)(ry:RelV y u)(h:∀s',Inv X pins σ H s'->Q (.bool (!o.isSome)) s') :
 wpAny (model X.prog X.w) A (compareOp .NotIn u (.ref a)) Q E s:=by
 rcases g with⟨Z,k,e,L,l⟩|⟨Z,k,b,e,L,eb,l⟩
 .subst L
  obtain⟨z,U,vs,rel,G⟩:=aej I.Ad e;refine wpAny_notIn_of (aei ry) U G.mapOf ?_;rw[<-(rel.val k).Jx,<-l];exact h _ (I.tok _)
 .subst L
  cases(show u=Value.ref b from ry);obtain⟨z,U,xs,rel,G⟩:=aek I.Ad e;refine wpAny_notIn_heap (tupleKind_room_in1 hu) (Qq I.Ad eb) U G ?_;have q:=(rel.val k).Jx;rw[Option.isSome_map]at q;rw[<-q,<-l];exact h _ (I.tok _)
def abz(I:Inv X pins σ H s)(G:Mut (H a))(L:Heap.SameBut a s.heap Z)(U:∃q,Z.get? a=some q)(new:zj X.prog X.w (upd H a ob) Z a ob) :
 Inv X pins σ (upd H a ob) { s with heap:=Z,toks:=t' }:=
 I.write (x:=a) (e:=a) G (.inl rfl) (λb q hb z=>(L.2 b hb).trans z) U new
def a3z(z:kvs.length<=sizeLine)(L:(a==sysModules)=false)(rel:KV kvs Z)(G:U.DictOf (m8 P w) a Z) :
 zj P w H' U a (.dK kvs):=⟨z,L,Z,rel,G⟩
def al0(hu:A.units+1<cLine)(I:Inv X pins σ H s)(g:awa H a y v H')(ry:RelV y u)(rv:RelV v r)(h:∀s',Inv X pins σ H' s'->Q () s') :
 wpAny (model X.prog X.w) A (setItem (.ref a) u r) Q E s:=by
 rcases g with⟨Z,k,e,ey,l,L⟩|⟨Z,k,b,e,ey,eb,l,L⟩
 .subst ey L
  obtain⟨z,hd,vs,rel,dd⟩:=bak I.Ad e;have hz:vs.length<=sizeLine:=by rw[<-rel.length];exact z
  have hl:(putK Z k v).length<=sizeLine:=by have:=Ve Z k v;exact a_ this l
  refine wpAny_setItem_pairs (hsz:=hz) (aei ry) dd λh' G hs=>h _ ?_
  have he:∃q,h'.get? a=some q:=let ⟨q,_,_,U,_⟩:=G;⟨q,U⟩;exact abz I (by rw[e];exact True.intro) hs he (a3z hl hd (rel.put k rv) G)
 .subst ey L
  cases(show u=Value.ref b from ry);obtain⟨z,hd,xs,rel,dd⟩:=aqe I.Ad e;have hz:xs.length<=sizeLine:=by rw[<-Paired.length rel];exact z
  have hl:(putK Z k v).length<=sizeLine:=by have:=Ve Z k v;exact a_ this l
  refine wpAny_setItem_heap (hsz:=hz) (tupleKind_room_in1 hu) (Qq I.Ad eb) dd λh' G hs=>h _ ?_
  obtain⟨q,es,ep,U,h2,h3,h4,_,h5⟩:=G;refine abz I (by rw[e];exact True.intro) hs ⟨q,U⟩ ⟨hl,hd,_,(rel.put k eb rv).keeps λc ys ec=>?_,q,es,ep,U,h2,h3,h4,h5⟩;rw[j0 (apo ec e (λz=>nomatch z))];exact ec
def ael(I:Inv X pins σ H s)(g:Y8 H a y o):s.TypeIs (.ref a) "dict":= by
 rcases g with⟨Z,k,e,_,_⟩|⟨Z,k,b,e,_,_,_⟩
 .obtain⟨_,_,U,_,G⟩:=aej I.Ad e
  exact G.typeIs
 .obtain⟨_,_,L,_,G⟩:=aek I.Ad e
  exact G.typeIs
def aqg(h:Heap)(Z:sysModules<h.objs.size):zj P w H (h.push { cls:=.type "dict",data:=.dict #[] }) h.objs.size (.dT []):=
 ⟨iy _,vq.mpr (kj (dq Z)),[],.nil,_,#[],0,bu _ rfl,⟨rfl,rfl,rfl⟩,rfl,rfl,wk⟩
def a4a:TE:=λ_ H Q=>∀p,H p=none->Q (.ref p) (upd H p (.dT []))
def aqh:PE X (.Dict [] [] pos) a4a:=λZ s G H Q I h =>
 wpAny_Dict_empty ⟨.ref s.heap.objs.size,_,I.laid (a:=s.heap.objs.size) (o:=.dT []) (t':=s.toks) (λ_ _ q=>ao _ q) (cg _) (aqg s.heap I.big),rfl,h _ (I.Ad.fresh (cg _))⟩
end L2
namespace HT
open PySem PyProof.Rows
def awc(ht:IsTup s.heap t G.toArray)(hb:IsTup s.heap b U.toArray)(h0:G=[]->Q (.ref b) s)(h1:U=[]->Q (.ref t) s)(h2:G≠[]->U≠[]->Q (.ref s.heap.objs.size) { s with heap:=s.heap.push { cls:=.type "tuple",data:=.seq (G++U).toArray } })(q3:G.length+U.length<=sizeLine):wpAny (model prog w) A (binaryOp .Add (.ref t) (.ref b)) Q E s:=by
 obtain⟨⟨q1,dd,qv,sl⟩,ho,hc,n,hd⟩:=id ht;obtain⟨⟨q4,qq,q2,L⟩,Z,qk,n2,q0⟩:=id hb;simp only at hc hd qk q0;subst hc hd qk q0;have e:G.toArray++U.toArray=(G++U).toArray:=by simp
 by_cases hv:G=[]
 .exact concat_meets ⟨_,ho,rfl⟩ ⟨_,Z,rfl⟩ noFill_tuple_add seq_tuple_add PySem.F.slot_tuple_add PySem.F.entry_tuple_add (PySem.F.args_tuple_add_2 _ _)
   (tuple_addW0 t b G.toArray U.toArray n n2 dd qq sl L (by simp[hv])) ⟨ho,Z,h0 hv⟩
 by_cases hw:U=[]
 .exact concat_meets ⟨_,ho,rfl⟩ ⟨_,Z,rfl⟩ noFill_tuple_add seq_tuple_add PySem.F.slot_tuple_add PySem.F.entry_tuple_add (PySem.F.args_tuple_add_2 _ _)
   (tuple_addW1 t b G.toArray U.toArray n n2 dd qq sl L (by simpa using hv) (by simp[hw])) ⟨ho,Z,h1 hw⟩
 .refine concat_meets ⟨_,ho,rfl⟩ ⟨_,Z,rfl⟩ noFill_tuple_add seq_tuple_add PySem.F.slot_tuple_add PySem.F.entry_tuple_add (PySem.F.args_tuple_add_2 _ _)
   (tuple_addW2 t b G.toArray U.toArray n n2 dd qq sl L (by simpa using hv) (by simpa using hw) (by rw[gf,gf];exact q3)) ⟨ho,Z,?_⟩
  rw[e];exact h2 hv hw
noncomputable def sIx(n d:Nat):Option Int->Nat
 |none=>d|some v=>if v<0 then(v+(n:Int)).toNat else min v.toNat n
end HT
namespace L2
open PySem PySem.Spec PyProof.Rows
abbrev TO:=St->Hp->(Option Int->Hp->Prop)->Prop
def PO(X:Cx)(e:Option Expr)(t:TO):Prop:=
 ∀(Z:Zp)(s:Shared)(G:St)(H:Hp)(Q:Option Int->Hp->Prop),Inv X Z G H s->t G H Q ->
  wpAny (model X.prog X.w) X.A (evalPart e X.env) (λu L=>∃o U,Inv X Z G U L/\IsPart u o/\Q o U) X.xe s
def awd:TO:=λ_ H Q=>Q none H
def bal(t:TE):TO:=λG H Q=>t G H λx Z=>∃i,x=.int i/\Q (some i) Z
def awe:PO X none awd:=by intro Z s G H Q I h;rw[evalPart_none];exact aj ⟨none,H,I,.none,h⟩
def awf(h:PE X e te):PO X (some e) (bal te):=by
 intro Z s σ H Q I hw;rw[evalPart_some];refine Bf (h Z s σ H _ I hw) λu s1 z_=>?_
 obtain⟨x,H1,G,U,L⟩:=z_;obtain⟨i,rfl,q⟩:=L;obtain⟨t,rfl⟩:=U;exact⟨some i,H1,G,.int i t,q⟩
def SlR(X:Cx)(r:V->Option Int->Option Int->Hp->VK->Prop):Prop:=
 ∀(Z:Zp)(s:Shared)(σ:St)(H:Hp)(x:V)(v G vu:Value)(L hi:Option Int)(U:Addr)(Q:VK),Inv X Z σ H s->RelV x v->s.heap.IsSliceOf U G vu .none->IsPart G L->IsPart vu hi->r x L hi H Q ->
  ∃T id,typeLookup (.type T) "__getitem__"= pure (some (.builtin id))/\s.TypeIs v T/\wpAny (model X.prog X.w) X.A (getItem v (.ref U)) (EP X Z σ Q) X.xe s
def tSl(r:V->Option Int->Option Int->Hp->VK->Prop)(te:TE)(G U:TO):TE:=λZ H Q=>te Z H λx H1=>G Z H1 λl H2=>U Z H2 λu L=>r x l u L Q
def aqi{lo:Option Expr}(hr:SlR X r)(he:PE X e te)(hl:PO X lo tl)(hu:PO X hi th):PE X (.Subscript e (.Slice lo hi none p2) pos) (tSl r te tl th):=by
 intro Z s U H Q I h;refine Subscript_ (Bf (he Z s U H _ I h) λv s1 z_=>?_);obtain⟨x,H1,I1,r1,q1⟩:=z_;refine wpAny_Slice (Bf (hl Z s1 U H1 _ I1 q1) λL s2 ⟨l,H2,I2,pl,q2⟩=>Bf (hu Z s2 U H2 _ I2 q2) λvu G z_=>?_);obtain⟨u,H3,I3,pu,q3⟩:=z_;rw[evalPart_none];refine aj ?_;have I4:Inv X Z U H3 { G with heap:=G.heap.push { cls:=.type "slice",data:=.fields #[L,vu,.none] } }:=I3.kept (t':=G.toks) λb ob q=>ao _ q
 obtain⟨T,id,hT,ht,hg⟩:=hr Z { G with heap:=G.heap.push { cls:=.type "slice",data:=.fields #[L,vu,.none] } } U H3 x v L vu l u G.heap.objs.size Q I4 r1 (Heap.IsSliceOf.new ..) pl pu q3;show wpAny (model X.prog X.w) X.A (subscriptTail e (.Slice lo hi none p2) v (.ref G.heap.objs.size)) (EP X Z U Q) X.xe { G with heap:=G.heap.push { cls:=.type "slice",data:=.fields #[L,vu,.none] } };exact tail_any (ops:=[.ref G.heap.objs.size,v]) ht hT hg (by with_unfolding_all rfl)
def al1(Z:List V)(G U:Option Int):List V:=(Z.drop (HT.sIx Z.length 0 G)).take (HT.sIx Z.length Z.length U-HT.sIx Z.length 0 G)
def aem(Z:List V)(G U:Option Int):(al1 Z G U).length<=Z.length:=by
 unfold al1;rw[Ao,List.length_drop]
 lia
def bam(K:Fg):R2:=λx y H Q=>∃a b Z G,x=.ref a/\y=.ref b/\Lq K H a Z/\Lq K H b G/\Z.length+G.length<=sizeLine /\
 (Z=[]->Q (.ref b) H)/\(G=[]->Q (.ref a) H)/\(∀p,H p=none->Q (.ref p) (upd H p (.tup (Z++G))))
def Vals.ajc(r:Vals Z G):G=[]↔Z=[]:=by
 cases r with
 |nil=>simp|cons _ _=>simp
def awg:Cy X (binaryOp .Add) (bam X.K):=by intro L s σ H x y v u Q I rx ry h;obtain⟨a,b,xs,ys,rfl,rfl,ha,hb,U,q0,q1,q2⟩:=h;cases rx;cases ry;obtain⟨xq,G,p1,_⟩:=I.tuple ha;obtain⟨qq,Z,p2,_⟩:=I.tuple hb;refine HT.awc p1 p2 (λz=>⟨.ref b,H,I,rfl,q0 (G.ajc.mp z)⟩) (λz=>⟨.ref a,H,I,rfl,q1 (Z.ajc.mp z)⟩) (λ_ _=>?_) (by rw[<-G.length,<-Z.length];exact U);refine⟨.ref s.heap.objs.size,_,I.laid (t':=s.toks) (o:=.tup (xs++ys)) (λb ob q=>ao _ q) (cg _) ?_,rfl,q2 _ (I.Ad.fresh (cg _))⟩;exact⟨by rw[o8];exact U,_,G.append Z,Y6.new _ _⟩
end L2
namespace L2
open PySem PySem.Spec PyProof.Rows
noncomputable def ixN(n:Nat)(i:Int):Option Nat:=if 0<=i then(if i<n then some i.toNat else none)else if -(n:Int)<=i then some (i+n).toNat else none
def atI{α:Type}(Z:List α)(i:Int):Option α:=(ixN Z.length i).bind λj=>Z[j]?
def ajd(h:ixN n i=some j):seqIndex? i n=some j/\j<n/\-(n:Int)<=i/\i<n:=by
 unfold ixN at h
 by_cases G:0<=i
 .rw[bz G]at h
  by_cases Z:i<n
  .rw[bz Z]at h
   have e:i.toNat=j:=ie h;exact⟨by rw[seqIndex_of G Z,e],by lia,by lia,Z⟩
  .rw[bc Z]at h;cases h
 .rw[bc G]at h
  by_cases Z:-(n:Int)<=i
  .rw[bz Z]at h
   have e:(i+n).toNat=j:=ie h;exact⟨by rw[seqIndex_neg (by lia) Z,e],by lia,Z,by lia⟩
  .rw[bc Z]at h;cases h
def aje(h:atI Z i=some v):∃j,seqIndex? i Z.length=some j/\Z[j]?=some v/\j<Z.length/\-(Z.length:Int)<=i/\i<Z.length:=by
 unfold atI at h;cases e:ixN Z.length i with
 |none=>rw[e]at h;cases h
 |some j =>
  rw[e]at h;obtain⟨G,h2,L,U⟩:=ajd e;exact⟨j,G,h,h2,L,U⟩
def ab0(b:Expr):Prop:=∀o i,subscripted b false o i=operate [o,i] (getItem o i)
def IxR(X:Cx)(r:R2):Prop:=
 ∀(U Z:Expr)(G:Zp)(s:Shared)(L:St)(H:Hp)(x y:V)(v u:Value)(Q:VK),Inv X G L H s->RelV x v->RelV y u->r x y H Q ->
  subscripted Z false v u=operate [v,u] (getItem v u)->wpAny (model X.prog X.w) X.A (subscriptTail U Z v u) (EP X G L Q) X.xe s
def MtR(X:Cx)(id:String)(r:V->List V->Hp->VK->Prop):Prop:=
 ∀(Z:Zp)(s:Shared)(L:St)(H:Hp)(x:V)(G:List V)(v:Value)(U:Zl)(Q:VK),Inv X Z L H s->RelV x v->Vals G U->r x G H Q ->
  wpAny (model X.prog X.w) X.A (call (.builtin id) (v::U)) (EP X Z L Q) X.xe s
def bao(hr:IxR X r)(ha:PE X a ta)(L:PE X b tb)(U:ab0 b):PE X (.Subscript a b pos) (tOp r ta tb):=by intro Z s σ H Q I h;exact Subscript_ (a3l ha L I h λv u G x y H2 I2 rx ry q=>hr a b Z G σ H2 x y v u Q I2 rx ry q (U _ _))
def bgz(K:Fg):R2:=λx y H Q=>∃p Z i v,x=.ref p/\y=.int i/\Ie K H p Z/\atI Z i=some v/\Q v H
def bg0(K:Fg):R2:=λx y H Q=>∃p Z i v,x=.ref p/\y=.int i/\Lq K H p Z/\atI Z i=some v/\Q v H
def Fp:IxR X (bgz X.K):=by
 intro L qk Z s σ H x y v u Q I rx ry h hs;obtain⟨p,xs,i,z,rfl,rfl,hq,he,q⟩:=h;cases rx;obtain⟨t,rfl⟩:=ry;obtain⟨xq,r,pl,hz⟩:=I.list hq;obtain⟨j,G,h2,h3,h4,h5⟩:=aje he;obtain⟨w,ew,qq⟩:=r.get h2;have hl:=r.length;have hn:=aby;have fin:EP X Z σ Q w s:=⟨z,H,I,qq,q⟩
 by_cases h0:0<=i
 .have U:i.toNat=j:=by
   rw[seqIndex_of h0 h5]at G;exact ie G
  exact item_listR pl.isList h0 (by lia) (by rw[U];simpa using ew) fin hs
 .have U:(i+(xq.toArray.size:Int)).toNat=j:=by
   rw[seqIndex_neg (by lia) h4]at G;rw[gf,<-hl];exact ie G
  exact subscriptTail_builtinR (x:=w) pl.isList.typeIs slot_list_getitem.lookup
   (wpAny_getItem_list_neg (Q:=λr s'=>r=w/\EP X Z σ Q r s') pl.isList (by lia) (by rw[gf]<;>lia) (by lia) (by rw[U];simpa using ew) ⟨rfl,fin⟩) hs
def Iz:IxR X (bg0 X.K):=by
 intro G L Z s σ H x y v u Q I rx ry h hs;obtain⟨p,xs,i,z,rfl,rfl,hq,he,q⟩:=h;cases rx;obtain⟨t,rfl⟩:=ry;obtain⟨xq,r,pl,hz⟩:=I.tuple hq;obtain⟨j,h1,h2,h3,h4,h5⟩:=aje he;obtain⟨w,ew,U⟩:=r.get h2;have hl:=r.length;have hn:=aby;have fin:EP X Z σ Q w s:=⟨z,H,I,U,q⟩;exact subscriptTail_builtinR (x:=w) pl.typeIs slot_tuple_getitem.lookup
  (getItem_tuple (j:=j) (Q:=λr s'=>r=w/\EP X Z σ Q r s') pl (by lia) (by lia) (by rw[gf,<-hl];exact h1) (by simpa using ew) ⟨rfl,fin⟩) hs
def aho(Z:Zl)(n j:Nat)(u:Value):Obj.mapSeq (·.setIfInBounds j u) { cls:=.type "list",data:=.seq Z.toArray n }={ cls:=.type "list",data:=.seq (Z.set j u).toArray n }:=by simp[Obj.mapSeq]
theorem Inv.lst{X:Cx}{Z:Zp}{L:St}{H:Hp}{s:Shared}{p:Addr}{U:List V}(I:Inv X Z L H s)(h:H p=some (.lst U)) :
 ∃(G:Zl)(n:Nat),Vals U G/\s.heap.get? p=some { cls:=.type "list",data:=.seq G.toArray n }/\U.length<=sizeLine:=by
 obtain⟨z,G,n,r,e⟩:=I.Ad p _ h;exact⟨G,n,r,e,z⟩
def Inv.a4c{L:Zl}(I:Inv X pins σ H s)(h:H p=some (.lst xs))(ho:s.heap.get? p=some { cls:=.type "list",data:=.seq L.toArray n })(U:f { cls:=.type "list",data:=.seq L.toArray n }={ cls:=.type "list",data:=.seq its'.toArray G })(r:Vals Z its')(hz:Z.length<=sizeLine)(t:Nat) :
 Inv X pins σ (upd H p (.lst Z)) { s with heap:=s.heap.update p f,toks:=t }:=by
 have e:(s.heap.update p f).get? p=some { cls:=.type "list",data:=.seq its'.toArray G }:=by rw[jz f ho (by rw[U]<;>rfl),U]
 refine I.write (x:=p) (e:=p) (by rw[h];trivial) (.inl rfl) (λb u hb q=>(t7 _ _ (kj hb)).trans q) ⟨_,e⟩ ?_;exact⟨hz,its',G,r,e⟩
def bap:V->V->V->Hp->(Hp->Prop)->Prop:=λo i v H Q=>∃p Z k j,o=.ref p/\i=.int k/\H p=some (.lst Z)/\ixN Z.length k=some j/\Q (upd H p (.lst (Z.set j v)))
def set_list:a3e X bap:=by
 intro Z s σ H o i v ov iv u Q I ro ri rv h;obtain⟨p,xs,k,j,rfl,rfl,hp,hj,q⟩:=h;cases ro;obtain⟨t,rfl⟩:=ri;obtain⟨xq,n,r,ho,hz⟩:=I.lst hp;obtain⟨G,h2,h3,h4⟩:=ajd hj;have U:=r.length;have hn:=aby;have I':Inv X Z σ (upd H p (.lst (xs.set j v))) { s with heap:=s.heap.update p (Obj.mapSeq (·.setIfInBounds j u)) }:=
  I.a4c hp ho (aho xq n j u) (r.set rv j) (by rw[List.length_set];exact hz) s.toks
 by_cases h0:0<=k
 .have L:k.toNat=j:=by
   rw[seqIndex_of h0 h4]at G;exact ie G
  exact PySem.W.ki_setAt ho h0 (by lia) (by rw[gf,<-U];exact h4) (by rw[L];exact⟨_,I',q⟩)
 .have L:(k+(xq.toArray.size:Int)).toNat=j:=by
   rw[seqIndex_neg (by lia) h3]at G;rw[gf,<-U];exact ie G
  exact PySem.W.ki_setBack ho (by lia) (by rw[gf,<-U];exact h3) (by lia) (by rw[L];exact⟨_,I',q⟩)
def ab1(Z G:Option Int)(n:Nat):(sliceBounds Z G none n).1=((HT.sIx n 0 Z:Nat):Int)/\(sliceBounds Z G none n).2.1=((HT.sIx n n G:Nat):Int)/\(sliceBounds Z G none n).2.2=1:=by
 refine⟨?_,?_,rfl⟩
 .cases Z with
  |none=>simp[sliceBounds,HT.sIx]
  |some i =>
   simp only[sliceBounds,HT.sIx,Option.getD_none,show(1:Int) > 0 by decide,jg]
   by_cases h:i<0
   .simp only[h,jg]<;>lia
   .simp only[h,gm]<;>lia
 .cases G with
  |none=>simp[sliceBounds,HT.sIx]
  |some i =>
   simp only[sliceBounds,HT.sIx,Option.getD_none,show(1:Int) > 0 by decide,jg]
   by_cases h:i<0
   .simp only[h,jg]<;>lia
   .simp only[h,gm]<;>lia
def Y9(Z:Zl)(G U:Option Int):slicePick Z.toArray G U none=((Z.drop (HT.sIx Z.length 0 G)).take (HT.sIx Z.length Z.length U-HT.sIx Z.length 0 G)).toArray:=by obtain⟨L,h2,h3⟩:=ab1 G U Z.toArray.size;unfold slicePick;rw[L,h2,h3];simp only[sliceRange_one,pick_run,gf]<;>rfl
def baq(K:Fg):V->Option Int->Option Int->Hp->VK->Prop:=λx G U H Q=>∃a Z,x=.ref a/\Ie K H a Z/\∀p,H p=none->Q (.ref p) (upd H p (.lst (al1 Z G U)))
def awh:SlR X (baq X.K):=by intro qq s σ H x v vl vu U L sl Q I rx hs pl pu h;obtain⟨a,G,rfl,hx,q⟩:=h;cases rx;obtain⟨xq,r,ht,hz⟩:=I.list hx;have Z:=r.length;refine⟨"list",_,slot_list_getitem.lookup,ht.isList.typeIs,?_⟩;refine wpAny_getItem_list_slice ht.isList hs pl pu .none (by simp) ?_ (by rw[gf]<;>exact a_ (g_ Z) hz);rw[Y9,<-Z];refine⟨.ref s.heap.objs.size,_,I.laid (t':=s.toks) (o:=.lst (al1 G U L)) (λb ob q=>ao _ q) (cg _) ?_,rfl,q _ (I.Ad.fresh (cg _))⟩;exact⟨gb (aem G U L) hz,_,0,(r.drop (HT.sIx G.length 0 U)).take (HT.sIx G.length G.length L-HT.sIx G.length 0 U),bu _ rfl⟩
def Sq:By X (.builtin "len") (λxs H Q=>∃p G,xs=[.ref p]/\(Ie X.K H p G\/Lq X.K H p G)/\Q (.int G.length) H):=by
 intro qq s σ H xs us Q I r h;obtain⟨p,G,rfl,U,q⟩:=h;obtain⟨u,rfl,rx⟩:=vals1 r;cases rx;have hn:=aby;rcases U with U|U
 .obtain⟨xq,r',L,hz⟩:=I.list U
  have Z:=r'.length;exact Calls.call_len_list L.isList (by simp only[gf]<;>lia) ⟨.int G.length,H,I.tok _,⟨s.toks+1,by rw[gf,Z]⟩,q⟩
 .obtain⟨xq,r',L,hz⟩:=I.tuple U
  have Z:=r'.length;exact len_tuple L (by simp only[gf]<;>lia) ⟨.int G.length,H,I.tok _,⟨s.toks+1,by rw[gf,Z]⟩,q⟩
def Za:By X (.type "tuple") (λxs H Q=>∃p G,xs=[.ref p]/\((Ie X.K H p G/\∀l,H l=none->Q (.ref l) (upd H l (.tup G)))\/(Lq X.K H p G/\Q (.ref p) H))):=by
 intro Z s σ H xs us Q I r h;obtain⟨p,G,rfl,h⟩:=h;obtain⟨u,rfl,rx⟩:=vals1 r;cases rx;rcases h with⟨hq,q⟩|⟨hq,q⟩
 .obtain⟨xq,r',pl,hz⟩:=I.list hq
  have U:=r'.length;refine call_tuple_list pl.isList (λL kp=>?_) (by simp only[gf]<;>exact a_ (g_ U) hz);have I1:Inv X Z σ H { s with heap:=L }:=I.kept (t':=s.toks) kp;have I2:Inv X Z σ (upd H L.objs.size (.tup G)) { s with heap:=L.push { cls:=.type "tuple",data:=.seq xq.toArray } }:=
   I1.laid (t':=s.toks) (λb o e=>ao _ e) (cg _) (show zj X.prog X.w _ _ _ (.tup G)from⟨hz,xq,r',Y6.new _ _⟩)
  exact⟨.ref L.objs.size,_,I2,rfl,q _ (I1.Ad.fresh (cg _))⟩
 .obtain⟨xq,r',pl,hz⟩:=I.tuple hq
  exact call_tuple_same pl ⟨.ref p,H,I,rfl,q⟩
def tyV(K:Fg)(T:String)(x:V)(H:Hp):Prop:=match x with
 |.str _=>T ="str"|.int _=>T ="int"
 |.ref p=>(T ="list"/\∃G,Ie K H p G)\/(T ="tuple"/\∃o,K.lookup p=some o/\o.cls=.type "tuple"/\o.dict=none) \/
  (T ="dict"/\((∃Z,H p=some (.dK Z))\/∃Z,H p=some (.dT Z)))\/(T ="set"/\∃S n,H p=some (.set S n))
 |_=>False
def a4d(I:Inv X pins σ H s)(r:RelV x v)(ty:tyV X.K T x H) :
 s.TypeIs v T/\∀a,v=.ref a->∃ob,s.heap.get? a=some ob/\ob.dict=none:=by
 cases x with
 |str z =>
  obtain⟨t,rfl⟩:=r;cases(show T ="str" from ty);exact⟨typeIs_str s z t,λ_ e=>nomatch e⟩
 |int i =>
  obtain⟨t,rfl⟩:=r;cases(show T ="int" from ty);exact⟨typeIs_int s i t,λ_ e=>nomatch e⟩
 |ref p =>
  cases r;rcases ty with⟨rfl,xs,hq⟩|⟨rfl,o,Z,hc,hd⟩|⟨rfl,Z⟩|⟨rfl,S,n,Z⟩
  .obtain⟨xq,_,pl,_⟩:=I.list hq
   refine⟨pl.isList.typeIs,λa e=>?_⟩;cases e;obtain⟨o,n,e,c,hd,_⟩:=pl;exact⟨o,e,hd⟩
  .refine⟨⟨o,I.T8 p o Z,hc⟩,λa e=>?_⟩
   cases e;exact⟨o,I.T8 _ o Z,hd⟩
  .have z:∃o,s.heap.get? p=some o/\o.ExactDict:=by
    rcases Z with⟨U,Z⟩|⟨U,Z⟩
    .obtain⟨_,_,_,_,o,_,_,e,G,_⟩:=I.Ad p _ Z
     exact⟨o,e,G⟩
    .obtain⟨_,_,_,_,o,_,_,e,G,_⟩:=I.Ad p _ Z
     exact⟨o,e,G⟩
   obtain⟨o,e,G⟩:=z;refine⟨⟨o,e,G.1⟩,λa L=>?_⟩;cases L;exact⟨o,e,G.2.1⟩
  .obtain⟨o,_,_,_,e,G,_⟩:=I.Ad p _ Z
   refine⟨⟨o,e,G.1⟩,λa L=>?_⟩;cases L;exact⟨o,e,G.2.1⟩
 |_=>exact False.elim ty
def tBM(K:Fg)(T:String)(r:V->List V->Hp->VK->Prop)(U:TE)(t:TA):TE:=λZ H Q=>U Z H λx G=>tyV K T x G/\t Z G λL H2=>r x L H2 Q
theorem bas{id:String}(pa:PlainAttrs T)(L:Slot T name id)(qq:typeOf (.builtin id)=pure (.type "method_descriptor"))(hm:MtR X id r)(ho:PE X o to)(ha:PA X (e::G) t)(qk:attributeBase o name X.env (eval o X.env)=eval o X.env:=by rfl)(q0:((backTo U (starEach (e::G) X.env)).all (λx=>!x.1)&&(backToKw U (keywordEach [] X.env)).all (λx=>x.1.isSome)
&&decide ((e::G).length+([]:List Keyword).length+(if([]:List Keyword).isEmpty then 0 else 1)<30))=true:=by rfl)(qv:(apos.endLine==U.line)=true:=by rfl)(hs:starEach (e::G) X.env=(false,eval e X.env)::starEach G X.env:=by rfl)(Xk:(backTo U (starEach G X.env)).any (·.1)=false:=by rfl) :
 PE X (.Call (.Attribute o name apos) (e::G) [] U) (tBM X.K T r to t):=by
 intro Z s σ H Q I h;refine wpAny_Call_method_late qk q0 qv rfl (Bf (ho Z s σ H _ I h) λv s1 z_=>?_);obtain⟨x,H1,I1,r1,ty,q1⟩:=z_;obtain⟨h1,h2⟩:=a4d I1 r1 ty;refine⟨T,id,pa,L,qq,h1,h2,?_⟩;have hA:=ha U Z s1 σ H1 _ I1 q1;rw[hs]at hA⊢;refine Calls.callWith_builtin (by show(false||(backTo U (starEach G X.env)).any (·.1))=false;rw[Xk]<;>rfl) (Calls.evalArgs_plain ?_);exact Bf hA λus s2 ⟨vs,H2,I2,r2,q2⟩=>hm Z s2 σ H2 x vs v us Q I2 r1 r2 q2
end L2
namespace L2
open PySem PySem.Spec PyProof.Rows
def MtM(X:Cx)(id:String)(r:V->List V->Hp->VK->Prop):Prop:=
 ∀(Z:Zp)(s:Shared)(L:St)(H:Hp)(x:V)(G:List V)(v:Value)(U:Zl)(Q:VK),Inv X Z L H s->RelV x v->Vals G U->r x G H Q ->
  wpAny (model X.prog X.w) X.A (call (.builtin id) (v::U)) (EP X Z L Q) X.xe s
theorem Vals.one:∀{x:V}{Z:Zl},Vals [x] Z->∃u,Z=[u]/\RelV x u
 |_,_,.cons r .nil=>⟨_,rfl,r⟩
def Inv.bau{G:Zl}(I:Inv X pins σ H s)(L:H l=some (.lst xs))(e:s.heap.get? l=some { cls:=.type "list",data:=.seq G.toArray n })(hf:f G.toArray=its'.toArray)(U:Vals Z its')(hz:Z.length<=sizeLine) :
 Inv X pins σ (upd H l (.lst Z)) { s with heap:=s.heap.update l (Obj.mapSeq f),toks:=t' }:=by
 have q:=PySem.IsL.update e f;rw[hf]at q;refine I.write (x:=l) (e:=l) (by rw[L];exact trivial) (.inl rfl) (λb' u hb hu=>(t7 s.heap (Obj.mapSeq f) (kj hb)).trans hu) ⟨_,q⟩ ?_;exact⟨hz,its',_,U,q⟩
def Inv.bg1(I:Inv X pins σ H s)(U:Vals Z G)(L:Z.length<=sizeLine) :
 Inv X pins σ (upd H s.heap.objs.size (.lst Z)) { s with heap:=s.heap.push { cls:=.type "list",data:=.seq G.toArray },toks:=t' }:=
 I.laid (λ_ _ q=>ao _ q) (cg _) ⟨L,G,0,U,bu _ rfl⟩
theorem Inv.fresh(I:Inv X pins σ H s):H s.heap.objs.size=none:=I.Ad.fresh (cg _)
def Inv.al2(I:Inv X pins σ H s)(U:H l=some (.lst G)):G.length<=sizeLine/\∃(Z:Zl)(n:Nat),Vals G Z/\G.length=Z.length/\s.heap.get? l=some { cls:=.type "list",data:=.seq Z.toArray n }:=by obtain⟨z,Z,n,r,e⟩:=I.Ad l _ U;exact⟨z,Z,n,r,r.length,e⟩
def aqk(h:n<=sizeLine):Builtin.List.listTooLong n=false:=by unfold Builtin.List.listTooLong;exact vy (j_ h)
def awi:V->List V->Hp->VK->Prop:=λx G H Q=>∃l Z y,x=.ref l/\G=[y]/\H l=some (.lst Z)/\Z.length<sizeLine/\Q .non (upd H l (.lst (Z++[y])))
def aaa:MtM X "list.append" awi:=by intro L s σ H x vs v us Q I rx rv h;obtain⟨l,xs,y,rfl,rfl,Z,U,q⟩:=h;cases rx;obtain⟨u,rfl,ru⟩:=rv.one;obtain⟨z,G,n,r,hl,e⟩:=I.al2 Z;refine call_meets F.slot_list_append ⟨_,e,rfl⟩ F.entry_list_append (F.args_list_append_2 _ _) (PySem.list_append l G.toArray n u (by rw[gf];exact e_ (c_ (g_ hl) U))) ⟨e,?_⟩;refine⟨.non,_,I.bau (its':=G++[u]) Z e (by simp) (r.append (.cons ru .nil)) ?_,rfl,q⟩;rw[o8,List.length_singleton];exact U
def awj:V->List V->Hp->VK->Prop:=λx U H Q=>∃l b Z G,x=.ref l/\U=[.ref b]/\H l=some (.lst Z)/\H b=some (.lst G)/\Z.length+G.length<=sizeLine/\Q .non (upd H l (.lst (Z++G)))
def al3:MtM X "list.extend" awj:=by
 intro qq s σ H x vs v us Q I rx rv h;obtain⟨l,b,xs,zs,rfl,rfl,hH,hB,hz,q⟩:=h;cases rx;obtain⟨u,rfl,ru⟩:=rv.one;cases ru;obtain⟨z,G,n,r,hl,e⟩:=I.al2 hH;obtain⟨z2,Z,n2,r2,qk,e2⟩:=I.al2 hB;have U:G.toArray.size+Z.toArray.size<=sizeLine:=by rw[gf,gf];lia
 have L:¬(!G.toArray.isEmpty&&Builtin.List.listTooLong (G.toArray.size+Z.toArray.size))=true:=by rw[aqk U,Bool.and_false];exact ig
 refine call_meets F.slot_list_extend ⟨_,e,rfl⟩ F.entry_list_extend (F.args_list_extend_2 _ _)
  (AutoSeq1.list_extend_list_list_0 l G.toArray n b Z.toArray n2 L (by rw[gf];exact a_ (g_ hl) z) (a_ U x_)) ⟨e,e2,?_⟩
 refine⟨.non,_,I.bau (its':=G++Z) hH e (by simp) (r.append r2) ?_,rfl,q⟩;rw[o8];exact hz
def baw:R2:=λx y H Q=>∃l b Z G,x=.ref l/\y=.ref b/\H l=some (.lst Z)/\H b=some (.lst G)/\Z.length+G.length<=sizeLine/\∀p,H p=none->Q (.ref p) (upd H p (.lst (Z++G)))
def aql:Cy X (binaryOp .Add) baw:=by
 intro G s σ H x y v u Q I rx ry h;obtain⟨l,b,xs,zs,rfl,rfl,L,hB,hz,q⟩:=h;cases rx;cases ry;obtain⟨z,U,n,r,hl,e⟩:=I.al2 L;obtain⟨z2,Z,n2,r2,qq,e2⟩:=I.al2 hB;refine PySem.P.add_list e e2 ?_ (by rw[gf,gf];lia);have ea:U.toArray++Z.toArray=(U++Z).toArray:=by simp
 rw[ea];exact⟨.ref _,_,I.bg1 (t':=s.toks) (r.append r2) (by rw[o8];exact hz),rfl,q _ I.fresh⟩
end L2
namespace Att
open PySem PySem.W PySem.Calls PyProof.Rows
def Vt:∀(ns:U1)(Z:Zl),WellAll P h Z (ns.map WData.int)->IntsAre Z ns:=by
 intro ns
 induction ns with
 |nil =>
  intro Z w;rw[List.map_nil]at w;cases w;exact .nil
 |cons n ns G =>
  intro Z w;rw[dj]at w;cases w with
  |cons a b =>
   cases a;exact .cons _ _ (G _ b)
def al4{l:OpenLaw}(hn:l.most=some n)(G:l.row.toRowW.claim.pre args=true)(qk:WellAll P h vals args) :
 ∃a vs Z,vals=[Value.ref a]/\args=[WData.list (Z.map WData.int)]/\h.get? a=some { cls:=.type "list",data:=.seq vs.toArray }/\IntsAre vs Z/\Z.length<=n:=by
 have qq:WShape.hasAll [] args [.list .int]=true:=(pre_splitW G).1;have hc:l.pre.holds [] { args:=args }=true:=(pre_splitW G).2;obtain⟨d,r,rfl,h1,h2⟩:=hasAllW_cons qq;obtain rfl:=hasAllW_nil h2;obtain⟨xs,rfl,h3⟩:=hasW_list h1;obtain⟨Z,rfl⟩:=items_int h3;have U:Z.length<=n:=by
  unfold OpenLaw.pre at hc;have L:(WTm.not (.lt (.lit (.int (n:Int))) (.len (.arg 0)))).holds [] { args:=[.list (Z.map .int)] }=true:=by have L:=(holds_andW hc).1;rw[hn]at L;exact L
  have h5:=condW_of L (w_not (w_lt w_lit (w_len_list (w_arg rfl))));rw[dg]at h5;refine Nat.le_of_not_lt λq=>?_
  have q':(n:Int)<((Z.length:Nat):Int):=m_ q
  first
   |(rw[Al q']at h5;exact absurd h5 (by decide))
   |(simp at h5;omega)
 cases qk with
 |cons w1 w2 =>
  cases w2;cases w1 with
  |list ho Dh=>exact⟨_,_,Z,rfl,rfl,ho,Vt Z _ Dh,U⟩
def al5(l:OpenLaw)(Z:List WData):l.row.toRowW.claim.post Z (.bool true) Z=true:=
 postW_of (r:=l.row.toRowW) (X:=(true==true))
  (show WShape.has [] (.bool true) .bool=true by first|rfl|decide|simp[WShape.has,WShape.arms,WShape.armsAll])
  (show(WTm.eq .res (.lit (.bool true))).value [] { args:=Z,res:=some (.bool true),after:=Z }=some (.bool (true==true))from w_eq_bool (w_res rfl) w_lit) rfl
def aeq{l:OpenLaw}(hn:l.most=some n)(q3:d.params.defaults=[])(call:∀(w:World) (U Z:Shared) (mg mb:Zs) (fa:Addr) (o:Obj) (pm cd L:Value) (a:Addr) (vs:Zl) (ns:U1),
 Ground q loose [] XP w U mg mb Z.heap->YP w Z.heap ->
 Z.heap.get? fa=some o->o.data=.func (docDef d.name d.params d.body d.scope pm cd L)->Z.heap.CodeRec cd d.name->mg d.name=some (.ref fa) ->
 Z.heap.get? a=some { cls:=.type "list",data:=.seq vs.toArray }->IntsAre vs ns->ns.length<=n->Z.gens=#[] ->
 codeAny (model l.prog w) callerA (.call (.ref fa) ⟨[.ref a],[]⟩) (λr s'=>r=.ok (.ret (.bool true))/\OldK Z.heap s'.heap/\s'.os=Z.os/\AllBare s'.gens) Z) :
 WalkO q loose XP YP l.row.toRowW d [] (λf vs=>PySem.call f vs):=by
 intro w U Z mg mb G Y fa o pm cd L dV kV ho hd q1 hD q4 hg q6 q5 as qv q7 q8 q2 zz;obtain rfl:dV=.none:=Dflts.none hD q3;obtain rfl:kV=.none:=Dflts.noKw hD;obtain⟨a,vs,ns,rfl,rfl,q0,qq,qk⟩:=al4 hn qv q2;refine enter_call (ue (call w U Z mg mb fa o pm cd L a vs ns G Y ho (fd_plain hd) q1 q4 q0 qq qk hg) λr s' hq=>?_);obtain⟨rfl,h2,h3,h4⟩:=hq;exact⟨.inl ⟨.bool true,.bool true,[],rfl,λ_=>rfl,.bool true,al5 l _,λ_=>⟨List.Pairwise.nil,λ_ hm=>(nomatch hm)⟩⟩,h2,h3,h4⟩
end Att
namespace L2
open PySem PySem.Spec PyProof.Rows
theorem aab:∀{Z:Zl}{G:U1},IntsAre Z G->Vals (G.map V.int) Z
 |_,_,.nil=>.nil|_,_,.cons n t h=>.cons ⟨t,rfl⟩ (aab h)
def Only(H:Hp):Prop:=∀b,H b=none\/∃o Z,H b=some (.Ox o (.lst Z))
def aqm{K:Fg}(KX:K.In s₁.heap)(qk:s₁.heap.Ns mainGlobals mg)(Z:s₁.heap.Ns builtinsNs mb)(q3:∀x:Str,x≠"__name__"-> mb x=bootBuiltins x)(q7:s₁.heap.NoLimit)(hg:s₁.gens=#[])(ha:s₁.heap.get? a=some { cls:=.type "list",data:=.seq vs.toArray })(hi:IntsAre vs ns)(hl:ns.length<=sizeLine)(hr:zp k callerA)(F:∀U:Heap,K.In U->U.Ns mainGlobals mg->Ff P w K mg U CX k fa fd [x] sp)(q2:∀(s:Shared) (u:Value),BindsTo s fd ⟨[u],[]⟩ [(x,u)])(q4:∀H:Hp,Only H->Ie K H a (ns.map V.int)->sp [.ref a] H (λv _=>v=.bl true) λ_ _ _=>False)(q8:∀H e G,CX [] H s₁ (λ_ _ _=>False) e G->False) :
 codeAny (model P w) callerA (.call (.ref fa) ⟨[.ref a],[]⟩) (λr G=>r=.ok (.ret (.bool true))/\OldK s₁.heap G.heap/\G.os=s₁.os/\AllBare G.gens) s₁:=by
 have rv:=aab hi;have q1:=hi.length;have qq:∀H:Hp,Only H->Ie K H a (ns.map V.int)->Pu P w H s₁.heap->(∀b,H b≠none->b=a)->(H a≠none->K.lookup a=none) ->
  codeAny (model P w) callerA (.call (.ref fa) ⟨[.ref a],[]⟩) (λr G=>r=.ok (.ret (.bool true))/\OldK s₁.heap G.heap/\G.os=s₁.os/\AllBare G.gens) s₁:=by
  intro H hO hS Ad hA hK;have Hb:∀{b:Addr}{o:Obj},s₁.heap.get? b=some o->H b=none->(abt s₁.heap H).get? b=some o:=λe n=>apq e n
  have q6:∀{b:Addr}{o:Obj}{es:Array DictEntry}{ep:Nat},s₁.heap.get? b=some o->o.data=.dict es ep->H b=none:=fun{b o es ep} e d=>by
   cases q:H b with
   |none=>rfl
   |some u =>
    have e':b=a:=hA b (by rw[q];simp);subst e';rw[ha]at e;cases e;have d':Data.seq vs.toArray _=Data.dict es ep:=d;cases d'
  have L:∀{b:Addr}{m:Zs},s₁.heap.Ns b m->(abt s₁.heap H).Ns b m:=fun{b m} ⟨o,es,ep,e,d,r⟩=>⟨o,es,ep,Hb e (q6 e d),d,r⟩
  have q0:K.In (abt s₁.heap H):=λb o e=>Hb (KX b o e) (by
   cases q:H b with
   |none=>rfl
   |some u =>
    have e':b=a:=hA b (by rw[q];simp);subst e';rw[hK (by rw[q];simp)]at e;cases e)
  have hM:Mod K mg (abt s₁.heap H):=⟨q0,L qk,⟨mb,L Z,q3⟩,let ⟨mc,h1,h2⟩:=q7;⟨mc,L h1,h2⟩⟩;have e0:ahk P w K mg (abt s₁.heap H) callerA [] s₁ H:=⟨rfl,hM,λb o e=>avr e,Nat.le_of_eq (alo _ _),trivial,λb Z=>absurd (show b∈([]:Xt)from Z) (by simp),Ad,.of_eq hg⟩;refine ue ((F _ q0 (L qk)).run callerA [] s₁ H ⟨[.ref a],[]⟩ [.ref a] [.ref a] _ _ hr e0 (q2 s₁ (.ref a)) (.cons rfl .nil) (q4 H hO hS)) λr G h=>?_
  cases r with
  |error e=>exact(q8 H e G h).elim
  |ok fl =>
   cases fl with
   |next=>exact False.elim h|brk=>exact False.elim h|cont=>exact False.elim h
   |ret u =>
    obtain⟨v,H',os,qv,un,q5,r',q⟩:=h;have q':v=.bl true:=q;subst q';obtain rfl:u=Value.bool true:=r';refine⟨rfl,OldK.of_keep λb o e=>?_,os,qv⟩;cases q:H b with
    |none=>exact un.keep b o e q (by intro z;exact absurd (show b∈([]:Xt)from z) (by simp)) (by simp)
    |some u =>
     rcases hO b with z|⟨ob,xs,z⟩
     .rw[q]at z;cases z
     .have z2:=un.abr b ob _ z
      obtain⟨e1,_⟩:=Ad b _ z;obtain⟨e2,_⟩:=q5 b _ z2;rw[e]at e1;cases e1;exact e2
 cases hk:K.lookup a with
 |some o =>
  have e:=KX a o hk;rw[ha]at e;cases e;refine qq (λ_=>none) (λ_=>.inl rfl) (.inr ⟨_,vs.toArray,_,hk,rfl,rfl,rfl,by rw[gf,q1];exact hl,by simpa using rv⟩) (λb u z=>by have z':(none:Option HO)=some u:=z;cases z') (λb z=>absurd rfl z) λz=>absurd rfl z
 |none =>
  refine qq (λb=>if b=a then some (.Ox { cls:=.type "list",data:=.seq vs.toArray } (.lst (ns.map V.int)))else none) (λb=>?_) (.inl (.inr ⟨{ cls:=.type "list",data:=.seq vs.toArray },bz rfl⟩)) (λb u z=>?_) (λb z=>?_) λ_=>hk
  .by_cases Z:b=a
   .exact .inr ⟨_,_,bz Z⟩
   .exact .inl (bc Z)
  .by_cases Z:b=a
   .have z':=(bz Z).symm.trans z
    cases z';subst Z;exact⟨ha,by rw[dg];exact hl,vs,_,rv,ha⟩
   .have z':=(bc Z).symm.trans z
    cases z'
  .by_cases Z:b=a
   .exact Z
   .exact absurd (bc Z) z
end L2
namespace L2
open PySem PySem.Spec PyProof.Rows
def awl{l:PySem.W.OpenLaw}{K:Params->Fg}{CX:World->CXT}{sp:World->Sp}(hn:l.most=some n)(Yy:n<=sizeLine)(q1:d.params.defaults=[])(hr:zp k callerA)(hY:∀(w:World) (h:Heap),YP w h->(K w.params).In h)(F:∀(w:World) (mg:Zs) (fa:Addr) (h:Heap),(K w.params).In h->h.Ns mainGlobals mg->mg d.name=some (.ref fa) ->
 ∃fd:FuncData,(∀(s:Shared) (u:Value),BindsTo s fd ⟨[u],[]⟩ [(x,u)]) /\
  ∀Z:Heap,(K w.params).In Z->Z.Ns mainGlobals mg->Ff l.prog w (K w.params) mg Z (CX w) k fa fd [x] (sp w))(qv:∀(w:World) (H:Hp) (a:Addr) (ns:U1),ns.length<=n->Only H->Ie (K w.params) H a (ns.map V.int)->sp w [.ref a] H (λv _=>v=.bl true) λ_ _ _=>False)(q0:∀(w:World) (H:Hp) (s:Shared) (e:Value) (s':Shared),CX w [] H s (λ_ _ _=>False) e s'->False) :
 PySem.W.WalkO q loose XP YP l.row.toRowW d [] (λf vs=>PySem.call f vs):=by
 refine Att.aeq hn q1 λw q3 qq mg mb fa o pm cd q4 a vs ns G Y ho hd q5 q2 qk L U hg=>?_
 have KX:=hY w _ Y;obtain⟨fd,hb,hF⟩:=F w mg fa _ KX G.T.g q2;exact aqm KX G.T.g G.T.b G.T.builtins G.T.nolimit hg qk L (gb U Yy) hr hF hb (λH hO hS=>qv w H a ns U hO hS) λH e s'=>q0 w H qq e s'
end L2
namespace L2
open PySem PySem.Spec PyProof.Rows
noncomputable def inClass(s:Stmt)(j:Nat):Stmt:=match s with
 |.ClassDef _ _ _ body _ _ _ _ _ _ _=>body.getD j (.Pass ⟨0,0,0,0⟩)|_=>.Pass ⟨0,0,0,0⟩
noncomputable def Hc(s:Stmt):Arguments:=match s with
 |.FunctionDef _ a _ _ _ _ _ _ _ _=>a|_=>{ posonlyargs:=[],args:=[],vararg:=none,kwonlyargs:=[],kw_defaults:=[],kwarg:=none,defaults:=[] }
noncomputable def Dw(s:Stmt):List Stmt:=match s with
 |.FunctionDef _ _ b _ _ _ _ _ _ _=>b|_=>[]
noncomputable def Ar(s:Stmt):Scope:=match s with
 |.FunctionDef _ _ _ _ _ _ sc _ _ _=>sc|_=>{ kind:=.function,names:=[],isGenerator:=false,isCoroutine:=false }
abbrev CX0:CXT:=λ_ _ _ _ _ _=>False
abbrev E0:XK:=λ_ _ _=>False
def ajf:Passes CX0 X E0:=λ_ _ _ _ _ _ _ h=>h.elim
structure Fun(K:Fg)(x qual:Str)(st:Stmt)(f:Addr)(fd:FuncData):Prop where
 ex:∃(oc:Value)(od:Option Addr)(kV doc pm:Value)(an:Option Addr)(cdv ct:Value)(osl:Array (Option Value)),
  fd=PySem.W.fnOf x qual (Hc st) (Dw st) (Ar st) .none kV doc pm an cdv ct/\K.lookup f=some ⟨oc,od,.func fd,osl⟩/\PySem.W.codeIn K cdv qual=true
 kp:PySem.W.keepIn K (.ref f)=true
def Fun.ok{K:Fg}{L:Stmt}(F:Fun K x qual L f fd)(S:V6 N ps (Ar L))(len:∀U H Q E,sp U H Q E->U.length=ps.length)(qv:∀(G:Value) (A:Around) (Z:List Env) (s:Shared) (H:Hp) (U:List V) (Q:VK) (E:XK),zp k (A.deeper (envOfC qual (Ar L) s.heap.objs.size f G))->sp U H Q E ->
 ∃t,R9 (ahm CX0 P w K mg base N qual (Ar L) f G A Z s H E).nox (Dw L) t/\t { nx:=λ_ H'=>Q .non H',rt:=Q } (start N U) H):Ff P w K mg base CX0 (k+1) f fd ps sp:=by
 obtain⟨oc,od,kV,q1,pm,an,G,ct,q0,rfl,lk,qk⟩:=F.ex;refine bai lk qk S len λA Z s H U Q E hr qq=>?_
 obtain⟨t,h,q⟩:=qv G A Z s H U Q E hr qq;exact⟨t,h.nox,q⟩
def Fun.binds{K:Fg}{U:Stmt}(F:Fun K x qual U f fd)(h:∀(kV Z pm:Value) (L:Option Addr) (G ct:Value) (us:Zl),us.length=ps.length->bindArgs (PySem.W.fnOf x qual (Hc U) (Dw U) (Ar U) .none kV Z pm L G ct) ⟨us,[]⟩=pure (ps.zip us)):Binds K fd ps []:=by obtain⟨oc,od,kV,Z,pm,L,G,ct,qq,rfl,lk,qk⟩:=F.ex;exact .all (h kV Z pm L G ct)
def aqn{K:Fg}{U:Stmt}{f:Addr}{oc:Value}{od an:Option Addr}{L:Array (Option Value)}{kV G pm Z ct:Value}(l:K.lookup f=some ⟨oc,od,.func (PySem.W.fnOf x qual (Hc U) (Dw U) (Ar U) .none kV G pm an Z ct),L⟩)(c:PySem.W.codeIn K Z qual=true)(k:PySem.W.keepIn K (.ref f)=true):Fun K x qual U f (PySem.W.fnOf x qual (Hc U) (Dw U) (Ar U) .none kV G pm an Z ct):=⟨⟨oc,od,kV,G,pm,an,Z,ct,L,rfl,l,c⟩,k⟩
def aac{A:Around}{k:Nat}(Z:zp k A):A.units+1<cLine:=Bd (Nat.add_le_add_left (by decide:1<=64) _) Z.units
end L2
namespace L2
open PySem PySem.Spec PyProof.Rows
noncomputable def Jy(cells:U2):List (Str×NameKind)->List (Str×Addr)->List (Str×Addr)
 |[],cs=>cs|(n,k)::r,cs=>Jy cells r (if k==.free then(n,(cells.lookup n).getD 0)::cs else cs)
theorem Vf{G Z:Type}{f:G->Z->Sem (ForInStep Z)}{g:G->Z->Z}:∀{l:List G}(c:Z),(∀x∈l,∀c,f x c=pure (.yield (g x c)))->forIn l c f=pure (l.foldl (λc x=>g x c) c)
 |[],c,_=>rfl
 |x::l,c,h=>by
  rw[List.forIn_cons,h x dh,pure_bind];exact Vf (g x c) λy U=>h y (bx _ U)
theorem Vg(cells:U2):∀(l:Xs)(Z:U2),Jy cells l Z=l.foldl (λc x=>if x.2==.free then(x.1,(cells.lookup x.1).getD 0)::c else c) Z
 |[],_=>rfl|(n,k)::r,Z=>Vg cells r _
def Xl(h:∀y∈scope.names,y.2=.free->∃c,env.cells.lookup y.1=some c):closureFor scope env=pure (Jy env.cells scope.names []):=by
 simp only[closureFor];rw[Vf (g:=λx c=>if x.2==.free then(x.1,(env.cells.lookup x.1).getD 0)::c else c) [] (λx L c=>by
  obtain⟨n,k⟩:=x
  by_cases G:k=.free
  .subst G
   obtain⟨c',Z⟩:=h (n,.free) L rfl;have Z:env.cells.lookup n=some c':=Z;simp[cellOf,Z]
  .have U:(k==NameKind.free)=false:=by simpa using G
   simp[U]),Vg]
 rfl
theorem aer(cells:U2):∀(l:Xs)(G:U2)(x:Str)(c:Addr),(∀y∈l,y.2=.free->∃c,cells.lookup y.1=some c)->(Jy cells l G).lookup x=some c ->
 G.lookup x=some c\/cells.lookup x=some c
 |[],G,x,c,_,h=>.inl h
 |(n,k)::r,G,x,c,hy,h=>by
  rcases aer cells r _ x c (λz hz=>hy z (bx _ hz)) h with q|q
  .by_cases U:k=.free
   .subst U
    simp only[zx,jg,n6]at q;cases e:x==n with
    |true =>
     rw[e]at q;obtain⟨c',Z⟩:=hy (n,.free) dh rfl;have Z:cells.lookup n=some c':=Z;simp only[Z,Option.getD_some,Option.some.injEq]at q;subst q;rw[eq_of_beq e];exact .inr Z
    |false=>rw[e]at q;exact .inl q
   .have L:(k==NameKind.free)=false:=by simpa using U
    simp only[L,bw,gm]at q;exact .inl q
  .exact .inr q
theorem Xm(cells:U2):∀(l:Xs)(Z:U2)(x:Str),(∃c,Z.lookup x=some c)->∃c,(Jy cells l Z).lookup x=some c
 |[],Z,x,h=>h
 |(n,k)::r,Z,x,h=>by
  refine Xm cells r _ x ?_
  by_cases G:(k==NameKind.free)=true
  .rw[bz G,n6]
   cases e:x==n with
   |true=>exact⟨_,rfl⟩|false=>exact h
  .rw[bc G];exact h
theorem Ub(cells:U2):∀(l:Xs)(Z:U2)(x:Str),(x,NameKind.free)∈l->∃c,(Jy cells l Z).lookup x=some c
 |(n,k)::r,Z,x,h=>by
  rcases cj.mp h with q|q
  .obtain⟨rfl,rfl⟩:=Prod.mk.inj q
   refine Xm cells r _ x ⟨(cells.lookup x).getD 0,?_⟩;rw[bz (by simp),n6,zx]
  .exact Ub cells r _ x q
theorem Oe{Z:Env}:∀{G:Xs}{x:Str},
 (G.map λ(y:Str×NameKind)=>if(y.2==NameKind.free&&Z.scope.kind==.function&&Z.kindOf y.1==some .cell)then(y.1,NameKind.cell)else(y.1,y.2)).lookup x
  = (G.lookup x).map λk=>if(k==NameKind.free&&Z.scope.kind==.function&&Z.kindOf x==some .cell)then NameKind.cell else k
 |[],_=>rfl
 |(n,k)::r,x=>by
  have L:=@Oe Z r x;rw[dj];cases hx:x==n with
  |true =>
   have e:=eq_of_beq hx;subst e;clear hx
   by_cases U:(k==NameKind.free&&Z.scope.kind==.function&&Z.kindOf x==some .cell)=true
   .simp only[U,jg,n6,zx,vg]
   .have hb:(k==NameKind.free&&Z.scope.kind==.function&&Z.kindOf x==some .cell)=false:=by simpa using U
    simp only[hb,bw,gm,n6,zx,vg]
  |false =>
   by_cases U:(k==NameKind.free&&Z.scope.kind==.function&&Z.kindOf n==some .cell)=true
   .simp only[U,jg,n6,hx];exact L
   .simp only[U,n6,hx];simpa[n6,hx]using L
theorem mem_of_lookup{Z G:Type}[BEq Z][LawfulBEq Z]:∀{l:List (Z×G)}{x:Z}{y:G},l.lookup x=some y->(x,y)∈l
 |(a,b)::r,x,y,h=>by
  rw[n6]at h;cases e:x==a with
  |true=>rw[e]at h;cases h;rw[eq_of_beq e];exact dh|false=>rw[e]at h;exact bx _ (mem_of_lookup h)
def Lz(X:Cx)(N:X9)(Z:Scope)(C:Addr)(G:Xt)(s:Shared)(H:Hp):Cx where
 prog:=X.prog
 w:=X.w
 K:=X.K
 mg:=X.mg
 base:=X.base
 A:=X.A
 N:=N
 s₀:=s
 H₀:=H
 env:=compEnvC Z (Jy X.env.cells Z.names []) C X.env
 outer:=X.stack
 stack:=X.stack
 ex:=G
 fn:=λ_=>false
 calm:=X.calm
 pn:=[]
 xe:=λ_ _=>False
structure G7(X:Cx)(N:X9)(scope:Scope):Prop where
 kind:scope.kind=.function
 aqo:∀y∈scope.names,y.2≠.cell
 locs:∀y∈scope.names,y.2=.local->scope.names.lookup y.1=some .local
 frees:∀y∈scope.names,y.2=.free->X.env.kindOf y.1=some .cell\/X.env.kindOf y.1=some .free
 uniq:∀x k,(x,k)∈scope.names->scope.names.lookup x=some k
 long:X.N.length<=N.length
 vis:∀i x,i<X.N.length->N[i]?=some x->Vis (relabel scope X.env) x->X.N[i]?=some x/\scope.names.lookup x=some .free
theorem G7.cells(B:G7 X N scope)(ok:X.Ok):∀y∈scope.names,y.2=.free->∃c,X.env.cells.lookup y.1=some c:=λy Z G=>ok.has y.1 (B.frees y Z G)
def G7.clos(B:G7 X N scope)(ok:X.Ok):closureFor scope X.env=pure (Jy X.env.cells scope.names []):=Xl (B.cells ok)
def G7.inCells(B:G7 X N scope)(ok:X.Ok)(h:(Jy X.env.cells scope.names []).lookup x=some c):X.env.cells.lookup x=some c:=by
 rcases aer _ _ _ _ _ (B.cells ok) h with q|q
 .simp at q
 .exact q
def aes{X:Cx}(x:Str):(compEnvC scope cl C X.env).kindOf x=(scope.names.lookup x).map λk=>if(k==NameKind.free&&X.env.scope.kind==.function&&X.env.kindOf x==some .cell)then NameKind.cell else k:=by show(relabel scope X.env).names.lookup x=_;exact Oe
def al6(B:G7 X N scope)(I:Inv X pins σ H s)(hf:∀b∈fp,Vr X pins H b)(q1:∀b∈fp,∃o,s.heap.get? b=some o)(qv:L.Ns (s.heap.objs.size+1) λ_=>none)(hk:∀b o,s.heap.get? b=some o->L.get? b=some o)(Dc:L.get? s.heap.objs.size=some { cls:=.type "list",data:=.seq ([]:Zl).toArray }) :
 Inv (Lz X N scope (s.heap.objs.size+1) fp s H) [] (σ++List.replicate (N.length-X.N.length) none) (upd H s.heap.objs.size (.lst [])) { s with heap:=L,toks:=t }:=by
 have ok:=I.ok;have hD:H s.heap.objs.size=none:=I.Ad.fresh (cg _);have hC:H (s.heap.objs.size+1)=none:=I.Ad.fresh (ur _);have q2:s.heap.objs.size+1≠s.heap.objs.size:=Nat.succ_ne_self _;have lt:∀b∈fp,b<s.heap.objs.size:=λb hb=>by obtain⟨o,e⟩:=q1 b hb;exact aq e
 have qk:∀x c,X.env.cells.lookup x=some c->c<s.heap.objs.size:=λx c e=>by obtain⟨v,o,ho,_⟩:=I.cell x c e;exact aq ho
 refine⟨⟨ok.mod,B.kind,ok.glob,ok.blt,ur _,?_,?_,?_,ok.hd,ok.frames,.inl rfl,?_,λb o e=>I.bs b o e,gb ok.bsz I.sz,?_,?_,I.stack,I.ai6⟩,rfl,I.bare,?_,?_,?_,?_,?_,?_,?_,?_⟩
 .intro x y c U hy
  exact ok.inj x y c (B.inCells ok U) (B.inCells ok hy)
 .intro x U
  rw[show(Lz X N scope (s.heap.objs.size+1) fp s H).env.kindOf x=_ from aes x]at U;cases e:scope.names.lookup x with
  |none=>rw[e]at U;rcases U with q|q<;>simp at q
  |some k =>
   have Va:k=.free:=by
    rw[e]at U;cases k with
    |free=>rfl|cell=>exact absurd rfl (B.aqo _ (mem_of_lookup e))|«local»=>rcases U with q|q<;>simp at q
    |globalExplicit=>rcases U with q|q<;>simp at q
    |globalImplicit=>rcases U with q|q<;>simp at q
   subst Va;exact Ub _ _ _ _ (mem_of_lookup e)
 .intro x c h;cases h
 .intro b hb
  refine⟨λe=>?_,λx c hc e=>?_⟩
  .have q:=lt b hb
   have e:b=s.heap.objs.size+1:=e;rw[e]at q;exact absurd q (Nat.not_lt.mpr (ur _))
  .obtain⟨_,_,_,_,f4,_⟩:=hf b hb
   exact f4 x c (B.inCells ok hc) e
 .intro b o e hb
  obtain⟨_,_,_,f3,_⟩:=hf b hb;rcases f3 with q|q
  .exact ok.aps b o e q
  .exact qd _ (il (aq e) (gb ok.bsz q))
 .intro b hb q
  obtain⟨_,f1,f2,_⟩:=hf b hb;rcases cj.mp (I.abu b q)with z|z
  .exact f1 z
  .exact f2 z
 .exact Un.laid hk (cg _) hD
 .refine⟨_,qv,λi x v hN Z hv=>?_⟩
  have hi:i<X.N.length:=by
   rcases uq i σ.length with q|q
   .rw[I.len]at q;exact q
   .rw[o6 q]at Z
    rw[List.getElem?_replicate]at Z;split at Z<;>simp at Z
  rw[jx (by rw[I.len];exact hi)]at Z;obtain⟨U,Va⟩:=B.vis i x hi hN hv;obtain⟨m,_,hl⟩:=I.loc;have qq:=B.frees _ (mem_of_lookup Va) rfl;have q0:Vis X.env.scope x:=by
   rcases qq with q|q
   .exact .inr (.inl q)
   .exact .inr (.inr q)
  obtain⟨u,ru,lu⟩:=hl i x v U Z q0;refine⟨u,ru,.inr ⟨?_,?_⟩⟩
  .rw[show(Lz X N scope (s.heap.objs.size+1) fp s H).env.kindOf x=_ from aes x,Va]
   simp only[vg];split
   .exact .inl rfl
   .exact .inr rfl
  .rcases lu with⟨q,_⟩|⟨_,c,hc,ic⟩
   .rcases qq with z|z<;>rw[q]at z<;>cases z
   .obtain⟨c',G⟩:=Ub X.env.cells scope.names [] x (mem_of_lookup Va)
    have:=B.inCells ok G;rw[hc]at this;cases this;exact⟨c,G,ic.keeps hk⟩
 .intro x c hc
  obtain⟨v,iv⟩:=I.cell x c (B.inCells ok hc);exact⟨v,iv.keeps hk⟩
 .show upd H s.heap.objs.size (.lst []) (s.heap.objs.size+1)=none
  rw[j0 q2];exact hC
 .intro x c hc
  have G:=B.inCells ok hc;rw[j0 (dq (qk x c G))];exact I.Ob x c G
 .intro p hp;simp[Lz]at hp
 .exact Pu.laid I.Ad hk (cg _) ⟨iy _,[],0,.nil,Dc⟩
 .show(σ++List.replicate (N.length-X.N.length) none).length=N.length
  rw[o8,List.length_replicate,I.len];have:=B.long;omega
def Og(I:Nat->Shared->Prop)(q4:∀n s,I n s->wpAny (model prog w) A (pyNext it) (λr L=>match r with
 |none=>R (.ok .next) L
 | some v=>wpAny (model prog w) A (letOwnedTupleGo target it v) (λ_ G=>wpAny (model prog w) A (assign target env v) (λ_ qq =>
  wpAny (model prog w) A (forIn ifs true λc r=>if r=true then do let ok<-isTrue c env (eval c env);pure (ForInStep.yield ok)else pure (ForInStep.yield r)) (λok Z =>
   if ok=true then wpAny (model prog w) A (eval elt env) (λx qv =>
    wpAny (model prog w) A (call (.builtin "list.append") [acc,x]) (λ_ q1=>∃m,m<n/\I m q1) (λ_ _=>False) qv) (λ_ _=>False) Z
   else ∃m,m<n/\I m Z) (λ_ _=>False) qq) (λ_ _=>False) G) (λ_ _=>False) L) (λ_ _=>False) s)(n:Nat)(h:I n s) :
 codeAny (model prog w) A (.compLoop (.ListComp elt [⟨target,iter,ifs,0⟩] scope pos) 0 it acc env) R s:=by
 have nv:∀{α:Type}{t:Sem α}{Q:α->Shared->Prop}{E:Y3}{s:Shared},wpAny (model prog w) A t Q (λ_ _=>False) s->wpAny (model prog w) A t Q E s:=λh=>iz h (λ_ _ q=>q) λ_ _ f=>f.elim
 refine codeAny_loop rfl I (λn s hI=>?_) n h;show wpAny _ A ((compTurn (.ListComp elt [⟨target,iter,ifs,0⟩] scope pos) 0 it acc env).onRaise (λx=>do noteFrame x env;theTreesLotGoes x)) _ _ s;refine wpAny_noted ?_;rw[compTurn_list];refine aa (wpAny_standAt (aa (iz (q4 n s hI) (λr L q0=>?_) λ_ _ U=>U.elim)));cases r with
 |none=>exact aj q0
 |some v =>
  refine aa (iz q0 (λ_ G q2=>?_) λ_ _ U=>U.elim);refine aa (iz q2 (λ_ qq q3=>aa (iz q3 (λok Z qk=>?_) λ_ _ U=>U.elim)) λ_ _ U=>U.elim);cases ok with
  |false=>exact aj ⟨rfl,qk⟩
  |true =>
   exact aa (aa (iz qk (λx qv q5=>aa (iz q5 (λ_ q1 q6=>aj (aj ⟨rfl,q6⟩)) λ_ _ U=>U.elim)) λ_ _ U=>U.elim))
def aet(k:Nat)(wi:TI)(g:TG)(tc:TT)(te:TE):TE:=λU H Q=>wi U H λJ H1=>∀D,H1 D=none->∃W:Nat->Nat->Hp->Prop,(∃m,W 0 m (upd H1 D (.lst [])))/\∀i m H,W i m H ->
 (J.stop i H/\Q (.ref D) H)\/(J.go i H/\∀x H',J.yld i H x H'->g x (U++List.replicate k none) H' λZ H2=>Z.length=(U++List.replicate k none).length /\
  (∀(j:Nat) v,(U++List.replicate k none)[j]?=some (some v)->Z[j]?=some (some v))/\tc Z H2 λb H3 =>
   if b=true then te Z H3 λv H4=>∃L G,H4 D=some (.lst L)/\L.length<sizeLine/\G<m/\W (i+1) G (upd H4 D (.lst (L++[v])))else ∃G,G<m/\W (i+1) G H3)
def PTs(X:Cx)(Z:X0)(G:TT):Prop:=(Z=[]/\G=λ_ H Q=>Q true H)\/∃c,Z=[c]/\PT X c G
def aad(I:Inv X pins σ H s)(L:∀b∈fp,Vr X pins H b)(J:Inv (Lz X N scope (s.heap.objs.size+1) fp s H) [] U H3 s3):Inv X pins σ H3 s3/\∃m,s3.heap.Ns (s.heap.objs.size+1) m:=by
 refine⟨I.call' J.os J.base J.Ad J.bare λb G=>?_,?_⟩
 .obtain⟨_,f1,_,f3,f4,f5⟩:=L b G
  exact⟨f3,f1,f4,f5⟩
 .obtain⟨m,Z,_⟩:=J.loc
  exact⟨m,Z⟩
def al7(I:Inv X pins σ H s)(I3:Inv X pins σ G s3)(hC:G (s.heap.objs.size+1)=none)(L:Heap.SameBut (s.heap.objs.size+1) s3.heap h'):Inv X pins σ G { s3 with heap:=h' }:=by
 have big:∀b o,s.heap.get? b=some o->b≠s.heap.objs.size+1:=λb o e z=>by have:=aq e;rw[z]at this;exact absurd this (Nat.not_lt.mpr (ur _))
 refine I3.turned (t':=s3.toks) (λb o hb e=>L.extBut b o hb e) hC ?_ (.inr (gb I.sz (ur _))) ?_ ?_
 .intro e
  obtain⟨m,⟨o,_,_,Z,_⟩,_⟩:=I.loc;exact big _ o Z e.symm
 .intro x c hc
  obtain⟨v,o,Z,_⟩:=I.cell x c hc;exact big c o Z
 .intro p U
  exact big p.1 p.2 (I.pin p U).1
def Xn{RR:Value->Addr->Result->Shared->Prop}(B:G7 X N scope)(Iv:X.calm=true)(I:Inv X pins σ H s)(hf:∀b∈G,Vr X pins H b)(T:Turn X.prog X.w X.K tg J G it tn)(h0:tn 0 s.heap)(hg:∀C s H,PG (Lz X N scope C G s H) tg g)(hc:∀C s H,PTs (Lz X N scope C G s H) ifs tc)(he:∀C s H,PE (Lz X N scope C G s H) elt te){Q:VK}(W:Nat->Nat->Hp->Prop)(w0:W 0 m0 (upd H s.heap.objs.size (.lst [])))(z3:∀i m H,W i m H->(J.stop i H/\Q (.ref s.heap.objs.size) H)\/(J.go i H/\∀x H',J.yld i H x H'->g x (σ++List.replicate (N.length-X.N.length) none) H' λq1 H2=>q1.length=(σ++List.replicate (N.length-X.N.length) none).length /\
 (∀(j:Nat) v,(σ++List.replicate (N.length-X.N.length) none)[j]?=some (some v)->q1[j]?=some (some v))/\tc q1 H2 λb H3 =>
  if b=true then te q1 H3 λv H4=>∃xs L,H4 s.heap.objs.size=some (.lst xs)/\xs.length<sizeLine/\L<m/\W (i+1) L (upd H4 s.heap.objs.size (.lst (xs++[v])))else ∃L,L<m/\W (i+1) L H3))(y1:∀zv H3 s3,Inv (Lz X N scope (s.heap.objs.size+1) G s H) [] zv H3 s3->Q (.ref s.heap.objs.size) H3->RR (.ref s.heap.objs.size) (s.heap.objs.size+1) (.ok .next) s3) :
 wpAny (model X.prog X.w) X.A (newList []) (λacc z2=>wpAny (model X.prog X.w) X.A (newFunctionEnv scope X.env.globals (Jy X.env.cells scope.names []) [] X.env.qual none .none (some X.env)) (λq2 z4 =>
  codeAny (model X.prog X.w) X.A (.compStart (.ListComp elt [⟨tg,iter,ifs,0⟩] scope pos) 0 (.ref it) acc { q2 with scope:=relabel scope X.env }) (RR acc q2.locals) z4) E z2) E s:=by
 refine lz (wpAny_newFunctionEnv B.aqo (by intro y hy;simp at hy) (λq0 U Z=>?_) B.kind);dsimp only at U Z⊢;have z9:(s.heap.push { cls:=.type "list",dict:=none,data:=.seq ([]:Zl).toArray }).objs.size=s.heap.objs.size+1:=jt _ _;rw[z9]at U Z;have q5:∀b o,s.heap.get? b=some o->q0.get? b=some o:=λb o e=>Z.extBut b o (λz=>absurd (aq e) (by rw[z];exact Nat.not_lt.mpr (ur _))) (ao _ (ao _ e))
 have Dc:q0.get? s.heap.objs.size=some { cls:=.type "list",data:=.seq ([]:Zl).toArray }:=Z.extBut _ _ (dq (qw _)) (ao _ (bu _ rfl));have q8:∀b∈G,∃o,s.heap.get? b=some o:=λb hb=>let ⟨o,e,_⟩:=T.obj 0 _ h0 b hb;⟨o,e⟩
 have I0:=al6 (t:=s.toks+([]:List (Str×Value)).length) B I hf q8 U q5 Dc;have zk:∀{H':Hp},(∀b∈G,H' b=none)->∀b∈G,Vr (Lz X N scope (s.heap.objs.size+1) G s H) [] H' b:=λhn b hb=>by
  obtain⟨f0,f1,f2,f3,f4,f5⟩:=hf b hb;refine⟨hn b hb,?_,?_,.inl hb,?_,λp hp=>(by simp[Lz]at hp)⟩
  .intro z
   obtain⟨o,e⟩:=q8 b hb;have:=aq e;rw[show b=s.heap.objs.size+1 from z]at this;exact absurd this (Nat.not_lt.mpr (ur _))
  .intro q
   rcases cj.mp (I.abu b q)with z|z
   .exact f1 z
   .exact f2 z
  .intro x c hc
   exact f4 x c (B.inCells I.ok hc)
 have yy:∀b∈G,upd H s.heap.objs.size (.lst []) b=none:=λb hb=>by obtain⟨o,e⟩:=q8 b hb;rw[j0 (dq (aq e))];exact(hf b hb).1
 have q3:∀s':Shared,s'={ s with heap:=q0,toks:=s.toks+([]:List (Str×Value)).length }->codeAny (model X.prog X.w) X.A (.compLoop (.ListComp elt [⟨tg,iter,ifs,0⟩] scope pos) 0 (.ref it) (.ref s.heap.objs.size) (compEnvC scope (Jy X.env.cells scope.names []) (s.heap.objs.size+1) X.env))
  (RR (.ref s.heap.objs.size) (s.heap.objs.size+1)) s':=by
  rintro s' rfl;refine Og (λn s'=>∃i qk H',Inv (Lz X N scope (s.heap.objs.size+1) G s H) [] qk H' s'/\(∀(j:Nat) v,(σ++List.replicate (N.length-X.N.length) none)[j]?=some (some v)->qk[j]?=some (some v))/\tn i s'.heap/\(∀b∈G,H' b=none)/\W i n H') ?_ m0
   ⟨0,_,_,I0,λ_ _ z=>z,T.keep 0 _ _ h0 (λb _ o e=>q5 b o e),yy,w0⟩
  rintro n s3 ⟨i,zv,H3,I3,k3,z0,z5,w3⟩;have zw:=I3.weak (σ':=σ++List.replicate (N.length-X.N.length) none) (by rw[I3.len];exact I0.len) k3;rcases z3 i n H3 w3 with⟨z1,qn⟩|⟨go,step⟩
  .refine Bf (T.done (Lz X N scope (s.heap.objs.size+1) G s H) rfl rfl rfl Iv i [] s3 _ H3 (λ_ _=>False) zw (zk z5) z0 z1) λr s4 z_=>?_
   obtain⟨hr,I4⟩:=z_;subst hr;exact y1 _ _ _ I4 qn
  .refine Bf (T.item (Lz X N scope (s.heap.objs.size+1) G s H) rfl rfl rfl Iv i [] s3 _ H3 (λ_ _=>False) zw (zk z5) z0 go) λr s4 z_=>?_
   obtain⟨u,hr,h4⟩:=z_;subst hr;refine Bf h4 λ_ s5 z_=>?_
   obtain⟨x,H5,I5,r5,y5,q4,y0⟩:=z_;have yk:=I5.pinned (zk y0) (T.obj _ _ q4);refine Bf (hg _ _ _ _ s5 _ H5 x u _ yk r5 (step x H5 y5)) λ_ s6 z_=>?_
   obtain⟨qq,H6,I6,l6,k6,q6⟩:=z_;have qv:∀{ai7:Zp}{H7:Hp}{s7:Shared}{m:Nat},Inv (Lz X N scope (s.heap.objs.size+1) G s H) ([]++T9 G s5.heap) qq H7 s7->m<n->W (i+1) m H7 ->
    ∃m,m<n/\∃i qk H',Inv (Lz X N scope (s.heap.objs.size+1) G s H) [] qk H' s7/\(∀(j:Nat) v,(σ++List.replicate (N.length-X.N.length) none)[j]?=some (some v)->qk[j]?=some (some v))/\tn i s7.heap/\(∀b∈G,H' b=none)/\W i m H':=fun{_ H7 s7 m} I7 hm w7=>by
    refine⟨m,hm,i+1,qq,H7,I7.Od,k6,T.keep _ _ _ q4 λb hb o e=>(I7.pin (b,o) (fc _ (fc _ (Ku hb e)))).1,λb hb=>?_,w7⟩;obtain⟨o,e,d⟩:=T.obj _ _ q4 b hb;exact(I7.pin (b,o) (fc _ (fc _ (Ku hb e)))).2.1
   have zz:wpAny (model X.prog X.w) X.A (forIn ifs true λc r=>if r=true then do let ok<-isTrue c (compEnvC scope (Jy X.env.cells scope.names []) (s.heap.objs.size+1) X.env) (eval c (compEnvC scope (Jy X.env.cells scope.names []) (s.heap.objs.size+1) X.env));pure (ForInStep.yield ok)else pure (ForInStep.yield r))
    (TP (Lz X N scope (s.heap.objs.size+1) G s H) ([]++T9 G s5.heap) qq λb H3 =>
     if b=true then te qq H3 λv H4=>∃xs L,H4 s.heap.objs.size=some (.lst xs)/\xs.length<sizeLine/\L<n/\W (i+1) L (upd H4 s.heap.objs.size (.lst (xs++[v])))else ∃L,L<n/\W (i+1) L H3) (λ_ _=>False) s6:=by
    rcases hc (s.heap.objs.size+1) s H with⟨rfl,rfl⟩|⟨c,rfl,yv⟩
    .exact wpAny_tests_nil ⟨H6,I6,q6⟩
    .exact wpAny_tests_one (yv _ s6 qq H6 _ I6 q6)
   refine Bf zz λok s7 z_=>?_
   obtain⟨H7,I7,q7⟩:=z_;cases ok with
   |false =>
    obtain⟨L,hm,w7⟩:=(show ∃L,L<n/\W (i+1) L H7 from q7);exact qv (ai7:=[]) I7 hm w7
   |true =>
    show wpAny _ _ _ _ _ _;refine Bf (he _ _ _ _ s7 qq H7 _ I7 q7) λx s8 z_=>?_
    obtain⟨v,H8,I8,r8,xs,L,hD,hl,hm,w8⟩:=z_;refine Bf (aaa _ s8 qq H8 (.ref s.heap.objs.size) [v] (.ref s.heap.objs.size) [x] (λ_ H'=>W (i+1) L H') I8 rfl (.cons r8 .nil) ⟨_,xs,v,rfl,rfl,hD,hl,w8⟩) λ_ s9 z_=>?_
    obtain⟨_,H9,I9,_,w9⟩:=z_;exact qv (ai7:=[]) I9 hm w9
 rw[z9];exact codeAny_compStart_list (q3 _ rfl) (T.self _ 0 _ _ _ (T.keep 0 _ _ h0 (λb _ o e=>q5 b o e)) (q3 _ rfl))
def ajg(B:G7 X N scope)(Iv:X.calm=true)(hi:PI X tg iter wi)(hg:∀C Z s H,PG (Lz X N scope C Z s H) tg g)(hc:∀C Z s H,PTs (Lz X N scope C Z s H) ifs tc)(he:∀C Z s H,PE (Lz X N scope C Z s H) elt te)(hs:∀x,foldedSetIterable iter X.env x=pure x):PE X (.ListComp elt [⟨tg,iter,ifs,0⟩] scope pos) (aet (N.length-X.N.length) wi g tc te):=by intro G s σ H Q I h;rw[eval_ListComp];refine wpAny_comprehension_free (use:=none) rfl hs (B.clos I.ok) B.kind B.locs (Bf (hi G s σ H _ I h) λv s1 h1=>Bf h1 λqk s2 h2=>?_);obtain⟨it,Z,tn,J,H2,rfl,L,T,qq,f2,q2⟩:=h2;obtain⟨W,⟨m0,w0⟩,U⟩:=q2 s2.heap.objs.size (L.Ad.fresh (cg _));refine Xn (RR:=λacc C=>compPost (model X.prog X.w) X.A X.xe none (EP X G σ Q) acc C) B Iv L f2 T qq (λC s H=>hg C Z s H) (λC s H=>hc C Z s H) (λC s H=>he C Z s H) W w0 U ?_;intro qv H3 s3 I3 q3;obtain⟨J3,m,hn⟩:=aad L f2 I3;exact⟨m,hn,λh' Lw=>⟨.ref s2.heap.objs.size,H3,al7 L J3 I3.free Lw,rfl,q3⟩⟩
set_option tactic.hygienic true in
def ajh(B:G7 X N scope)(Iv:X.calm=true)(hi:PI X tg iter wi)(hg:∀C G s H,PG (Lz X N scope C G s H) tg g)(hc:∀C G s H,PTs (Lz X N scope C G s H) ifs tc)(he:∀C G s H,PE (Lz X N scope C G s H) elt te)(hs:∀x,foldedSetIterable iter X.env x=pure x)(hN:X.N.Nodup)(hy:X.N[i]?=some y)(hl:X.env.scope.names.lookup y=some .local)(qk:swapsWith (.ListComp elt [⟨tg,iter,ifs,0⟩] scope pos) (some (.Name y py)) aqp.line X.env=pure true) :
 PS X (.Assign [.Name y py] (.ListComp elt [⟨tg,iter,ifs,0⟩] scope pos) aqp) (a3h (aet (N.length-X.N.length) wi g tc te) (ai8 i)):=by
 intro Z s σ H D I h;rw[exec_Assign_Name_used _ _ _ _ qk];refine aa (wpAny_standAt (aa ?_));show wpAny _ _ (do let _<-comprehension (.ListComp elt [⟨tg,iter,ifs,0⟩] scope pos) scope X.env _ (newList []) false (eval iter X.env) (some (assign (.Name y py) X.env))) _ _ s;refine aa (iz (wpAny_comprehension_free (use:=some (assign (.Name y py) X.env)) (Q:=λ_ u=>SP X Z D .next u) rfl hs (B.clos I.ok) B.kind B.locs
  (Bf (hi Z s σ H _ I h) λv s1 h1=>Bf h1 λq5 Y h2=>?_)) (λ_ u hq=>aj (aj hq)) λ_ _ e=>e)
 obtain⟨it,G,tn,J,H2,rfl,U,T,q0,f2,q2⟩:=h2;obtain⟨W,⟨m0,w0⟩,R⟩:=q2 Y.heap.objs.size (U.Ad.fresh (cg _));refine Xn (RR:=λacc C=>compPost (model X.prog X.w) X.A X.xe (some (assign (.Name y py) X.env)) (λ_ u=>SP X Z D .next u) acc C) (Q:=λx H1=>ai8 i x σ H1 D.nx) B Iv U f2 T q0 (λC s H=>hg C G s H) (λC s H=>hc C G s H) (λC s H=>he C G s H) W w0 R ?_;intro q6 H3 s3 I3 q3;obtain⟨J3,m,hn⟩:=aad U f2 I3;have q1:=I3.free;obtain⟨oC,_,_,L,qq,_⟩:=id hn;have big:∀b o,Y.heap.get? b=some o->b≠Y.heap.objs.size+1:=λb o e z=>by have:=aq e;rw[z]at this;exact absurd this (Nat.not_lt.mpr (ur _))
 have S:Y.heap.objs.size+1≠X.env.locals:=λe=>by obtain⟨m,⟨o,_,_,ho,_⟩,_⟩:=U.loc;exact big _ o ho e.symm
 have J4:Inv X (Z++[(Y.heap.objs.size+1,oC)]) σ H3 s3:=J3.Ha λp hp=>by
  rcases du.mp hp with q|q
  .exact J3.pin p (fc _ q)
  .have e:p=(Y.heap.objs.size+1,oC):=by simpa using q
   subst e;refine⟨L,q1,S,λhb=>?_,λv z=>by rw[qq]at z;cases z⟩;exact U.apt (ur _) hb
 show wpAny (model X.prog X.w) X.A (assign (.Name y py) X.env (.ref Y.heap.objs.size)) _ _ s3;refine Bf (abw (pos:=py) hN hy (.inl hl) (.inr hl) (Z++[(Y.heap.objs.size+1,oC)]) s3 σ H3 (.ref Y.heap.objs.size) (.ref Y.heap.objs.size) D.nx J4 rfl q3) λ_ s4 z_=>?_
 obtain⟨qv,H4,I4,q4⟩:=z_;have pC:=I4.pin (Y.heap.objs.size+1,oC) (fc _ (fc _ (by simp)));refine⟨m,hn.at' λo e=>by rw[L]at e;cases e;exact pC.1,λh' Lw=>⟨qv,H4,?_,q4⟩⟩;refine(I4.Od).turned (t':=s4.toks) (λb o hb e=>Lw.extBut b o hb e) pC.2.1 S (.inr (gb U.sz (ur _))) ?_ ?_
 .intro x c hc
  obtain⟨v,o,ho,_⟩:=U.cell x c hc;exact big c o ho
 .intro p hp
  exact big p.1 p.2 (U.pin p hp).1
end L2
namespace Sm
open PySem L2
open MW (Ex Cv OEx Ka Bx m5 Lv Tg Res di MO G9 Cp Op2 Blt Bm Kx)
abbrev Dv:=MW.D
abbrev En:=MW.Env
structure Io where
 l:List Addr
 δ:List Addr
noncomputable def Io.add(Z:Io)(p:Addr):Io:=⟨Z.l++[p],Z.δ⟩
noncomputable def Io.hide(Z:Io)(p:Addr):Io:=⟨Z.l,p::Z.δ⟩
def Io.off(Z:Io)(a:Addr):Prop:=a∉Z.l/\a∉Z.δ
def ab3(K:Fg)(H:Hp)(a:Addr)(G:List V):Prop:=
 (∃o,H a=some (.Ox o (.lst G))) \/
  ∃(o:Obj)(Z:Q1)(n:Nat),K.lookup a=some o/\o.cls=.type "list"/\o.dict=none/\o.data=.seq Z n/\Z.size<=sizeLine/\Vals G Z.toList
def ab3.sq(h:ab3 K H a vs):Ie K H a vs:=by
 rcases h with⟨o,h⟩|h
 .exact .inl (.inr ⟨o,h⟩)
 .exact .inr h
mutual
inductive Rep(K:Fg)(ι:Io)(H:Hp):Dv->V->Prop
 |non:Rep K ι H .non .non
 |bl (b:Bool):Rep K ι H (.bl b) (.bl b)
 |int (i:Int):Rep K ι H (.int i) (.int i)
 |str (s:Str):Rep K ι H (.str s) (.str s)
 |tup {a:Addr} {ds:List Dv} {vs:List V} (e:H a=some (.tup vs)) (r:nq K ι H ds vs):Rep K ι H (.tup ds) (.ref a)
 |vl {a:Addr} {ds:List Dv} {vs:List V} (e:H a=some (.lst vs)) (n:ι.off a) (r:nq K ι H ds vs):Rep K ι H (.vl ds) (.ref a)
 |fz {a:Addr} {ds:List Dv} {vs:List V} (e:ab3 K H a vs) (r:nq K ι H ds vs):Rep K ι H (.fz ds) (.ref a)
 |ref {n:Nat} {a:Addr} (e:ι.l[n]?=some a):Rep K ι H (.ref n) (.ref a)
inductive nq(K:Fg)(ι:Io)(H:Hp):List Dv->List V->Prop
 |nil:nq K ι H [] []
 |cons {d:Dv} {v:V} {ds:List Dv} {vs:List V} (h:Rep K ι H d v) (t:nq K ι H ds vs):nq K ι H (d::ds) (v::vs)
end
structure Le(ι:Io)(H:Hp)(ι':Io)(H':Hp):Prop where
 ext:∃Y,ι'.l=ι.l++Y/\∀a∈Y,H a=none
 del:ι'.δ=ι.δ
 tup:∀a vs,H a=some (.tup vs)->H' a=some (.tup vs)
 Ox:∀a o u,H a=some (.Ox o u)->H' a=some (.Ox o u)
 lst:∀a vs,a∉ι.l->H a=some (.lst vs)->H' a=some (.lst vs)
 dom:∀a,H' a=none->H a=none
def Le.refl(Z:Io)(H:Hp):Le Z H Z H:=⟨⟨[],by simp,by simp⟩,rfl,λ_ _ h=>h,λ_ _ _ h=>h,λ_ _ _ h=>h,λ_ h=>h⟩
def Hd{H H':Hp}(U:∀a u,H a=some u->∃G,H' a=some G)(h:H' a=none):H a=none:=by
 cases e:H a with
 |none=>rfl|some u=>obtain⟨G,Z⟩:=U a u e;rw[h]at Z;cases Z
def Le.get(l:Le G H Z U){n:Nat}(h:G.l[n]?=some a):Z.l[n]?=some a:=by obtain⟨Y,e,_⟩:=l.ext;rw[e,jx (ak.mp h).1];exact h
def Le.a4f(l:Le L H Z H')(h:a∉L.l)(G:H a=some o):a∉Z.l:=by
 obtain⟨Y,e,U⟩:=l.ext;rw[e];intro m;rcases du.mp m with q|q
 .exact h q
 .rw[U a q]at G;cases G
def Le.out(l:Le G H Z L)(h:G.off a)(U:H a=some o):Z.off a:=⟨l.a4f h.1 U,by rw[l.del];exact h.2⟩
theorem Le.trans(a:Le ι H U H1)(b:Le U H1 L H2):Le ι H L H2:=by
 obtain⟨Y,e1,h1⟩:=a.ext;obtain⟨Z,e2,h2⟩:=b.ext;refine⟨⟨Y++Z,by rw[e2,e1,Ah],λx m=>?_⟩,b.del.trans a.del,λx G h=>b.tup x G (a.tup x G h),λx o u h=>b.Ox x o u (a.Ox x o u h),λx G n h=>b.lst x G (a.a4f n h) (a.lst x G n h),λx h=>a.dom x (b.dom x h)⟩;rcases du.mp m with q|q
 .exact h1 x q
 .exact a.dom x (h2 x q)
structure LeX(ι:Io)(H:Hp)(ι':Io)(H':Hp):Prop where
 ext:∃Y,ι'.l=ι.l++Y/\∀a∈Y,H a=none
 del:∀a∈ι'.δ,a∈ι.δ\/H a=none
 tup:∀a vs,H a=some (.tup vs)->H' a=some (.tup vs)
 Ox:∀a o u,H a=some (.Ox o u)->H' a=some (.Ox o u)
 lst:∀a vs,a∉ι.l->H a=some (.lst vs)->H' a=some (.lst vs)
def Le.toX(l:Le G H Z H'):LeX G H Z H':=⟨l.ext,λa h=>.inl (by rw[<-l.del];exact h),l.tup,l.Ox,l.lst⟩
def LeX.get(l:LeX G H Z U){n:Nat}(h:G.l[n]?=some a):Z.l[n]?=some a:=by obtain⟨Y,e,_⟩:=l.ext;rw[e,jx (ak.mp h).1];exact h
def LeX.out(l:LeX L H G H')(h:L.off a)(Z:H a=some o):G.off a:=by
 obtain⟨Y,e,U⟩:=l.ext;refine⟨λm=>?_,λm=>?_⟩
 .rw[e]at m
  rcases du.mp m with q|q
  .exact h.1 q
  .rw[U a q]at Z;cases Z
 .rcases l.del a m with q|q
  .exact h.2 q
  .rw[q]at Z;cases Z
structure Tr(K:Fg)(ι:Io)(H:Hp)(ι':Io)(H':Hp):Prop where
 tup:∀a vs,H a=some (.tup vs)->H' a=some (.tup vs)
 vl:∀a vs,H a=some (.lst vs)->ι.off a->H' a=some (.lst vs)/\ι'.off a
 fz:∀a vs,ab3 K H a vs->ab3 K H' a vs
 rf:∀(n:Nat) a,ι.l[n]?=some a->ι'.l[n]?=some a
mutual
theorem Rep.tr{K:Fg}{U Z:Io}{H G:Hp}(l:Tr K U H Z G):∀{d:Dv}{v:V},Rep K U H d v->Rep K Z G d v
 |_,_,.non=>.non|_,_,.bl b=>.bl b|_,_,.int i=>.int i|_,_,.str s=>.str s|_,_,.tup e r=>.tup (l.tup _ _ e) (nq.tr l r)|_,_,.vl e n r=>.vl (l.vl _ _ e n).1 (l.vl _ _ e n).2 (nq.tr l r)|_,_,.fz e r=>.fz (l.fz _ _ e) (nq.tr l r)|_,_,.ref e=>.ref (l.rf _ _ e)
theorem nq.tr{K:Fg}{ι Z:Io}{H L:Hp}(l:Tr K ι H Z L):∀{U:List Dv}{G:List V},nq K ι H U G->nq K Z L U G
 |_,_,.nil=>.nil|_,_,.cons h t=>.cons (Rep.tr l h) (nq.tr l t)
end
def LeX.tr(l:LeX U H Z H'):Tr K U H Z H':=⟨l.tup,λa G e n=>⟨l.lst _ _ n.1 e,l.out n e⟩,λa G e=>by
 rcases e with⟨o,e⟩|e
 .exact .inl ⟨o,l.Ox _ _ _ e⟩
 .exact .inr e,λ_ _ e=>l.get e⟩
def Rep.Iw(l:LeX U H Z G)(r:Rep K U H d v):Rep K Z G d v:=r.tr l.tr
def nq.Iw(l:LeX U H Z G)(r:nq K U H ds vs):nq K Z G ds vs:=r.tr l.tr
def Rep.mono(l:Le U H Z G)(r:Rep K U H d v):Rep K Z G d v:=r.Iw l.toX
def nq.mono(l:Le U H Z G)(r:nq K U H ds vs):nq K Z G ds vs:=r.Iw l.toX
theorem nq.length{K:Fg}{U:Io}{H:Hp}:∀{G:List Dv}{Z:List V},nq K U H G Z->G.length=Z.length:=by intro A B h;induction A generalizing B with|nil=>cases h;rfl|cons d A ih=>cases h with|cons _ t=>rw[gq,gq,ih t]
theorem nq.get{K:Fg}{U:Io}{H:Hp}:∀{G:List Dv}{Z:List V}{i:Nat}{d:Dv},nq K U H G Z->G[i]?=some d->∃v,Z[i]?=some v/\Rep K U H d v
 |_,_,_,_,.nil,e=>by simp at e|_,_,0,_,.cons h _,e=>by simp at e;subst e;exact⟨_,rfl,h⟩
 |_,_,i+1,d,.cons _ t,e=>by
  obtain⟨v,L,h2⟩:=nq.get (i:=i) t (by simpa using e);exact⟨v,by simpa using L,h2⟩
theorem nq.set{K:Fg}{Z:Io}{H:Hp}{d:Dv}{v:V}(r:Rep K Z H d v):∀{U:List Dv}{G:List V}(i:Nat),nq K Z H U G->nq K Z H (U.set i d) (G.set i v)
 |_,_,_,.nil=>.nil|_,_,0,.cons _ t=>.cons r t|_,_,i+1,.cons h t=>.cons h (nq.set r i t)
theorem nq.append{K:Fg}{Z:Io}{H:Hp}:∀{U L:List Dv}{G us:List V},nq K Z H U G->nq K Z H L us->nq K Z H (U++L) (G++us):=by intro A _ B _ h r;induction A generalizing B with|nil=>cases h;exact r|cons d A ih=>cases h with|cons h t=>exact .cons h (ih t)
theorem nq.drop{K:Fg}{G:Io}{H:Hp}:∀{U:List Dv}{Z:List V}(n:Nat),nq K G H U Z->nq K G H (U.drop n) (Z.drop n)
 |_,_,0,r=>r|_,_,_+1,.nil=>.nil|_,_,n+1,.cons _ t=>nq.drop n t
theorem nq.take{K:Fg}{G:Io}{H:Hp}:∀{U:List Dv}{Z:List V}(n:Nat),nq K G H U Z->nq K G H (U.take n) (Z.take n)
 |_,_,0,_=>.nil|_,_,_+1,.nil=>.nil|_,_,n+1,.cons h t=>.cons h (nq.take n t)
theorem nq.eraseIdx{K:Fg}{G:Io}{H:Hp}:∀{U:List Dv}{Z:List V}(n:Nat),nq K G H U Z->nq K G H (U.eraseIdx n) (Z.eraseIdx n)
 |_,_,_,.nil=>.nil|_,_,0,.cons _ t=>t|_,_,n+1,.cons h t=>.cons h (nq.eraseIdx n t)
theorem nq.ints{K:Fg}{G:Io}{H:Hp}:∀(Z:U1),nq K G H (Z.map MW.D.int) (Z.map V.int)
 |[]=>.nil|n::r=>.cons (.int n) (nq.ints r)
structure Nm where
 cls:Nat->Option Addr
 fld:Nat->Str
 inj:∀i j,fld i=fld j->i=j
inductive t8{κ κ':Type}(K:Fg)(ι:Io)(H:Hp)(f:κ->κ'->Prop):List (κ×Dv)->List (κ'×V)->Prop
 |nil:t8 K ι H f [] []
 |cons {k:κ} {k':κ'} {d:Dv} {v:V} {l:List (κ×Dv)} {l':List (κ'×V)} (hk:f k k') (h:Rep K ι H d v) (t:t8 K ι H f l l'):t8 K ι H f ((k,d)::l) ((k',v)::l')
theorem t8.tr{U Z:Type}{f:U->Z->Prop}(t:Tr K ι H G L){l:List (U×Dv)}{l':List (Z×V)}(h:t8 K ι H f l l'):t8 K G L f l l':=by
 induction h with
 |nil=>exact .nil|cons k h _ ih=>exact .cons k (h.tr t) ih
def t8.mono(le:Le U H Z G)(h:t8 K U H f l l'):t8 K Z G f l l':=h.tr le.toX.tr
def DN(a:Addr)(Z:List (List (List Int)×Addr))(h:Heap):Prop:=
 (a==sysModules)=false/\Z.length<=sizeLine/\∃o G U,h.get? a=some o/\o.ExactDict/\o.data=.dict G U/\G.toList=Z.map (λx=>(⟨So.hN x.1,.ref x.2,.bool true⟩:DictEntry))/\(Z.map (·.1)).Nodup
def DN.stay(p:DN a Z G)(k:∀o,G.get? a=some o->h2.get? a=some o):DN a Z h2:=by obtain⟨z,l,o,L,U,e,r⟩:=p;exact⟨z,l,o,L,U,k o e,r⟩
def DN.ok{P:Program}{w:World}{H:Hp}(p:DN a Z h):zj P w H h a (.ext (DN a Z)):=
 ⟨p,by obtain⟨_,_,o,_,_,e,_⟩:=p;exact⟨o,e⟩,λ_ _ q k=>DN.stay q k⟩
def Gy(nm:Nm)(K:Fg)(Z:Io)(H:Hp)(o:MO)(a:Addr):Prop:=
 match o with
 |.lst ds=>∃L,H a=some (.lst L)/\nq K Z H ds L|.dT kvs=>∃l,H a=some (.dT l)/\t8 K Z H (λk G=>k=G) kvs l
 |.dN ks=>∃U,H a=some (.ext (DN a U))/\ks=U.map (·.1)/\∀x∈U,Rep K Z H (MW.tN x.1) (.ref x.2)|.ins c fs=>∃C dx l,nm.cls c=some C/\H a=some (.ins C dx l)/\t8 K Z H (λk G=>G=nm.fld k) fs l
structure j9(nm:Nm)(K:Fg)(ι:Io)(H:Hp)(M:di):Prop where
 len:ι.l.length=M.length
 nd:ι.l.Nodup
 del:∀a∈ι.δ,a∉ι.l/\∃vs,H a=some (.lst vs)
 obj:∀(n:Nat)(o:MO)(a:Addr),M[n]?=some o->ι.l[n]?=some a->Gy nm K ι H o a
theorem Gy.some(h:Gy nm K ι H o a):∃u,H a=some u/\Mut (H a):=by
 cases o with
 |lst U=>obtain⟨Z,e,_⟩:=h;exact⟨_,e,by rw[e];trivial⟩
 |dT G=>obtain⟨Z,e,_⟩:=h;exact⟨_,e,by rw[e];trivial⟩
 |dN ks=>obtain⟨xs,e,_⟩:=h;exact⟨_,e,by rw[e];trivial⟩
 |ins c fs=>obtain⟨C,L,l,_,e,_⟩:=h;exact⟨_,e,by rw[e];trivial⟩
def j9.addr(S:j9 nm K Z H M){n:Nat}(h:M[n]?=some o):∃a,Z.l[n]?=some a/\Gy nm K Z H o a:=by
 have G:n < Z.l.length:=by rw[S.len];exact MW.ye h
 exact⟨Z.l[n],by simp[G],S.obj n o _ h (by simp[G])⟩
def j9.mem(S:j9 nm K Z H M)(h:a∈Z.l):∃u,H a=some u/\Mut (H a):=by
 obtain⟨n,G,rfl⟩:=pq h;have U:n<M.length:=by rw[<-S.len];exact G
 exact(S.obj n M[n] Z.l[n] (by simp[U]) (by simp[G])).some
def j9.fresh(S:j9 nm K Z H M)(h:H a=none):Z.off a:=by
 refine⟨λm=>?_,λm=>?_⟩
 .obtain⟨u,e,_⟩:=S.mem m
  rw[h]at e;cases e
 .obtain⟨_,G,e⟩:=S.del a m
  rw[h]at e;cases e
theorem Gy.tr(h:Gy nm K ι H o a)(t:Tr K ι H G U)(e:U a=H a):Gy nm K G U o a:=by
 cases o with
 |lst ds=>obtain⟨Z,q,r⟩:=h;exact⟨Z,e.trans q,r.tr t⟩
 |dT L=>obtain⟨Z,q,r⟩:=h;exact⟨Z,e.trans q,r.tr t⟩
 |dN ks=>obtain⟨xs,q,z,r⟩:=h;exact⟨xs,e.trans q,z,λx hx=>(r x hx).tr t⟩
 |ins c fs=>obtain⟨C,dx,l,hc,q,r⟩:=h;exact⟨C,dx,l,hc,e.trans q,r.tr t⟩
def Gy.move(h:Gy nm K U H o a)(le:Le U H Z G)(e:G a=H a):Gy nm K Z G o a:=h.tr le.toX.tr e
def j9.laid(S:j9 nm K G H M)(h:H p=none)(o:HO):j9 nm K G (upd H p o) M/\Le G H G (upd H p o):=by
 have Z:∀a u,H a=some u->a≠p:=λa u e=>mj e h
 have le:Le G H G (upd H p o):=⟨⟨[],by simp,by simp⟩,rfl,λa U e=>by rw[j0 (Z a _ e)];exact e,λa _ u e=>by rw[j0 (Z a _ e)];exact e,λa U _ e=>by rw[j0 (Z a _ e)];exact e,
  λa h'=>Hd (λb u e=>⟨u,by rw[j0 (Z b _ e)];exact e⟩) h'⟩
 refine⟨⟨S.len,S.nd,λa L=>?_,λn o' a hn L=>?_⟩,le⟩
 .obtain⟨h1,U,h2⟩:=S.del a L
  exact⟨h1,U,le.lst a U h1 h2⟩
 .have q:=S.obj n o' a hn L
  obtain⟨u,e,_⟩:=q.some;exact q.move le (by rw[j0 (Z a u e)])
def Jh{Z:Type}{l:List Z}{x y:Z}(h:(l++[x])[n]?=some y):(l[n]?=some y)\/(n=l.length/\y=x):=by
 rcases uq n l.length with q|q
 .rw[jx q]at h;exact .inl h
 .rw[o6 q]at h
  have:n-l.length=0:=by
   rcases Nat.eq_zero_or_pos (n-l.length)with z|z
   .exact z
   .rw[j5 (by simp;exact z)]at h;cases h
  rw[this]at h;simp at h;exact .inr ⟨by lia,h.symm⟩
def j9.new(S:j9 nm K Z H M)(h:H p=none)(G:∀a u,H a=some u->H' a=some u)(ho:Le Z H (Z.add p) H'->Gy nm K (Z.add p) H' o p):j9 nm K (Z.add p) H' (M++[o])/\Le Z H (Z.add p) H':=by
 have le:Le Z H (Z.add p) H':=⟨⟨[p],rfl,by simpa using h⟩,rfl,λa L e=>G _ _ e,λa _ u e=>G _ _ e,λa L _ e=>G _ _ e,λa h'=>Hd (H:=H) (H':=H') (λb u e=>⟨u,G b u e⟩) h'⟩;refine⟨⟨by simp[Io.add,S.len],?_,λa U=>?_,λn o' a hn U=>?_⟩,le⟩
 .exact xu.mpr ⟨S.nd,by simp,by
   intro x hx y hy;have:y=p:=by simpa using hy
   subst this;intro e;subst e;exact(S.fresh h).1 hx⟩
 .obtain⟨h1,L,h2⟩:=S.del a U
  exact⟨le.a4f h1 h2,L,G _ _ h2⟩
 .rcases Jh hn with q|⟨q,rfl⟩
  .rcases Jh U with r|⟨r,_⟩
   .have z:=S.obj n o' a q r
    obtain⟨u,e,_⟩:=z.some;exact z.move le ((G a u e).trans e.symm)
   .exact absurd (MW.ye q) (by rw[r,S.len];exact qd _)
  .rcases Jh U with r|⟨_,rfl⟩
   .exact absurd (ak.mp r).1 (by rw[q,S.len];exact qd _)
   .exact ho le
def j9.put(S:j9 nm K G H M)(hn:M[n]?=some qq)(ha:G.l[n]?=some a)(ho:Le G H G (upd H a u)->Gy nm K G (upd H a u) o a):j9 nm K G (upd H a u) (M.set n o)/\Le G H G (upd H a u):=by
 obtain⟨qk,qv,Z⟩:=(S.obj n qq a hn ha).some;have hm:a∈G.l:=az ha;have le:Le G H G (upd H a u):=⟨⟨[],by simp,by simp⟩,rfl,λb vs e=>by rw[j0 (λz=>by subst z;rw[e]at Z;exact Z)];exact e,
  λb _ _ e=>by rw[j0 (λz=>by subst z;rw[e]at Z;exact Z)];exact e,λb vs nb e=>by rw[j0 (λz=>by subst z;exact nb hm)];exact e,λb h'=>Hd (λc w e=>by
   by_cases z:c=a
   .exact⟨u,by rw[z,wz]⟩
   .exact⟨w,by rw[j0 z];exact e⟩) h'⟩
 refine⟨⟨by rw[List.length_set];exact S.len,S.nd,λb L=>?_,λm o' b U L=>?_⟩,le⟩
 .obtain⟨h1,vs,h2⟩:=S.del b L
  exact⟨h1,vs,le.lst b vs h1 h2⟩
 by_cases q:m=n
 .subst q
  rw[MW.rm hn]at U;cases U;rw[ha]at L;cases L;exact ho le
 .rw[MW.yf (kj q)]at U
  have z:=S.obj m o' b U L;have nb:b≠a:=λe=>by subst e;obtain⟨l1,e1⟩:=ak.mp L;obtain⟨l2,e2⟩:=ak.mp ha;exact q ((yr S.nd).mp (e1.trans e2.symm))
  exact z.move le (by rw[j0 nb])
def awn(Z:H D=none):Tr K G H (G.hide D) (upd H D o):=
 have k:∀{a u},H a=some u->upd H D o a=some u:=λe=>by rw[j0 (mj e Z)];exact e
 ⟨λ_ _ e=>k e,λa U e n=>⟨k e,n.1,λm=>by
  rcases cj.mp m with q|q
  .exact mj e Z q
  .exact n.2 q⟩,λ_ _ e=>e.imp (λ⟨q,e⟩=>⟨q,k e⟩) id,λ_ _ e=>e⟩
def aji(Z:H D=some (.lst U))(L:D∈G.δ):Tr K G H G (upd H D (.lst ws)):=
 have k:∀{a u},a≠D->H a=some u->upd H D (.lst ws) a=some u:=λn e=>by rw[j0 n];exact e
 ⟨λ_ _ e=>k (apo e Z (by intro z;cases z)) e,λa U e n=>⟨k (λz=>by subst z;exact n.2 L) e,n⟩,λ_ _ e=>e.imp (λ⟨q,e⟩=>⟨q,k (apo e Z (by intro z;cases z)) e⟩) id,λ_ _ e=>e⟩
def Io.show(Z:Io)(H:Hp)(D:Addr):Tr K (Z.hide D) H Z H:=⟨λ_ _ e=>e,λ_ _ e n=>⟨e,n.1,λm=>n.2 (bx _ m)⟩,λ_ _ e=>e,λ_ _ e=>e⟩
theorem Rep.show(r:Rep K (Z.hide D) H d v):Rep K Z H d v:=r.tr (Z.show H D)
theorem nq.show(r:nq K (Z.hide D) H d v):nq K Z H d v:=r.tr (Z.show H D)
theorem j9.hide(S:j9 nm K ι H M)(Z:H D=none):j9 nm K (ι.hide D) (upd H D (.lst [])) M:=by
 refine⟨S.len,S.nd,λa G=>?_,λn o a hn G=>?_⟩
 .rcases cj.mp G with q|q
  .subst q;exact⟨(S.fresh Z).1,[],wz⟩
  .obtain⟨h1,L,U⟩:=S.del a q
   exact⟨h1,L,by rw[j0 (mj U Z)];exact U⟩
 .have z:=S.obj n o a hn G
  obtain⟨u,e,_⟩:=z.some;exact z.tr (awn Z) (by rw[j0 (mj e Z)])
def j9.grow(S:j9 nm K U H M)(hD:H D=some (.lst vs))(L:D∈U.δ):j9 nm K U (upd H D (.lst ws)) M:=by
 refine⟨S.len,S.nd,λa Z=>?_,λn o a hn Z=>?_⟩
 .obtain⟨G,us,h2⟩:=S.del a Z
  by_cases z:a=D
  .subst z;exact⟨G,ws,wz⟩
  .exact⟨G,us,by rw[j0 z];exact h2⟩
 .have z:=S.obj n o a hn Z
  have ne:a≠D:=λe=>by subst e;exact(S.del a L).1 (az Z)
  exact z.tr (aji hD L) (by rw[j0 ne])
theorem j9.show(S:j9 nm K (G.hide D) H M):j9 nm K G H M:=
 ⟨S.len,S.nd,λa Z=>S.del a (bx _ Z),λn o a U Z=>(S.obj n o a U Z).tr (G.show H D) rfl⟩
structure LeD(D:Addr)(ι:Io)(H:Hp)(ι':Io)(H':Hp):Prop where
 ext:∃Y,ι'.l=ι.l++Y/\∀a∈Y,H a=none
 del:ι'.δ=D::ι.δ
 tup:∀a vs,H a=some (.tup vs)->H' a=some (.tup vs)
 Ox:∀a o u,H a=some (.Ox o u)->H' a=some (.Ox o u)
 lst:∀a vs,a∉ι.l->H a=some (.lst vs)->H' a=some (.lst vs)
 dom:∀a,H' a=none->H a=none
def LeD.toX(l:LeD D U H Z H')(G:H D=none):LeX U H Z H':=⟨l.ext,λa h=>by
 rw[l.del]at h;rcases cj.mp h with q|q
 .exact .inr (by rw[q];exact G)
 .exact .inl q,l.tup,l.Ox,l.lst⟩
def LeD.start(Z:H D=none)(o:HO):LeD D U H (U.hide D) (upd H D o):=
 ⟨⟨[],by simp[Io.hide],by simp⟩,rfl,λa L e=>by rw[j0 (mj e Z)];exact e,λa _ _ e=>by rw[j0 (mj e Z)];exact e,λa L _ e=>by rw[j0 (mj e Z)];exact e,
  λa G=>Hd (λb u e=>⟨u,by rw[j0 (mj e Z)];exact e⟩) G⟩
def LeD.go(a:LeD D ι H U H1)(b:Le U H1 L H2):LeD D ι H L H2:=by
 obtain⟨Y,e1,h1⟩:=a.ext;obtain⟨Z,e2,h2⟩:=b.ext;have out:∀x o,x∉ι.l->H x=some o->x∉U.l:=λx o n h m=>by
  rw[e1]at m;rcases du.mp m with q|q
  .exact n q
  .rw[h1 x q]at h;cases h
 refine⟨⟨Y++Z,by rw[e2,e1,Ah],λx m=>?_⟩,b.del.trans a.del,λx G h=>b.tup x G (a.tup x G h),λx o u h=>b.Ox x o u (a.Ox x o u h),λx G n h=>b.lst x G (out x _ n h) (a.lst x G n h),λx h=>a.dom x (b.dom x h)⟩;rcases du.mp m with q|q
 .exact h1 x q
 .exact a.dom x (h2 x q)
def LeD.grow(a:LeD D ι H Z L)(U:H D=none)(hD:L D=some (.lst vs)):LeD D ι H Z (upd L D (.lst ws)):=
 ⟨a.ext,a.del,λx G h=>by rw[j0 (mj h U)];exact a.tup x G h,λx o u h=>by rw[j0 (mj h U)];exact a.Ox x o u h,λx G n h=>by rw[j0 (mj h U)];exact a.lst x G n h,
  λx h=>a.dom x (by
   by_cases z:x=D
   .rw[z,wz]at h;cases h
   .rw[j0 z]at h;exact h)⟩
def LeD.done(a:LeD D G H ⟨Z.l,D::Z.δ⟩ H1):Le G H Z H1:=
 ⟨a.ext,(List.cons.inj a.del).2,a.tup,a.Ox,a.lst,a.dom⟩
inductive u5(K:Fg)(ι:Io)(H:Hp):En->St->Prop
 |nil:u5 K ι H [] []
 |skp {y:Option V} {ρ:En} {σ:St} (t:u5 K ι H ρ σ):u5 K ι H (none::ρ) (y::σ)
 |has {d:Dv} {v:V} {ρ:En} {σ:St} (h:Rep K ι H d v) (t:u5 K ι H ρ σ):u5 K ι H (some d::ρ) (some v::σ)
theorem u5.Iw{K:Fg}{L Z:Io}{H U:Hp}(le:LeX L H Z U):∀{G:En}{σ:St},u5 K L H G σ->u5 K Z U G σ:=by intro _ _ h;induction h with|nil=>exact .nil|skp t ih=>exact .skp ih|has h t ih=>exact .has (h.Iw le) ih
theorem u5.mono{K:Fg}{L Z:Io}{H U:Hp}(le:Le L H Z U):∀{G:En}{σ:St},u5 K L H G σ->u5 K Z U G σ:=by intro _ _ h;induction h with|nil=>exact .nil|skp t ih=>exact .skp ih|has h t ih=>exact .has (h.mono le) ih
theorem u5.get{K:Fg}{L:Io}{H:Hp}:∀{U:En}{σ:St}{i:Nat}{d:Dv},u5 K L H U σ->U[i]?=some (some d)->∃v,σ[i]?=some (some v)/\Rep K L H d v
 |_,_,_,_,.nil,e=>by simp at e|_,_,0,_,.skp _,e=>by simp at e|_,_,0,_,.has h _,e=>by simp at e;subst e;exact⟨_,rfl,h⟩
 |_,_,i+1,d,.skp t,e=>by
  obtain⟨v,Z,G⟩:=u5.get (i:=i) t (by simpa using e);exact⟨v,by simpa using Z,G⟩
 |_,_,i+1,d,.has _ t,e=>by
  obtain⟨v,Z,G⟩:=u5.get (i:=i) t (by simpa using e);exact⟨v,by simpa using Z,G⟩
theorem u5.set{K:Fg}{Z:Io}{H:Hp}{d:Dv}{v:V}(r:Rep K Z H d v):∀{U:En}{G:St}(i:Nat),u5 K Z H U G->u5 K Z H (U.set i (some d)) (G.set i (some v))
 |_,_,_,.nil=>.nil|_,_,0,.skp t=>.has r t|_,_,0,.has _ t=>.has r t|_,_,i+1,.skp t=>.skp (u5.set r i t)|_,_,i+1,.has h t=>.has h (u5.set r i t)
theorem u5.length{K:Fg}{U:Io}{H:Hp}:∀{G:En}{Z:St},u5 K U H G Z->G.length=Z.length:=by intro _ _ h;induction h with|nil=>rfl|skp _ ih=>rw[gq,gq,ih]|has _ _ ih=>rw[gq,gq,ih]
theorem u5.append{K:Fg}{U:Io}{H:Hp}:∀{L Z:En}{σ G:St},u5 K U H L σ->u5 K U H Z G->u5 K U H (L++Z) (σ++G):=by intro _ _ _ _ h r;induction h with|nil=>exact r|skp t ih=>exact .skp ih|has h t ih=>exact .has h ih
theorem u5.aqq{K:Fg}{G:Io}{H:Hp}:∀(k:Nat){Z:St},Z.length=k->u5 K G H (List.replicate k none) Z
 |0,[],_=>.nil|k+1,_::r,h=>.skp (u5.aqq k (by simpa using h))
theorem u5.aqr{K:Fg}{G:Io}{H:Hp}:∀{U:List Dv}{Z:List V},nq K G H U Z->u5 K G H (U.map some) (Z.map some)
 |_,_,.nil=>.nil|_,_,.cons h t=>.has h (u5.aqr t)
def fj{r:Res α}(h:r.bind f=.ok b M):∃a Z,r=.ok a Z/\f a Z=.ok b M:=by
 cases r with
 |ok a Z=>exact⟨a,Z,rfl,h⟩|bad=>cases h
def xj(h:Res.uy o M=.ok a Z):o=some a/\Z=M:=by
 cases o with
 |none=>cases h|some x=>cases h;exact⟨rfl,rfl⟩
def PE.weak(h:PE X e t)(w:∀G H Q,t' G H Q->t G H Q):PE X e t':=λZ s G H Q I q=>h Z s G H Q I (w G H Q q)
def PT.weak(h:PT X e t)(w:∀G H Q,t' G H Q->t G H Q):PT X e t':=λZ s G H Q I q=>h Z s G H Q I (w G H Q q)
def PA.weak(h:PA X U t)(w:∀G H Q,t' G H Q->t G H Q):PA X U t':=λpos Z s G H Q I q=>h pos Z s G H Q I (w G H Q q)
def PS.weak(h:PS X e t)(w:∀D G H,t' D G H->t D G H):PS X e t':=λZ s G H D I q=>h Z s G H D I (w D G H q)
def R9.weak(h:R9 X e t)(w:∀D G H,t' D G H->t D G H):R9 X e t':=λZ s G H D I q=>h Z s G H D I (w D G H q)
def Cy.weak(h:Cy X f r)(w:∀x y H Q,r' x y H Q->r x y H Q):Cy X f r':=λZ s U H x y v u Q I L G q=>h Z s U H x y v u Q I L G (w x y H Q q)
section
variable(nm:Nm)(W:G9)(K:Fg)
def tE(e:Ex):TE:=fun σ H Q=>∃U ρ M d L,j9 nm K U H M/\u5 K U H ρ σ/\e.den W ρ M=.ok d L/\∀Z G v,Le U H Z G->j9 nm K Z G L->Rep K Z G d v->Q v G
def tQ(e:Ex):TT:=fun σ H Q=>∃U ρ M b L,j9 nm K U H M/\u5 K U H ρ σ/\e.den W ρ M=.ok (.bl b) L/\∀Z G,Le U H Z G->j9 nm K Z G L->Q b G
def Vu(es:Cv):TA:=fun σ H Q=>∃U ρ M ds M',j9 nm K U H M/\u5 K U H ρ σ/\es.den W ρ M=.ok ds M'/\∀Z G L,Le U H Z G->j9 nm K Z G M'->nq K Z G ds L->Q L G
def Xo(D:Ends)(ι:Io)(H:Hp)(fl:MW.Flow)(L:En)(M:di):Prop:=
 ∀Z U G,Le ι H Z U->j9 nm K Z U M->u5 K Z U L G ->
  match fl with
  |.next=>D.nx G U|.brk=>D.bk G U|.cont=>D.ct G U|.ret d=>∀v,Rep K Z U d v->D.rt v U
def tS(st:Bx):TS:=λD σ H=>∃G L M fl Z U,j9 nm K G H M/\u5 K G H L σ/\st.den W L M=.ok (fl,Z) U/\Xo nm K D G H fl Z U
def tSs(st:m5):TS:=λD σ H=>∃G L M fl Z U,j9 nm K G H M/\u5 K G H L σ/\st.den W L M=.ok (fl,Z) U/\Xo nm K D G H fl Z U
end
def PE.of(h:PE X a t)(w:∀σ H Q G L M d U,j9 nm X.K G H M->u5 X.K G H L σ->e'.den W L M=.ok d U->(∀Z H' v,Le G H Z H'->j9 nm X.K Z H' U->Rep X.K Z H' d v->Q v H')->t σ H Q):PE X a (tE nm W X.K e'):=PE.weak h fun σ H Q z_=>by obtain⟨G,L,M,d,U,S,R,e,q⟩:=z_;exact w σ H Q G L M d U S R e q
def PT.of(h:PT X a t)(w:∀σ H Q G L M b U,j9 nm X.K G H M->u5 X.K G H L σ->e'.den W L M=.ok (.bl b) U->(∀Z H',Le G H Z H'->j9 nm X.K Z H' U->Q b H')->t σ H Q):PT X a (tQ nm W X.K e'):=PT.weak h fun σ H Q z_=>by obtain⟨G,L,M,d,U,S,R,e,q⟩:=z_;exact w σ H Q G L M d U S R e q
def PA.of(h:PA X es t)(w:∀σ H Q G L M ds U,j9 nm X.K G H M->u5 X.K G H L σ->qq.den W L M=.ok ds U->(∀Z H' vs,Le G H Z H'->j9 nm X.K Z H' U->nq X.K Z H' ds vs->Q vs H')->t σ H Q):PA X es (Vu nm W X.K qq):=PA.weak h fun σ H Q z_=>by obtain⟨G,L,M,d,U,S,R,e,q⟩:=z_;exact w σ H Q G L M d U S R e q
def PS.of(h:PS X st t)(w:∀D σ H G L M fl Z U,j9 nm X.K G H M->u5 X.K G H L σ->s'.den W L M=.ok (fl,Z) U->Xo nm X.K D G H fl Z U->t D σ H):PS X st (tS nm W X.K s'):=PS.weak h λD σ H z_=>by obtain⟨G,L,M,fl,Z,U,S,R,e,q⟩:=z_;exact w D σ H G L M fl Z U S R e q
def R9.of(h:R9 X st t)(w:∀D σ H G L M fl Z U,j9 nm X.K G H M->u5 X.K G H L σ->s'.den W L M=.ok (fl,Z) U->Xo nm X.K D G H fl Z U->t D σ H):R9 X st (tSs nm W X.K s'):=R9.weak h λD σ H z_=>by obtain⟨G,L,M,fl,Z,U,S,R,e,q⟩:=z_;exact w D σ H G L M fl Z U S R e q
def one{X:Cx}{L:di}(S:j9 nm X.K ι H M)(R:u5 X.K ι H ρ σ)(ha:a'.den W ρ M=.ok x L)(h:∀Z U v,Le ι H Z U->j9 nm X.K Z U L->u5 X.K Z U ρ σ->Rep X.K Z U x v->G v U):tE nm W X.K a' σ H G:=
 ⟨ι,ρ,M,x,L,S,R,ha,λqq H' v le S' r=>h qq H' v le S' (R.mono le) r⟩
theorem two{X:Cx}{L M2:di}{G:V->V->Hp->Prop}(S:j9 nm X.K ι H M)(R:u5 X.K ι H U σ)(ha:a'.den W U M=.ok x L)(hb:b'.den W U L=.ok y M2)(h:∀Z H2 v u,Le ι H Z H2->j9 nm X.K Z H2 M2->u5 X.K Z H2 U σ->Rep X.K Z H2 x v->Rep X.K Z H2 y u->G v u H2) :
 tE nm W X.K a' σ H λv H1=>tE nm W X.K b' σ H1 λu H2=>G v u H2:=
 one S R ha λqq H1 v Vv S1 R1 r1=>one S1 R1 hb λZ H2 u zb S2 R2 r2=>h Z H2 v u (Vv.trans zb) S2 R2 (r1.mono zb) r2
set_option tactic.hygienic true in
def ba1(hN:X.N[i]?=some n)(G:Vis X.env.scope n)(Y:(n==("__debug__": Str))=false)(Z:(n==("__classdict__": Str))=false):PE X (.Name n pos) (tE nm W X.K (.var i)):=
 PE.of (a2s hN G Y Z) fun σ H Q U u M d y S R e q=>by
  rw[MW.aid]at e;split at e
  .rename_i L Y
   cases e;obtain⟨v,J,C⟩:=R.get Y;exact⟨v,J,q U H v (Le.refl _ _) S C⟩
  .cases e
def ba2:PE X (.Constant (.int i) j pos) (tE nm W X.K (.cst (.int i))):=
 PE.of a2t λU H Q Z L M d G S R e q=>by rw[MW.aa3]at e;cases e;exact q Z H _ (Le.refl _ _) S (.int i)
def bg7:PE X (.Constant (.bool i) j pos) (tE nm W X.K (.cst (.bl i))):=
 PE.of azs λU H Q Z L M d G S R e q=>by rw[MW.aa3]at e;cases e;exact q Z H _ (Le.refl _ _) S (.bl i)
def a4g(Z:Gl X n)(U:X.mg n=some (.int i t))(L:(n==("__debug__": Str))=false):PE X (.Name n pos) (tE nm W X.K (.cst (.int i))):=
 PE.of (avu (v:=.int i) Z U ⟨t,rfl⟩ L) fun σ H Q G ρ M d M' S R e q=>by rw[MW.aa3]at e;cases e;exact q G H _ (Le.refl _ _) S (.int i)
def rOp(nm:Nm)(K:Fg)(f:Dv->Dv->di->Res Dv):R2:=λv u H Q=>∃U M x y d L,j9 nm K U H M/\Rep K U H x v/\Rep K U H y u/\f x y M=.ok d L /\
 ∀Z G w,Le U H Z G->j9 nm K Z G L->Rep K Z G d w->Q w G
def Cy.of(h:Cy X f r)(w:∀v u H Q G M x y d U,j9 nm X.K G H M->Rep X.K G H x v->Rep X.K G H y u->g x y M=.ok d U->(∀Z L w,Le G H Z L->j9 nm X.K Z L U->Rep X.K Z L d w->Q w L)->r v u H Q):Cy X f (rOp nm X.K g):=
 Cy.weak h λv u H Q z_=>by obtain⟨G,M,x,y,d,U,S,rv,ru,e,q⟩:=z_;exact w v u H Q G M x y d U S rv ru e q
def ba3(ho:Cy X (binaryOp op) (rOp nm X.K (MW.Eg Z)))(ha:PE X a (tE nm W X.K a'))(hb:PE X b (tE nm W X.K b')):PE X (.BinOp a op b pos) (tE nm W X.K (.bin Z a' b')):=
 PE.of (a92 ho ha hb) fun σ H Q ι ρ M d L S R e q=>by rw[MW.auz]at e;obtain⟨x,M1,e1,e⟩:=fj e;obtain⟨y,M2,e2,e⟩:=fj e;exact two S R e1 e2 λG H2 v u le S2 _ rv ru=>⟨G,M2,x,y,d,L,S2,rv,ru,e,λU H' w V7 S' r=>q U H' w (le.trans V7) S' r⟩
def ba4:Cy X (binaryOp .Sub) (rOp nm X.K (MW.Eg .sub)):=
 Cy.of a3o λv u H Q L M x y d M' S G Z e q=>by obtain⟨i,j,rfl,rfl,U⟩:=MW.agu e (by intro z;cases z);cases G;cases Z;cases U;exact⟨_,_,rfl,rfl,q L H _ (Le.refl _ _) S (.int _)⟩
def awp{g:Int->Int->Int}{P:Int->Int->Prop}[∀i j,Decidable (P i j)](h:Cy X (binaryOp op) r)(hb:∀x y M,MW.Eg U x y M=MW.ii x y (λi j=>if P i j then .ok (.int (g i j)) M else .bad) .bad)(w:∀i j H Q,P i j->Q (.int (g i j)) H->r (.int i) (.int j) H Q):Cy X (binaryOp op) (rOp nm X.K (MW.Eg U)):=
 Cy.of h λv u H Q ι M x y d M' S rv L e q=>by
  rw[hb]at e;obtain⟨i,j,rfl,rfl,Z⟩:=MW.agu e (by intro z;cases z)
  by_cases G:P i j
  .rw[bz G]at Z
   cases rv;cases L;cases Z;exact w i j H Q G (q ι H _ (Le.refl _ _) S (.int _))
  .rw[bc G]at Z;cases Z
def ba5:Cy X (binaryOp .Mod) (rOp nm X.K (MW.Eg .mod)):=awp a3q (λ_ _ _=>rfl) λi j H Q h q=>⟨_,_,rfl,rfl,h,q⟩
def a4h:Cy X (binaryOp .FloorDiv) (rOp nm X.K (MW.Eg .fdiv)):=awp av1 (λ_ _ _=>rfl) λi j H Q h q=>⟨_,_,rfl,rfl,h,q⟩
def ba6:Cy X (binaryOp .Pow) (rOp nm X.K (MW.Eg .pow)):=awp a3r (λ_ _ _=>rfl) λi j H Q h q=>⟨_,_,rfl,rfl,⟨h.1,by omega,h.2.2⟩,q⟩
set_option tactic.hygienic true in
def qm{X:Cx}(S:j9 nm X.K Z H M)(r:Rep X.K Z H d v)(h:MW.gn M d=some ds):∃p vs,v=.ref p/\H p=some (.lst vs)/\nq X.K Z H ds vs:=by
 cases r with
 |vl e n r=>simp[MW.gn]at h;subst h;exact⟨_,_,rfl,e,r⟩
 |ref e =>
  rename_i n p;simp only[MW.gn]at h;split at h<;>simp at h;rename_i U Y;subst h;obtain⟨vs,G,J⟩:=S.obj n _ p Y e;exact⟨p,vs,rfl,G,J⟩
 |_=>simp[MW.gn]at h
def Oz{X:Cx}(S:j9 nm X.K L H M)(r:Rep X.K L H d v)(h:MW.Bk M d=some ds):∃p vs,v=.ref p/\(H p=some (.lst vs)\/H p=some (.tup vs))/\nq X.K L H ds vs:=by
 cases r with
 |tup e r=>simp[MW.Bk]at h;subst h;exact⟨_,_,rfl,.inr e,r⟩
 |vl e n r =>
  obtain⟨p,vs,G,Z,U⟩:=qm S (.vl e n r) (show MW.gn M _=_ from h);exact⟨p,vs,G,.inl Z,U⟩
 |ref e =>
  obtain⟨p,vs,G,Z,U⟩:=qm S (.ref e) (show MW.gn M _=_ from h);exact⟨p,vs,G,.inl Z,U⟩
 |_=>simp[MW.Bk,MW.gn]at h
def Qs{X:Cx}(S:j9 nm X.K Z H M)(U:H p=none)(r:nq X.K Z H ds G):j9 nm X.K Z (upd H p (.lst G)) M/\Le Z H Z (upd H p (.lst G))/\Rep X.K Z (upd H p (.lst G)) (.vl ds) (.ref p):=by obtain⟨L,le⟩:=S.laid U (.lst G);exact⟨L,le,.vl wz (S.fresh U) (r.mono le)⟩
def O1{X:Cx}(S:j9 nm X.K Z H M)(U:H p=none)(r:nq X.K Z H ds G):j9 nm X.K Z (upd H p (.tup G)) M/\Le Z H Z (upd H p (.tup G))/\Rep X.K Z (upd H p (.tup G)) (.tup ds) (.ref p):=by obtain⟨L,le⟩:=S.laid U (.tup G);exact⟨L,le,.tup wz (r.mono le)⟩
def ajj{X:Cx}(S:j9 nm X.K Z H M)(U:H p=none)(r:nq X.K Z H ds G):j9 nm X.K (Z.add p) (upd H p (.lst G)) (M++[.lst ds])/\Le Z H (Z.add p) (upd H p (.lst G))/\Rep X.K (Z.add p) (upd H p (.lst G)) (.ref M.length) (.ref p):=by
 obtain⟨L,le⟩:=S.new (H':=upd H p (.lst G)) (o:=.lst ds) U (λa u e=>by rw[j0 (mj e U)];exact e) λle=>⟨G,wz,r.mono le⟩
 exact⟨L,le,.ref (by show(Z.l++[p])[M.length]?=some p;rw[<-S.len];simp)⟩
def Oh:(100000:Nat)<=sizeLine:=by decide
set_option tactic.hygienic true in
def awq(h:MW.Eg .add x y M=.ok d M'):(∃i j,x=.int i/\y=.int j/\d=.int (i+j)/\M'=M) \/
 (∃Z Y,x=.tup Z/\y=.tup Y/\Z.length+Y.length<=100000/\d=.tup (Z++Y)/\M'=M) \/
 ∃Z Y,MW.gn M x=some Z/\MW.gn M y=some Y/\Z.length+Y.length<=100000/\d=.vl (Z++Y)/\M'=M:=by
 have h:MW.aob x y M=.ok d M':=h;unfold MW.aob at h;split at h<;>try cases h
 .exact .inl ⟨_,_,rfl,rfl,rfl,rfl⟩
 .split at h<;>cases h
  rename_i U;exact .inr (.inl ⟨_,_,rfl,rfl,U,rfl,rfl⟩)
 .split at h
  .split at h<;>cases h
   rename_i J C G;exact .inr (.inr ⟨_,_,J,C,G,rfl,rfl⟩)
  .cases h
def ba7:Cy X (binaryOp .Mult) (rOp nm X.K (MW.Eg .mul)):=awp a3p (λ_ _ _=>rfl) λi j H Q h q=>⟨_,_,rfl,rfl,h,q⟩
def ba8:Cy X (binaryOp .Add) (rOp nm X.K (MW.Eg .add)):=
 Cy.of (a3n.or (aql.or awg)) λv u H Q ι M x y d M' S rv ru e q=>by
  have U:∀L ys,MW.gn M x=some L->MW.gn M y=some ys->L.length+ys.length<=100000->d=.vl (L++ys)->M'=M->baw v u H Q:=λL ys h1 h2 hl hd hm=>by
   subst hd hm;obtain⟨p,vs,rfl,e1,G⟩:=qm S rv h1;obtain⟨p2,qq,rfl,e2,Z⟩:=qm S ru h2;refine⟨p,p2,vs,qq,rfl,rfl,e1,e2,?_,λp3 h3=>?_⟩
   .rw[<-G.length,<-Z.length];exact gb hl Oh
   .obtain⟨a,b,c⟩:=Qs S h3 (G.append Z)
    exact q ι _ _ b a c
  rcases awq e with⟨i,j,rfl,rfl,rfl,rfl⟩|⟨L,ys,rfl,rfl,hl,rfl,rfl⟩|⟨L,ys,h1,h2,hl,h3,h4⟩
  .cases rv;cases ru
   exact .inl ⟨_,_,rfl,rfl,q ι H _ (Le.refl _ _) S (.int _)⟩
  .cases rv with
   |tup e1 G =>
    cases ru with
    |tup e2 Z =>
     refine .inr (.inr ⟨_,_,_,_,rfl,rfl,Lq.of e1,Lq.of e2,?_,λhn=>?_,λhn=>?_,λp hp=>?_⟩)
     .rw[<-G.length,<-Z.length];exact gb hl Oh
     .have:=G.length
      rw[hn]at this;rw[o7.mp this,List.nil_append]at q;exact q ι H _ (Le.refl _ _) S (.tup e2 Z)
     .have:=Z.length
      rw[hn]at this;rw[o7.mp this,xr]at q;exact q ι H _ (Le.refl _ _) S (.tup e1 G)
     .obtain⟨a,b,c⟩:=O1 S hp (G.append Z)
      exact q ι _ _ b a c
  .exact .inr (.inl (U _ _ h1 h2 hl h3 h4))
def awr{t:TE}(h:PT X a (λZ H Q=>t Z H λx H1=>∃c,x=.bl c/\Q c H1))(w:∀Z H Q,tE nm W X.K a' Z H Q->t Z H Q):PT X a (tQ nm W X.K a'):=
 PT.of h λZ H Q ι L M b U S R e q=>w Z H _ ⟨ι,L,M,_,U,S,R,e,λG H' v le S' r=>by cases r;exact⟨b,rfl,q G H' le S'⟩⟩
def ba9(h:PE X a (tE nm W X.K G))(U:∀Z,isTrue a X.env Z=(do let v<-Z;standAt a.pos;holding [v] (truthy v))):PT X a (tQ nm W X.K G):=
 awr (a2w h U) λ_ _ _ q=>q
def Yv(U:Nm)(K:Fg)(G:Cp):R2:=λv u H Q=>∃Z M x y b,j9 U K Z H M/\Rep K Z H x v/\Rep K Z H y u/\MW.Mj G x y M=some b/\Q (.bl b) H
def aev{X:Cx}:∀U H Q,tE nm W X.K (.cmp G a' b') U H Q->tOp (Yv nm X.K G) (tE nm W X.K a') (tE nm W X.K b') U H Q:=λU H Q hh=>by obtain⟨ι,ρ,M,d,M',S,R,e,q⟩:=hh;rw[MW.aie]at e;obtain⟨x,M1,e1,e⟩:=fj e;obtain⟨y,M2,e2,e⟩:=fj e;obtain⟨e,rfl⟩:=xj e;obtain⟨b,e3,rfl⟩:=cz.mp e;exact two S R e1 e2 λZ H2 v u le L _ rv ru=>⟨Z,M',x,y,b,L,rv,ru,e3,q Z H2 _ le L (.bl b)⟩
def bba(ho:Cy X (compareOp op) (Yv nm X.K Z))(U:PE X a (tE nm W X.K L))(G:PE X b (tE nm W X.K b'))(hm:behindInMarks op b=false):PE X (.Compare a [op] [b] pos) (tE nm W X.K (.cmp Z L b')):=
 PE.weak (av2 ho U G hm) aev
def bbb(ho:Cy X (compareOp op) (Yv nm X.K Z))(ha:PE X a (tE nm W X.K G))(L:PE X b (tE nm W X.K U))(hm:behindInMarks op b=false):PT X (.Compare a [op] [b] pos) (tQ nm W X.K (.cmp Z G U)):=
 awr (t:=tOp (Yv nm X.K Z) (tE nm W X.K G) (tE nm W X.K U)) (av3 ho ha L hm) aev
def Xp{X:Cx}:∀σ H Q,tE nm W X.K (.chain op1 op2 a' b' c') σ H Q->abx (Yv nm X.K op1) (Yv nm X.K op2) (tE nm W X.K a') (tE nm W X.K b') (tE nm W X.K c') σ H Q:=fun σ H Q hh=>by
 obtain⟨ι,ρ,M,d,M',S,R,e,q⟩:=hh;rw[MW.ak7]at e;obtain⟨x,M1,e1,e⟩:=fj e;obtain⟨y,M2,e2,e⟩:=fj e;obtain⟨k,Z,e3,e⟩:=fj e;obtain⟨e3,rfl⟩:=xj e3;refine two S R e1 e2 λG H2 v u le S2 R2 rv ru=>⟨G,Z,x,y,k,S2,rv,ru,e3,k,rfl,?_⟩
 cases k with
 |false =>
  have e:Res.ok (MW.D.bl false) Z=.ok d M':=e;cases e;exact q G H2 _ le S2 (.bl false)
 |true =>
  have e:((c'.den W ρ Z).bind λz M3=>Res.uy ((MW.Mj op2 y z M3).map MW.D.bl) M3)=.ok d M':=e;obtain⟨z,M3,e4,e⟩:=fj e;obtain⟨e,rfl⟩:=xj e;obtain⟨b,e5,rfl⟩:=cz.mp e;show tE nm W X.K c' σ H2 _;exact one S2 R2 e4 λL H3 w U S3 _ rw=>⟨L,M',y,z,b,S3,ru.mono U,rw,e5,q L H3 _ (le.trans U) S3 (.bl b)⟩
def aws(U:Cy X (compareOp Z) (Yv nm X.K op1))(h2:Cy X (compareOp G) (Yv nm X.K op2))(ha:PE X a (tE nm W X.K a'))(hb:PE X b (tE nm W X.K b'))(hc:PE X c (tE nm W X.K L))(hm:lastMarks [Z,G] [b,c]=false) :
 PE X (.Compare a [Z,G] [b,c] pos) (tE nm W X.K (.chain op1 op2 a' b' L)):=PE.weak (ap5 U h2 ha hb hc hm) Xp
def awt(h1:Cy X (compareOp Z) (Yv nm X.K op1))(h2:Cy X (compareOp U) (Yv nm X.K op2))(ha:PE X a (tE nm W X.K L))(hb:PE X b (tE nm W X.K b'))(hc:PE X c (tE nm W X.K G))(hm:lastMarks [Z,U] [b,c]=false) :
 PT X (.Compare a [Z,U] [b,c] pos) (tQ nm W X.K (.chain op1 op2 L b' G)):=awr (t:=abx (Yv nm X.K op1) (Yv nm X.K op2) (tE nm W X.K L) (tE nm W X.K b') (tE nm W X.K G)) (ap6 h1 h2 ha hb hc hm) Xp
def T7(h:Cy X (compareOp op) (rI0 λi j=>.bl (f i j)))(e:∀x y M,MW.Mj Z x y M=MW.adf f x y):Cy X (compareOp op) (Yv nm X.K Z):=
 Cy.weak h λv u H Q hh=>by obtain⟨ι,M,x,y,b,S,L,U,G,q⟩:=hh;rw[e]at G;obtain⟨i,j,rfl,rfl,e2⟩:=MW.agu G (by intro z;cases z);cases L;cases U;cases e2;exact⟨_,_,rfl,rfl,q⟩
def bg9:Cy X (compareOp .Lt) (Yv nm X.K .lt):=T7 a97 λ_ _ _=>rfl
def bha:Cy X (compareOp .LtE) (Yv nm X.K .le):=T7 a98 λ_ _ _=>rfl
def bhb:Cy X (compareOp .Gt) (Yv nm X.K .gt):=T7 a99 λ_ _ _=>rfl
def bhc:Cy X (compareOp .GtE) (Yv nm X.K .ge):=T7 baa λ_ _ _=>rfl
set_option tactic.hygienic true in
def azy{Z:X0}(ha:PE X a (tE nm W X.K U))(hb:PE X (.BoolOp .And (b::Z) pos) (tE nm W X.K b')):PE X (.BoolOp .And (a::b::Z) pos) (tE nm W X.K (.and U b')):=
 PE.of (a3a ha hb) fun σ H Q ι ρ M d M' S R e q=>by
  rw[MW.Rh]at e;obtain⟨x,M1,y,e⟩:=fj e;refine one S R y λY C v le J R1 r=>?_
  cases r<;>try cases e
  rename_i k;refine⟨k,rfl,?_⟩;cases k with
  |false=>cases e;exact q Y C _ le J (.bl false)|true=>exact one J R1 e λG H2 w zb u _ L=>q G H2 w (le.trans zb) u L
set_option tactic.hygienic true in
def bbc{Z:X0}(ha:PE X a (tE nm W X.K U))(hb:PE X (.BoolOp .Or (b::Z) pos) (tE nm W X.K b')):PE X (.BoolOp .Or (a::b::Z) pos) (tE nm W X.K (.or U b')):=
 PE.of (a9q ha hb) fun σ H Q ι ρ M d M' S R e q=>by
  rw[MW.agx]at e;obtain⟨x,M1,y,e⟩:=fj e;refine one S R y λY C v le J R1 r=>?_
  cases r<;>try cases e
  rename_i k;refine⟨k,rfl,?_⟩;cases k with
  |true=>cases e;exact q Y C _ le J (.bl true)|false=>exact one J R1 e λG H2 w zb u _ L=>q G H2 w (le.trans zb) u L
def bbd(L:PE X a (tE nm W X.K a')):PE X (.UnaryOp .Not a pos) (tE nm W X.K (.not a')):=
 PE.of (a3b L) fun σ H Q ι ρ M d M' S R e q=>by
  rw[MW.aif]at e;obtain⟨x,M1,U,e⟩:=fj e;refine one S R U λZ H1 v le G R1 r=>?_
  cases r<;>try cases e
  exact⟨_,rfl,q Z H1 _ le G (.bl _)⟩
def Zb{X:Cx}{L:di}(S:j9 nm X.K ι H M)(R:u5 X.K ι H ρ σ)(ha:a'.den W ρ M=.ok (.bl k) L)(h:∀Z U,Le ι H Z U->j9 nm X.K Z U L->u5 X.K Z U ρ σ->G k U):tQ nm W X.K a' σ H G:=
 ⟨ι,ρ,M,k,L,S,R,ha,λqq H' le S'=>h qq H' le S' (R.mono le)⟩
set_option tactic.hygienic true in
def azz{rest:X0}(y:PT X a (tQ nm W X.K a'))(C:PW X (.BoolOp .And (b::rest) pos) (tQ nm W X.K b')):PW X (.BoolOp .And (a::b::rest) pos) (tQ nm W X.K (.and a' b')):=
 λZ Y s σ H Q I ⟨ι,ρ,M,d,M',S,R,e,q⟩=>a2y y C Z Y s σ H Q I (by
  rw[MW.Rh]at e;obtain⟨x,M1,L,e⟩:=fj e;cases x<;>try cases e
  rename_i k;refine Zb S R L λG H1 le U R1=>?_
  cases k with
  | false=>cases e;exact q G H1 le U|true=>exact Zb U R1 e λJ H2 zb u _=>q J H2 (le.trans zb) u)
set_option tactic.hygienic true in
def bbe{rest:X0}(y:PT X a (tQ nm W X.K a'))(C:PW X (.BoolOp .Or (b::rest) pos) (tQ nm W X.K b')):PW X (.BoolOp .Or (a::b::rest) pos) (tQ nm W X.K (.or a' b')):=
 λZ Y s σ H Q I ⟨ι,ρ,M,d,M',S,R,e,q⟩=>a9n y C Z Y s σ H Q I (by
  rw[MW.agx]at e;obtain⟨x,M1,L,e⟩:=fj e;cases x<;>try cases e
  rename_i k;refine Zb S R L λG H1 le U R1=>?_
  cases k with
  | true=>cases e;exact q G H1 le U|false=>exact Zb U R1 e λJ H2 zb u _=>q J H2 (le.trans zb) u)
def bbf(L:PT X a (tQ nm W X.K a')):PT X (.UnaryOp .Not a pos) (tQ nm W X.K (.not a')):=
 PT.of (a2z L) fun σ H Q ι ρ M d M' S R e q=>by
  rw[MW.aif]at e;obtain⟨x,M1,U,e⟩:=fj e;cases x<;>try cases e
  exact Zb S R U λZ H1 le G R1=>q Z H1 le G
set_option tactic.hygienic true in
def bbg(u:PT X c (tQ nm W X.K c'))(ha:PE X a (tE nm W X.K a'))(hb:PE X b (tE nm W X.K b')):PE X (.IfExp c a b pos) (tE nm W X.K (.ite c' a' b')):=
 PE.of (apw u ha hb) fun σ H Q ι ρ M d M' S R e q=>by
  rw[MW.au1]at e;obtain⟨x,M1,e1,e⟩:=fj e;cases x<;>try cases e
  rename_i k;refine Zb S R e1 λy H1 le C L=>?_
  cases k with
  |true=>exact one C L e λZ U w J G _ Y=>q Z U w (le.trans J) G Y
  |false=>exact one C L e λZ U w J G _ Y=>q Z U w (le.trans J) G Y
def Vh:PA X [] (Vu nm W X.K .nil):=PA.of a3w fun σ H Q Z L M G U S R e q=>by rw[MW.Mp]at e;cases e;exact q Z H _ (Le.refl _ _) S .nil
def Xq{X:Cx}{M1:di}(S:j9 nm X.K ι H M)(R:u5 X.K ι H ρ σ)(ha:es'.den W ρ M=.ok ds M1)(h:∀Z U vs,Le ι H Z U->j9 nm X.K Z U M1->u5 X.K Z U ρ σ->nq X.K Z U ds vs->G vs U):Vu nm W X.K es' σ H G:=
 ⟨ι,ρ,M,ds,M1,S,R,ha,λL H' v le S' r=>h L H' v le S' (R.mono le) r⟩
def Oi(ha:PE X a (tE nm W X.K a'))(hr:PA X G (Vu nm W X.K U))(hs:starEach (a::G) X.env=(false,eval a X.env)::starEach G X.env):PA X (a::G) (Vu nm W X.K (.cons a' U)):=
 PA.of (av6 ha hr hs) fun σ H Q ι ρ M ds M' S R e q=>by rw[MW.Hg]at e;obtain⟨x,M1,e1,e⟩:=fj e;obtain⟨xs,M2,e2,e⟩:=fj e;cases e;exact one S R e1 λqq H1 v le S1 R1 r1=>Xq S1 R1 e2 λZ H2 vs L S2 R2 r2=>q Z H2 _ (le.trans L) S2 (.cons (r1.mono L) r2)
noncomputable def Cv.len:Cv->Nat
 |.nil=>0|.cons _ r=>Cv.len r+1
theorem Gb{W:G9}:∀{Z:Cv}{ρ:En}{M U:di}{G:List Dv},Z.den W ρ M=.ok G U->G.length=Cv.len Z
 |.nil,_,_,_,_,e=>by rw[MW.Mp]at e;cases e;rfl
 |.cons _ r,_,_,_,_,e=>by
  rw[MW.Hg]at e;obtain⟨x,U,e1,e⟩:=fj e;obtain⟨xs,M2,L,e⟩:=fj e;cases e;rw[gq,Gb L];rfl
def bbh(h:PA X L (Vu nm W X.K Z))(hl:Cv.len Z<=1000):PE X (.Tuple L k pos) (tE nm W X.K (.tup Z)):=
 PE.of (a3x h) fun σ H Q ι ρ M d M' S R e q=>by
  rw[MW.au2]at e;obtain⟨ds,M1,U,e⟩:=fj e;cases e;refine Xq S R U λG H1 vs le S1 R1 r=>⟨?_,λp hp=>?_⟩
  .rw[<-r.length,Gb U];exact gb hl (by decide)
  .obtain⟨S2,zb,r2⟩:=O1 S1 hp r
   exact q G _ _ (le.trans zb) S2 r2
def a4k(h:PA X L (Vu nm W X.K Z))(hl:Cv.len Z<=1000):PE X (.List L pos) (tE nm W X.K (.Hh Z)):=
 PE.of (ap9 h) fun σ H Q ι ρ M d M' S R e q=>by
  rw[MW.aoc]at e;obtain⟨ds,M1,U,e⟩:=fj e;cases e;refine Xq S R U λG H1 vs le S1 R1 r=>⟨?_,λp hp=>?_⟩
  .rw[<-r.length,Gb U];exact gb hl (by decide)
  .obtain⟨S2,zb,r2⟩:=Qs S1 hp r
   exact q G _ _ (le.trans zb) S2 r2
def bbi(h:PA X L (Vu nm W X.K Z))(hl:Cv.len Z<=1000):PE X (.List L pos) (tE nm W X.K (.lst Z)):=
 PE.of (ap9 h) fun σ H Q ι ρ M d M' S R e q=>by
  rw[MW.au3]at e;obtain⟨ds,M1,G,e⟩:=fj e;cases e;refine Xq S R G λU H1 vs le S1 R1 r=>⟨?_,λp hp=>?_⟩
  .rw[<-r.length,Gb G];exact gb hl (by decide)
  .obtain⟨S2,zb,r2⟩:=ajj S1 hp r
   exact q _ _ _ (le.trans zb) S2 r2
def bbj(L:PE X a (tE nm W X.K a')):PE X (.UnaryOp .USub a pos) (tE nm W X.K (.neg a')):=
 PE.of (a93 a3s L) fun σ H Q ι ρ M d M' S R e q=>by
  rw[MW.au0]at e;obtain⟨x,M1,U,e⟩:=fj e;refine one S R U λZ H1 v le G R1 r=>?_
  cases r<;>try cases e
  exact⟨_,rfl,q Z H1 _ le G (.int _)⟩
open PyProof.Rows (subscriptTail)
section
variable{κ:Type}[DecidableEq κ]{K:Fg}{ι:Io}{H:Hp}
theorem t8.length{κ Z:Type}{f:κ->Z->Prop}:∀{l:List (κ×Dv)}{G:List (Z×V)},t8 K ι H f l G->l.length=G.length:=by intro _ _ h;induction h with|nil=>rfl|cons _ _ _ ih=>rw[gq,gq,ih]
theorem t8.look{k:κ}:∀{Z:List (κ×Dv)}{l:List (κ×V)},t8 K ι H (λk U=>k=U) Z l->(∀d,MW.Bp Z k=some d->∃v,Sd l k=some v/\Rep K ι H d v)/\(MW.Bp Z k=none->Sd l k=none)
 |_,_,.nil=>⟨λd h=>by simp[MW.Bp]at h,λ_=>rfl⟩
 |_,_,.cons (k:=q) (k':=q') hk h t=>by
  subst hk;obtain⟨a,b⟩:=t8.look (k:=k) t
  by_cases e:q=k
  .refine⟨λd G=>?_,λG=>?_⟩
   .simp[MW.Bp,qg,e]at G
    subst G;exact⟨_,Sg e,h⟩
   .simp[MW.Bp,qg,e]at G
  .have z:∀(d:Dv) r,MW.Bp ((q,d)::r) k=MW.Bp r k:=λd r=>by simp[MW.Bp,qg,e]
   rw[z,Sh (by exact e)];exact⟨a,b⟩
theorem t8.any{k:κ}:∀{Z:List (κ×Dv)}{l:List (κ×V)},t8 K ι H (λk U=>k=U) Z l->(Z.any λG=>decide (G.1=k))=(l.any λG=>decide (G.1=k))
 |_,_,.nil=>rfl|_,_,.cons hk h t=>by subst hk;simp only[List.any_cons,t8.any t]
theorem t8.ahn{k:κ}{d:Dv}{v:V}(r:Rep K ι H d v):∀{G:List (κ×Dv)}{l:List (κ×V)},t8 K ι H (λk U=>k=U) G l ->
 t8 K ι H (λk U=>k=U) (G.map λZ=>if Z.1=k then(Z.1,d)else Z) (l.map λZ=>if Z.1=k then(Z.1,v)else Z)
 |_,_,.nil=>.nil
 |_,_,.cons (k:=q) hk h t=>by
  subst hk;simp only[dj]
  by_cases e:q=k
  .simp only[e,jg];exact .cons rfl r (t8.ahn r t)
  .simp only[e,gm];exact .cons rfl h (t8.ahn r t)
theorem t8.snoc{κ Z:Type}{f:κ->Z->Prop}{k:κ}{U:Z}{d:Dv}{v:V}(G:f k U)(r:Rep K ι H d v):∀{l:List (κ×Dv)}{L:List (Z×V)},t8 K ι H f l L->t8 K ι H f (l++[(k,d)]) (L++[(U,v)])
 |_,_,.nil=>.cons G r .nil|_,_,.cons q h t=>.cons q h (t8.snoc G r t)
def t8.put{k:κ}(r:Rep K ι H d v)(t:t8 K ι H (λk Z=>k=Z) kvs l):t8 K ι H (λk Z=>k=Z) (MW.Fy kvs k d) (putK l k v):=by
 unfold MW.Fy putK;rw[t.any (k:=k)]
 by_cases e:(l.any λG=>decide (G.1=k))=true
 .rw[bz e,bz e];exact t.ahn r
 .rw[bc e,bc e];exact t.snoc rfl r
theorem t8.fld{nm:Nm}{f:Nat}:∀{fs:List (Nat×Dv)}{l:List (Str×V)},t8 K ι H (λk G=>G=nm.fld k) fs l->(∀d,fs.lookup f=some d->∃v,l.lookup (nm.fld f)=some v/\Rep K ι H d v)/\(fs.lookup f=none->l.lookup (nm.fld f)=none)
 |_,_,.nil=>⟨λd h=>by simp at h,λ_=>rfl⟩
 |_,_,.cons (k:=q) (k':=q') hk h t=>by
  subst hk;obtain⟨a,b⟩:=t8.fld (nm:=nm) (f:=f) t;rw[n6,n6]
  by_cases e:f=q
  .subst e
   simp only[zx];exact⟨λd Z=>by cases Z;exact⟨_,rfl,h⟩,λZ=>by cases Z⟩
  .have U:(f==q)=false:=by simpa using e
   have L:(nm.fld f==nm.fld q)=false:=by
    cases z:nm.fld f==nm.fld q with
    |false=>rfl|true=>exact absurd (nm.inj _ _ (eq_of_beq z)) e
   rw[U,L];exact⟨a,b⟩
theorem t8.Ig{Z:Nm}{f:Nat}{d:Dv}{v:V}(r:Rep K ι H d v):∀{fs:List (Nat×Dv)}{l:List (Str×V)},t8 K ι H (λk G=>G=Z.fld k) fs l->t8 K ι H (λk G=>G=Z.fld k) (MW.Ux f d fs) (L2.Ig (Z.fld f) v l)
 |_,_,.nil=>.cons rfl r .nil
 |_,_,.cons (k:=q) (k':=q') hk h t=>by
  subst hk;unfold MW.Ux L2.Ig
  by_cases e:q=f
  .subst e
   simp only[jg];exact .cons rfl r t
  .have U:¬Z.fld q=Z.fld f:=λz=>e (Z.inj _ _ z)
   rw[bc e,bc U];exact .cons rfl h (t8.Ig r t)
def a4l(r:Rep K ι H d v)(h:MW.agq d=some k):v=kV k:=by cases r<;>simp[MW.agq]at h<;>subst h<;>rfl
set_option tactic.hygienic true in
theorem aqt:∀{Y:List Dv}{Z:List V}{G:List Kx},nq K ι H Y Z->MW.Wm Y=some G->Z=G.map kV
 |_,_,_,.nil,h=>by simp[MW.Wm]at h;subst h;rfl
 |_,_,_,.cons r t,h=>by
  simp only[MW.Wm]at h;split at h
  .rename_i k U J C
   cases h;rw[a4l r J,aqt t C];rfl
  .cases h
def ab4(r:Rep K ι H d v)(h:MW.Rc d=some Z):∃b,v=.ref b/\H b=some (.tup (Z.map kV)):=by
 cases r with
 |tup e r=>exact⟨_,rfl,by rw[<-aqt r h];exact e⟩|_=>simp[MW.Rc]at h
end
def bhd(G:Nm)(K:Fg):R2:=λv u H Q=>∃Z M x y d,j9 G K Z H M/\Rep K Z H x v/\Rep K Z H y u/\MW.Bj x y M=some d/\∀w,Rep K Z H d w->Q w H
def a4m(L:X.A.units+1<cLine):IxR X (λx y H Q=>∃a v,x=.ref a/\Y8 H a y (some v)/\Q v H):=by intro G Z U s σ H x y v u Q I rx ry h hs;obtain⟨p,z,rfl,g,q⟩:=h;cases rx;exact PyProof.Rows.tail_any (ael I g) PySem.F.slot_dict_getitem.lookup (alz L I g ry λw' s' I' r=>⟨z,H,I',r,q⟩) hs
set_option tactic.hygienic true in
def a4n(hu:X.A.units+1<cLine):IxR X (bhd nm X.K):=by
 intro Z Y G s σ H v u v' u' Q I rv ru ⟨ι,M,x,y,d,S,rx,ry,e,q⟩ hs;have C:∀(p:Addr)(U:List V)(R:List Dv),v=.ref p->(Ie X.K H p U\/Lq X.K H p U)->nq X.K ι H R U->(match y with|.int i=>(MW.Yz R.length i).bind λj=>R[j]?|_=>none)=some d ->
  wpAny (model X.prog X.w) X.A (subscriptTail Z Y v' u') (EP X G σ Q) X.xe s:=λp U R hv hq r e=>by
  subst hv;obtain⟨i,qk⟩:∃i,y=.int i:=by cases y<;>first|exact⟨_,rfl⟩|cases e
  subst qk;cases ry;obtain⟨j,J,e2⟩:=dw.mp e;obtain⟨z,h1,L⟩:=r.get e2;have qq:atI U i=some z:=by unfold atI;rw[show ixN U.length i=some j from by rw[<-r.length];exact J];exact h1
  rcases hq with hq|hq
  .exact L2.Fp Z Y G s σ H _ _ v' u' Q I rv ru ⟨p,U,i,z,rfl,rfl,hq,qq,q z L⟩ hs
  .exact L2.Iz Z Y G s σ H _ _ v' u' Q I rv ru ⟨p,U,i,z,rfl,rfl,hq,qq,q z L⟩ hs
 cases rx with
 |tup J r1=>exact C _ _ _ rfl (.inr (Lq.of J)) r1 (by cases ry<;>first|exact e|(simp[MW.Bj,MW.Bk]at e))
 |vl J n1 r1=>exact C _ _ _ rfl (.inl (Ie.of J)) r1 (by cases ry<;>first|exact e|(simp[MW.Bj,MW.Bk,MW.gn]at e))
 |fz J r1=>exact C _ _ _ rfl (.inl J.sq) r1 (by cases ry<;>first|exact e|(simp[MW.Bj]at e))
 |ref J =>
  rename_i n p;simp only[MW.Bj]at e;split at e
  .rename_i qv hn
   obtain⟨l,h1,L⟩:=S.obj n _ p hn J;obtain⟨k,e2,e3⟩:=dw.mp e;obtain⟨z,h3,h4⟩:=(L.look (k:=k)).1 d e3;obtain⟨b,rfl,hb⟩:=ab4 ry e2;exact a4m hu Z Y G s σ H _ _ v' u' Q I rv ru ⟨p,z,rfl,by rw[<-h3];exact Y8.t h1 hb,q z h4⟩ hs
  .cases hl:MW.gn M (.ref n)with
   |none=>rw[hl]at e;cases e
   |some R =>
    obtain⟨p',U,hp,h1,L⟩:=qm S (.ref J) hl;cases hp;rw[hl]at e;exact C _ _ _ rfl (.inl (Ie.of h1)) L (by cases ry<;>first|exact e|cases e)
 |_=>simp[MW.Bj,MW.Bk,MW.gn]at e
def bhe(hu:X.A.units+1<cLine)(ha:PE X a (tE nm W X.K L))(hb:PE X b (tE nm W X.K b'))(hs:ab0 b):PE X (.Subscript a b pos) (tE nm W X.K (.ix L b')):=
 PE.of (bao (a4n (nm:=nm) hu) ha hb hs) fun σ H Q ι ρ M d U S R e q=>by rw[MW.a1h]at e;obtain⟨x,M1,e1,e⟩:=fj e;obtain⟨y,M2,e2,e⟩:=fj e;obtain⟨e,rfl⟩:=xj e;exact two S R e1 e2 λZ H2 v u le G _ rv ru=>⟨Z,U,x,y,d,G,rv,ru,e,λw r=>q Z H2 w le G r⟩
set_option tactic.hygienic true in
def bbk(U:n=nm.fld f)(Y:∀c C,nm.cls c=some C->Cls X.K C/\Hu X.K C n)(ha:PE X a (tE nm W X.K u))(hb:attributeBase a n X.env (eval a X.env)=eval a X.env):PE X (.Attribute a n pos) (tE nm W X.K (.fld u f)):=
 PE.of (a3u ha hb) fun σ H Q ι ρ M d M' S R e q=>by
  rw[MW.au5]at e;obtain⟨x,M1,e1,e⟩:=fj e;obtain⟨e,rfl⟩:=xj e;refine one S R e1 λZ H1 v le J R1 r=>?_
  obtain⟨m,G⟩:∃m,x=.ref m:=by cases x<;>first|exact⟨_,rfl⟩|cases e
  subst G;obtain⟨p,rfl,hp⟩:∃p,v=.ref p/\Z.l[m]?=some p:=by cases r with|ref z=>exact⟨_,rfl,z⟩
  simp only[MW.Rf]at e;split at e
  .rename_i c fs hm
   obtain⟨C,L,l,h1,h2,y⟩:=J.obj m _ p hm hp;obtain⟨z,h4,h5⟩:=(y.fld (nm:=nm) (f:=f)).1 d e;subst U;obtain⟨g1,g2⟩:=Y c C h1;exact⟨p,C,L,l,z,rfl,h2,g1,g2,h4,q Z H1 z le J h5⟩
  .cases e
open MW (Ex Cv OEx Ka Bx m5 Lv Tg Res di MO G9 Cp Op2 Blt Bm Kx Src)
noncomputable def Uc:Expr->Bool
 |.ListComp ..=>false|.SetComp ..=>false|.DictComp ..=>false|_=>true
def Oj(h:Uc e=true)(t:Option Expr)(l:Nat)(Z:Env):swapsWith e t l Z=pure false:=by cases e<;>first|rfl|(cases h)
noncomputable def G6:Expr->Bool
 |.Set ..=>false|_=>true
def Dy(h:G6 e=true)(Z:Env)(x:Value):foldedSetIterable e Z x=pure x:=by cases e<;>first|rfl|(cases h)
def Vi(h:G6 e=true)(Z:CmpOp):behindInMarks Z e=false:=by cases e<;>first|rfl|(cases h)
noncomputable def az0:Expr->Bool
 |.Tuple ..=>false|_=>true
noncomputable def noStar:Expr->Bool
 |.Starred ..=>false|_=>true
def km(h:noStar e=true)(Z:X0)(env:Env):starEach (e::Z) env=(false,eval e env)::starEach Z env:=by cases e<;>first|rfl|(cases h)
noncomputable def ab5:Expr->Bool
 |.Slice ..=>false|_=>true
def aqu(h:ab5 e=true):ab0 e:=by intro o i;cases e<;>first|rfl|(cases h)
noncomputable def Bl:Tg->List Nat
 |.name i=>[i]|.names is=>is
def tGt(nm:Nm)(K:Fg)(t:Tg):TG:=λv L H Q=>∃U ρ M d G,j9 nm K U H M/\u5 K U H ρ L/\Rep K U H d v/\t.put d ρ=some G/\∀Z,u5 K U H G Z->Z.length=L.length->(∀j,j∉Bl t->Z[j]?=L[j]?)->Q Z H
def PG.weak(h:PG X tg t)(w:∀v G H Q,t' v G H Q->t v G H Q):PG X tg t':=λZ s G H v u Q I r q=>h Z s G H v u Q I r (w v G H Q q)
def PG.of(h:PG X tg t)(w:∀v L H Q U ρ M d Z,j9 nm X.K U H M->u5 X.K U H ρ L->Rep X.K U H d v->tt.put d ρ=some Z->(∀G,u5 X.K U H Z G->G.length=L.length->(∀j,j∉Bl tt->G[j]?=L[j]?)->Q G H)->t v L H Q):PG X tg (tGt nm X.K tt):=
 PG.weak h λv L H Q z_=>by obtain⟨U,ρ,M,d,Z,S,R,r,e,q⟩:=z_;exact w v L H Q U ρ M d Z S R r e q
def a4o(hN:X.N.Nodup)(hi:X.N[i]?=some n)(L:Loc X.env.scope n)(G:X.fn n=true\/X.env.scope.names.lookup n=some .local):PG X (.Name n pos) (tGt nm X.K (.name i)):=
 PG.of (abw hN hi L G) λv σ H Q ι ρ M d U S R r e q=>by cases e;exact q _ (R.set r i) (by simp) λj Z=>xf (λz=>Z (by simp[Bl,z]))
noncomputable def Kv:List Nat->List V->St->St
 |i::is,v::vs,σ=>Kv is vs (σ.set i (some v))|_,_,σ=>σ
theorem Xr{Z:Io}{H:Hp}{K:Fg}:∀{is:Yf}{U:List Dv}{G:List V}{L:En}{σ:St},u5 K Z H L σ->nq K Z H U G->u5 K Z H (MW.Qh is U L) (Kv is G σ)
 |[],_,_,_,_,R,r=>by cases r<;>exact R|_::_,_,_,_,_,R,.nil=>R|i::is,_,_,_,_,R,.cons h t=>Xr (is:=is) (R.set h i) t
theorem Ss:∀{is:Yf}{G:List V}{Z:St}{j:Nat},j∉is->(Kv is G Z)[j]?=Z[j]?
 |[],G,Z,j,_=>by cases G<;>rfl|i::is,[],Z,j,_=>rfl
 |i::is,v::G,Z,j,h=>by
  show(Kv is G (Z.set i (some v)))[j]?=_;rw[Ss (λz=>h (bx _ z)),xf (λz=>h (by rw[z];exact dh))]
theorem Vj:∀{is:Yf}{G:List V}{Z:St},(Kv is G Z).length=Z.length
 |[],G,Z=>by cases G<;>rfl|_::_,[],Z=>rfl|i::is,v::G,Z=>by show(Kv is G (Z.set i (some v))).length=_;rw[Vj,List.length_set]
inductive Kw(X:Cx):List Expr->List Nat->Prop
 |nil:Kw X [] []
 |cons {n:Str} {p:Pos} {i:Nat} {ts:X0} {is:Yf} (hi:X.N[i]?=some n) (hx:Loc X.env.scope n) (hf:X.fn n=true\/X.env.scope.names.lookup n=some .local) (t:Kw X ts is):Kw X (.Name n p::ts) (i::is)
theorem aew{X:Cx}(hN:X.N.Nodup):∀{ts:X0}{is:Yf},Kw X ts is->PGs X ts (λG U H Q=>G.length=is.length/\Q (Kv is G U) H)
 |_,_,.nil=>λZ s U H G us Q I r q=>by
  obtain⟨L,h2⟩:=q;have hv:G=[]:=o7.mp L;subst hv;exact avy Z s U H [] us Q I r ⟨rfl,h2⟩
 |_,_,.cons hi hx hf t=>λZ s U H G us Q I r q=>by
  obtain⟨L,h2⟩:=q;cases G with
  |nil=>simp at L|cons v G=>exact apy (abw hN hi hx hf) (aew hN t) (by rfl) Z s U H (v::G) us Q I r ⟨v,G,rfl,by simpa using L,h2⟩
theorem Fi{X:Cx}{env:Env}:∀{Z:X0}{is:Yf},Kw X Z is->(assignEach Z env).length=is.length/\(assignEach Z env).findIdx? (·.1)=none
 |_,_,.nil=>⟨rfl,rfl⟩
 |_,_,.cons hi hx hf t=>by
  obtain⟨U,G⟩:=Fi (env:=env) t;refine⟨by simp[assignEach,U],?_⟩;simp[assignEach,List.findIdx?_cons];simpa using G
set_option tactic.hygienic true in
def awu(J:X.calm=true)(hN:X.N.Nodup)(h:Kw X U is):PG X (.Tuple U k pos) (tGt nm X.K (.names is)):=
 PG.of (a3f J (aew hN h) (Fi h).1 (Fi h).2) λv σ H Q u y M d C S R r e q=>by
  cases r with
  |tup L Z =>
   simp only[Tg.put]at e;split at e<;>cases e;rename_i Y;exact⟨_,_,rfl,Lq.of L,by rw[<-Z.length];exact Y,by rw[<-Z.length];exact Y,q _ (Xr R Z) Vj λj G=>Ss G⟩
  |_=>simp[Tg.put]at e
def aqv(he:PE X a (tE nm W X.K a'))(hg:PG X tg (tGt nm X.K t))(hs:swapsWithSole [tg] a pos.line X.env=pure false)(hw:swappedStores [tg] a X.env=pure none)(h1:(assignEach [tg] X.env).map (·.2)=[assign tg X.env]) :
 PS X (.Assign [tg] a pos) (tS nm W X.K (.asg (.tg t) a')):=
 PS.of (apz he hg hs hw h1) λD σ H ι ρ M fl G M' S R e q=>by rw[MW.aa5]at e;obtain⟨x,M1,e1,e⟩:=fj e;obtain⟨qq,M2,e2,e⟩:=fj e;cases e;rw[MW.aol]at e2;obtain⟨e3,e4⟩:=xj e2;subst e4;exact one S R e1 λZ H1 v le L R1 r=>⟨Z,ρ,_,x,G,L,R1,r,e3,λU R' _ _=>q Z H1 U le L R'⟩
def a4p(G:PE X a (tE nm W X.K a'))(hs:swapsWith a none pos.line X.env=pure false):PS X (.Expr a pos) (tS nm W X.K (.expr a')):=
 PS.of (avx G hs) λD σ H ι ρ M fl qq M' S R e q=>by rw[MW.au7]at e;obtain⟨x,M1,e1,e⟩:=fj e;cases e;exact one S R e1 λZ U v le L R1 r=>q Z U σ le L R1
def bbl(G:PE X a (tE nm W X.K a')):PS X (.Return (some a) pos) (tS nm W X.K (.ret a')):=
 PS.of (a3c G) λD σ H ι ρ M fl qq M' S R e q=>by rw[MW.a1j]at e;obtain⟨x,M1,L,e⟩:=fj e;cases e;exact one S R L λZ H1 v le U R1 r=>q Z H1 σ le U R1 v r
def a4q:PS X (.Continue pos) (tS nm W X.K .cont):=
 PS.of aef λD G H Z ρ M fl U L S R e q=>by rw[MW.au8]at e;cases e;exact q Z H G (Le.refl _ _) S R
def Xo.mono{X:Cx}(le:Le ι H Z H')(q:Xo nm X.K D ι H fl ρ M):Xo nm X.K D Z H' fl ρ M:=λG H2 U zb L R2=>q G H2 U (le.trans zb) L R2
set_option tactic.hygienic true in
def bbm(hc:PT X c (tQ nm W X.K c'))(ht:R9 X ts (tSs nm W X.K G))(hf:R9 X fs (tSs nm W X.K J)):PS X (.If c ts fs pos) (tS nm W X.K (.iff c' G J)):=
 PS.of (a9v hc ht hf) λD σ H ι y M L Y U S R e q=>by
  rw[MW.a1i]at e;obtain⟨x,u,e1,e⟩:=fj e;cases x<;>try cases e
  rename_i k;refine Zb S R e1 λZ H1 le C R1=>?_
  cases k with
  |true=>exact⟨Z,y,u,L,Y,U,C,R1,e,q.mono le⟩|false=>exact⟨Z,y,u,L,Y,U,C,R1,e,q.mono le⟩
def a4r:R9 X [] (tSs nm W X.K .nil):=R9.of avw λD G H Z ρ M fl U L S R e q=>by rw[MW.au9]at e;cases e;exact q Z H G (Le.refl _ _) S R
def awv{G:List Stmt}(h1:PS X st (tS nm W X.K qv))(h2:R9 X G (tSs nm W X.K rest')):R9 X (st::G) (tSs nm W X.K (.cons qv rest')):=
 R9.of (apx h1 h2) λD σ H ι ρ M fl qk M' S R e q=>by
  rw[MW.aoj]at e;obtain⟨⟨L,qq⟩,M1,e1,e⟩:=fj e;refine⟨ι,ρ,M,L,qq,M1,S,R,e1,λZ H1 U le S1 R1=>?_⟩;cases L with
  |next=>exact⟨Z,qq,M1,fl,qk,M',S1,R1,e,q.mono le⟩|brk=>cases e;exact q Z H1 U le S1 R1|cont=>cases e;exact q Z H1 U le S1 R1|ret d=>cases e;exact q Z H1 U le S1 R1
set_option tactic.hygienic true in
def bbn(hp:PassesOwn (model X.prog X.w) X.A X.env X.xe)(hc:PT X c (tQ nm W X.K c'))(hb:R9 X body (tSs nm W X.K Xu)):PS X (.While c body [] pos) (tS nm W X.K (.whl c' Xu)):=
 PS.of (ap0 hp hc hb) λD σ H ι ρ M fl qk M' S R e q=>by
  rw[MW.agy]at e;refine⟨λm y H1=>∃J U M1,Le ι H J H1/\j9 nm X.K J H1 M1/\u5 X.K J H1 U y/\MW.Fo (c'.den W) (Xu.den W) m U M1=.ok (fl,qk) M',⟨MW.ak5,ι,ρ,M,Le.refl _ _,S,R,e⟩,?_⟩;rintro m y H1 ⟨J,U,M1,Vv,S1,R1,Y⟩;cases m with
  |zero=>cases Y
  |succ m =>
   simp only[MW.Fo]at Y;obtain⟨x,M2,e2,Y⟩:=fj Y;cases x<;>try cases Y
   rename_i k;refine Zb S1 R1 e2 λqq H2 zb S2 R2=>?_
   cases k with
   |false=>cases Y;exact q qq H2 y (Vv.trans zb) S2 R2
   |true =>
    obtain⟨⟨qv,L⟩,M3,e3,Y⟩:=fj Y;refine⟨λG u=>∃Z q0 M4,Le ι H Z u/\j9 nm X.K Z u M4/\u5 X.K Z u q0 G/\MW.Fo (c'.den W) (Xu.den W) m q0 M4=.ok (fl,qk) M',λG u h4=>⟨m,qw _,h4⟩,qq,U,M2,qv,L,M3,S2,R2,e3,λZ u G C S4 R4=>?_⟩;cases qv with
    |next=>exact⟨Z,L,M3,(Vv.trans zb).trans C,S4,R4,Y⟩|cont=>exact⟨Z,L,M3,(Vv.trans zb).trans C,S4,R4,Y⟩|brk=>cases Y;exact q Z u G ((Vv.trans zb).trans C) S4 R4|ret d=>cases Y;exact q Z u G ((Vv.trans zb).trans C) S4 R4
def aqw(nm:Nm)(K:Fg)(ι:Io)(H:Hp)(s:Src)(J:It):Prop:=∀Z G U,LeX ι H Z G->j9 nm K Z G U ->
 (∀i d,i<s.len->s.item i U=some d->J.go i G/\∀v L,J.yld i G v L->Le Z G Z L/\j9 nm K Z L U/\Rep K Z L d v)/\(s.fin U=true->J.stop s.len G)
def tI(U:Nm)(W:G9)(K:Fg)(it:Ka):TI:=fun σ H R=>∃L ρ M s M',j9 U K L H M/\u5 K L H ρ σ/\it.den W ρ M=.ok s M'/\∀Z G J,Le L H Z G->j9 U K Z G M'->aqw U K Z G s J->R J G
set_option tactic.hygienic true in
def bbp(hp:PassesOwn (model X.prog X.w) X.A X.env X.xe)(hc:X.calm=true)(hi:PI X tg iter (tI nm W X.K it))(hg:PG X tg (tGt nm X.K t))(hb:R9 X body (tSs nm W X.K Xu))(hs:G6 iter=true):PS X (.For tg iter body [] pos) (tS nm W X.K (.for_ t it Xu)):=
 PS.of (a3j hp hc hi hg hb (Dy hs X.env)) λD σ H ι ρ M fl G M' S R e q=>by
  rw[MW.Tv]at e;obtain⟨s,M1,e1,e⟩:=fj e;refine⟨ι,ρ,M,s,M1,S,R,e1,λqq H1 J Vv S1 sj=>?_⟩;refine⟨λi m qv H2=>m=s.len-i/\i<=s.len/\∃Y y M2,Le qq H1 Y H2/\j9 nm X.K Y H2 M2/\u5 X.K Y H2 y qv/\MW.Cw s.fin s.item (λd ρ M=>match t.put d ρ with|some G=>Xu.den W G M|none=>.bad) m i y M2=.ok (fl,G) M',
   ⟨s.len,rfl,iy _,qq,ρ,M1,Le.refl _ _,S1,R.mono Vv,e⟩,?_⟩
  rintro i m qv H2 ⟨hm,q6,Y,y,M2,zb,S2,R2,U⟩;obtain⟨go,q1⟩:=sj Y H2 M2 zb.toX S2;cases m with
  |zero =>
   simp only[MW.Cw]at U;split at U<;>cases U;rename_i Qi;have hi:i=s.len:=by lia
   subst hi;exact .inl ⟨q1 Qi,q Y H2 qv (Vv.trans zb) S2 R2⟩
  |succ m =>
   simp only[MW.Cw]at U;split at U
   .cases U
   .rename_i d hd
    obtain⟨⟨q3,qk⟩,M3,e3,U⟩:=fj U;obtain⟨g1,g2⟩:=go i d (by omega) hd;refine .inr ⟨g1,λC H4=>∃Z u M4,Le qq H1 Z H4/\j9 nm X.K Z H4 M4/\u5 X.K Z H4 u C/\MW.Cw s.fin s.item (λd ρ M=>match t.put d ρ with|some G=>Xu.den W G M|none=>.bad) m (i+1) u M4=.ok (fl,G) M',
     λC H4 ⟨Z,u,M4,h4⟩=>⟨m,qw _,by omega,by omega,Z,u,M4,h4⟩,λv H3 yv=>?_⟩
    obtain⟨q0,S3,r3⟩:=g2 v H3 yv;split at e3
    .rename_i q2 q4
     refine⟨Y,y,M2,d,q2,S3,R2.mono q0,r3,q4,λq7 R5 _ _=>⟨Y,q2,M2,q3,qk,M3,S3,R5,e3,λZ H4 C q5 S4 R4=>?_⟩⟩;have L:=(zb.trans q0).trans q5;cases q3 with
     |next=>exact⟨Z,qk,M3,L,S4,R4,U⟩|cont=>exact⟨Z,qk,M3,L,S4,R4,U⟩|brk=>cases U;exact q Z H4 C (Vv.trans L) S4 R4|ret d=>cases U;exact q Z H4 C (Vv.trans L) S4 R4
    .cases e3
section
variable{nm:Nm}{W:G9}{X:Cx}{a b c:Expr}{a' b' c':Ex}{pos pos':Pos}{ι:Io}{H:Hp}{σ:St}{ρ:En}{M M1 M2:di}{x y:Dv}{es:X0}{es':Cv}{tg iter elt:Expr}
def PI.weak(h:PI X tg iter G)(w:∀σ H R,wi' σ H R->G σ H R):PI X tg iter wi':=λZ s σ H R I q=>h Z s σ H R I (w σ H R q)
def PI.of(h:PI X tg iter wi)(w:∀σ H L ι ρ M s G,j9 nm X.K ι H M->u5 X.K ι H ρ σ->it.den W ρ M=.ok s G->(∀Z U J,Le ι H Z U->j9 nm X.K Z U G->aqw nm X.K Z U s J->L J U)->wi σ H L):PI X tg iter (tI nm W X.K it):=
 PI.weak h fun σ H L z_=>by obtain⟨ι,ρ,M,s,G,S,R,e,q⟩:=z_;exact w σ H L ι ρ M s G S R e q
def a4s(hl:PE X l tl):PI X tg l (fun σ H R=>tl σ H λx U=>∃a,x=.ref a/\((∃xs,Ie X.K U a xs)/\R (Itl X.K a) U\/(∃xs,Lq X.K U a xs)/\R (Itt X.K a) U)):=by
 intro L s σ H R I h;refine Bf (hl L s σ H _ I h) λv Z z_=>?_
 obtain⟨x,U,G,r1,q1⟩:=z_;obtain⟨a,e,⟨⟨xs,hq⟩,q⟩|⟨⟨xs,hq⟩,q⟩⟩:=q1
 .subst e
  cases r1;obtain⟨xq,rv,p,hz⟩:=G.list hq;refine wpAny_pyIter_list p.isList ?_;refine⟨Z.heap.objs.size,[Z.heap.objs.size],_,_,U,rfl,G.kept (t':=Z.toks) λb o e=>ao _ e,alq a _,⟨_,bu _ rfl,rfl,rfl⟩,λb hb=>?_,q⟩;have e:b=Z.heap.objs.size:=by simpa using hb
  subst e;exact G.ap1 (cg _) (G.Ad.fresh (cg _))
 .subst e
  cases r1;obtain⟨xq,rv,p,hz⟩:=G.tuple hq;refine wu (show Z.heap.IsTuple a xq.toArray from p) ?_;refine⟨Z.heap.objs.size,[Z.heap.objs.size],_,_,U,rfl,G.kept (t':=Z.toks) λb o e=>ao _ e,ahb a _,⟨_,bu _ rfl,rfl,rfl⟩,λb hb=>?_,q⟩;have e:b=Z.heap.objs.size:=by simpa using hb
  subst e;exact G.ap1 (cg _) (G.Ad.fresh (cg _))
def aaf{p:Addr}{ds:List Dv}{s:Src}(hs:∀Z U M1,LeX ι H Z U->j9 nm X.K Z U M1->(∀i d,s.item i M1=some d->∃G v,U p=some (.lst G)/\G[i]?=some v/\Rep X.K Z U d v)/\(s.fin M1=true->∃G,U p=some (.lst G)/\G.length<=s.len)) :
 aqw nm X.K ι H s (Itl X.K p):=λZ U M1 le S1=>by
 obtain⟨a,b⟩:=hs Z U M1 le S1;refine⟨λi d hi hd=>?_,λhf=>?_⟩
 .obtain⟨G,v,L,h2,h3⟩:=a i d hd
  refine⟨⟨G,v,Ie.of L,h2⟩,λu H2 ⟨e,y⟩=>?_⟩;subst e;have:=y G (Ie.of L);rw[h2]at this;cases this;exact⟨Le.refl _ _,S1,h3⟩
 .obtain⟨G,L,h2⟩:=b hf
  exact⟨G,Ie.of L,h2⟩
set_option tactic.hygienic true in
def bbq(ha:PE X a (tE nm W X.K a')):PI X tg a (tI nm W X.K (.val a')):=
 PI.of (a4s ha) fun σ H R' ι ρ M s M' S R e q=>by
  rw[MW.Ii]at e;obtain⟨x,M1,e1,e⟩:=fj e;obtain⟨e,rfl⟩:=xj e;refine one S R e1 λU H1 v le S1 R1 r=>?_
  cases r with
  |@tup p Z J h1 r1 =>
   simp only[MW.srcOf]at e;cases e;refine⟨p,rfl,.inr ⟨⟨J,Lq.of h1⟩,q U H1 _ le S1 λqq H2 M2 G S2=>⟨λi d hi Y=>?_,λ_=>⟨J,Lq.of (G.tup _ _ h1),by rw[<-r1.length];exact cg _⟩⟩⟩⟩;have Y:Z[i]?=some d:=Y;obtain⟨v,L,g2⟩:=(r1.Iw G).get Y;refine⟨⟨J,v,Lq.of (G.tup _ _ h1),L⟩,λu H3 ⟨ee,yy⟩=>?_⟩;subst ee;have:=yy J (Lq.of (G.tup _ _ h1));rw[L]at this;cases this;exact⟨Le.refl _ _,S2,g2⟩
  |@vl p Z J h1 n1 r1 =>
   simp only[MW.srcOf]at e;cases e;refine⟨p,rfl,.inl ⟨⟨J,Ie.of h1⟩,q U H1 _ le S1 (aaf (ds:=Z) λqq H2 M2 G S2=>⟨λi d Y=>?_,λ_=>⟨J,G.lst _ _ n1.1 h1,by rw[<-r1.length];exact cg _⟩⟩)⟩⟩;have Y:Z[i]?=some d:=Y;obtain⟨v,L,g2⟩:=(r1.Iw G).get Y;exact⟨J,v,G.lst _ _ n1.1 h1,L,g2⟩
  |@ref n p h1 =>
   simp only[MW.srcOf]at e;obtain⟨Z,hn,rfl⟩:∃Z,M'[n]?=some (.lst Z)/\s=.live n Z.length:=by
    split at e
    .rename_i Z hn;cases e;exact⟨Z,hn,rfl⟩
    .cases e
   obtain⟨J,L,g2⟩:=S1.obj n _ p hn h1;refine⟨p,rfl,.inl ⟨⟨J,Ie.of L⟩,q U H1 _ le S1 (aaf (ds:=Z) λqq H2 M2 G S2=>⟨λi d Y=>?_,λhf=>?_⟩)⟩⟩
   .simp only[Src.item]at Y
    split at Y
    .rename_i qk Yy
     split at Y
     .obtain⟨C,k1,k2⟩:=S2.obj n _ p Yy (G.get h1)
      obtain⟨v,k3,k4⟩:=k2.get Y;exact⟨C,v,k1,k3,k4⟩
     .cases Y
    .cases Y
   .simp only[Src.fin]at hf
    split at hf
    .rename_i qk Yy
     obtain⟨C,k1,k2⟩:=S2.obj n _ p Yy (G.get h1);refine⟨C,k1,?_⟩;rw[<-k2.length];have:qk.length=Z.length:=by simpa using hf
     rw[this];exact cg _
    .cases hf
  |_=>simp[MW.srcOf]at e
set_option tactic.hygienic true in
def bbr(C:Gl X "range")(hm:X.mg "range"= none)(ha:PE X a (tE nm W X.K a'))(J:noStar a=true):PI X tg (.Call (.Name "range" pr) [a] [] pos) (tI nm W X.K (.Th a')):=
 PI.of (alr C hm (Oi ha Vh (km J _ _)) (km J _ _)) fun σ H R' ι ρ M s M' S R e q=>by
  rw[MW.Ri]at e;obtain⟨x,M1,e1,e⟩:=fj e;refine Xq (es':=.cons a' .nil) (ds:=[x]) (M1:=M1) S R (by rw[MW.Hg,e1];simp) λY H1 vs le S1 R1 r=>?_
  obtain⟨i,hx⟩:∃i,x=.int i:=by cases x<;>first|exact⟨_,rfl⟩|cases e
  subst hx;have e:(if i.natAbs<=100000 then Res.ok (Src.con ((List.range i.toNat).map λ(k:Nat)=>MW.D.int (k:Int))) M1 else .bad)=.ok s M':=e;split at e<;>cases e;rename_i hi;cases r with
  |cons r1 r2 =>
   cases r1;cases r2;refine⟨i,rfl,by lia,by omega,q Y H1 _ le S1 λL H2 M2 zb S2=>⟨λj d U Z=>?_,λ_=>?_⟩⟩
   .have G:j<i.toNat:=by simpa[Src.len]using U
    have Z:((List.range i.toNat).map λ(k:Nat)=>MW.D.int (k:Int))[j]?=some d:=Z;rw[dm,lq G]at Z;have Z:MW.D.int (j:Int)=d:=by simpa using Z
    subst Z;refine⟨G,λu H3 ⟨ee,yy⟩=>?_⟩;subst ee yy;exact⟨Le.refl _ _,S2,by rw[Int.zero_add];exact .int _⟩
   .show i.toNat<=_
    simp[Src.len]
def al9(R:u5 K ι H ρ σ):u5 K ι H (ρ++List.replicate k none) (σ++List.replicate k none):=R.append (u5.aqq k (by simp))
def aqx{Z:St}(L:σ.length=n)(U:∀i∈Bl t,n<=i)(h:∀j,j∉Bl t->Z[j]?=(σ++List.replicate k none)[j]?):∀(j:Nat) v,(σ++List.replicate k none)[j]?=some (some v)->Z[j]?=some (some v):=λj v e=>by
 by_cases G:j∈Bl t
 .have:=U j G
  rw[o6 (a_ (f_ L) this),List.getElem?_replicate]at e;split at e<;>simp at e
 .rw[h j G];exact e
noncomputable def az2(o:Option Dv):List Dv:=match o with|some x=>[x]|none=>[]
set_option tactic.hygienic true in
def aex(h:MW.Ce fin item body (k+1) i M=.ok ds Z) :
 ∃d o M1 rest,item i M=some d/\body d M=.ok o M1/\MW.Ce fin item body k (i+1) M1=.ok rest Z/\ds=az2 o++rest:=by
 simp only[MW.Ce]at h;split at h
 .cases h
 .rename_i d G
  obtain⟨o,M1,Y,h⟩:=fj h;obtain⟨rest,M2,J,h⟩:=fj h;cases h;exact⟨d,o,M1,rest,G,Y,J,by cases o<;>rfl⟩
def nq.snoc(r:nq K ι H ds Z)(h:Rep K ι H d v):nq K ι H (ds++[d]) (Z++[v]):=r.append (.cons h .nil)
set_option tactic.hygienic true in
def V8(e:MW.yt s body M1=.ok ds M2):s.len<=100000/\MW.Ce s.fin s.item body s.len 0 M1=.ok ds M2:=by
 unfold MW.yt at e;split at e
 .rename_i Z
  exact⟨Z,e⟩
 .cases e
def ama(h:(Ex.comp k t it L).den W ρ M=.ok d M'):∃s M1 Z M2,it.den W ρ M=.ok s M1/\s.len<=100000 /\
 MW.Ce s.fin s.item (λd M=>match t.put d (ρ++List.replicate k none)with|some G=>(L.den W G M).bind λx M'=>.ok (some x) M'|none=>.bad) s.len 0 M1=.ok Z M2/\Res.ok (MW.D.vl Z) M2=.ok d M':=by
 rw[MW.Mm]at h;obtain⟨s,M1,e1,h⟩:=fj h;obtain⟨Z,M2,U,h⟩:=fj h;exact⟨s,M1,Z,M2,e1,(V8 U).1,(V8 U).2,h⟩
def BodyOk(nm:Nm)(K:Fg)(G:St)(tc:TT)(te:TE)(L:En)(M:di)(o:Option Dv)(M':di):Prop:=∀ι H (G1:V->Hp->Prop) (G0:Hp->Prop),j9 nm K ι H M->u5 K ι H L G ->
 (∀Z U v,Le ι H Z U->j9 nm K Z U M'->(match o with|some x=>Rep K Z U x v->G1 v U|none=>G0 U))->tc G H λb H3=>if b=true then te G H3 λv H4=>G1 v H4 else G0 H3
set_option tactic.hygienic true in
def aag{N:X9}(hk:N.length-X.N.length=k)(ho:∀i∈Bl t,X.N.length<=i)(z3:σ.length=X.N.length)(S:j9 nm X.K ι H M)(R:u5 X.K ι H ρ σ)(e1:it.den W ρ M=.ok s M1)(zz:s.len<=100000)(e2:MW.Ce s.fin s.item body s.len 0 M1=.ok ds M')(ek:Res.ok (MW.D.vl ds) M'=.ok d0 M0)(q:∀q2 H' v,Le ι H q2 H'->j9 nm X.K q2 H' M0->Rep X.K q2 H' d0 v->Q v H')(hb:∀d M2 o M3,body d M2=.ok o M3->∃qv,t.put d (ρ++List.replicate k none)=some qv/\∀q4,BodyOk nm X.K q4 tc te qv M2 o M3):aet (N.length-X.N.length) (tI nm W X.K it) (tGt nm X.K t) tc te σ H Q:=by
 refine⟨ι,ρ,M,s,M1,S,R,e1,λG H1 J Vv S1 sj D hD=>?_⟩;rw[hk];refine⟨λi m H2=>m=s.len-i/\i<=s.len/\∃Z M2 acc vs L,LeD D G H1 (Io.hide Z D) H2/\j9 nm X.K (Io.hide Z D) H2 M2/\H2 D=some (.lst vs)/\nq X.K (Io.hide Z D) H2 acc vs/\acc.length<=i /\
  MW.Ce s.fin s.item body m i M2=.ok L M'/\ds=acc++L,?_,?_⟩
 .exact⟨s.len,rfl,iy _,G,M1,[],[],ds,LeD.start hD _,S1.hide hD,wz,.nil,cg _,e2,rfl⟩
 .rintro i m H2 ⟨hm,z0,Z,M2,acc,vs,L,zb,S2,q8,q1,Dc,e3,q0⟩
  have q6:Le G H1 Z H2:=LeD.done zb;have z2:Z.δ=G.δ:=q6.del;have zv:Z.off D:=⟨(S2.del D dh).1,λz=>by rw[z2]at z;exact(S1.fresh hD).2 z⟩;obtain⟨go,q5⟩:=sj (Io.hide Z D) H2 M2 (zb.toX hD) S2;cases m with
  |zero =>
   simp only[MW.Ce]at e3;split at e3<;>cases e3;rename_i Qi;refine hG λ_ _k=>?_
   have hi:i=s.len:=by lia
   subst hi;rw[xr]at q0;subst q0;cases ek;apply _k;exact .inl ⟨q5 Qi,q Z H2 _ (Vv.trans q6) S2.show (.vl q8 zv q1.show)⟩
  |succ m =>
   refine hG λ_ _k=>?_
   obtain⟨d,o,M3,U,h1,h2,h3,h4⟩:=aex e3;obtain⟨g1,g2⟩:=go i d (by lia) h1;apply _k;refine .inr ⟨g1,λv H3 yv=>?_⟩;refine hG λ_ _k=>?_
   obtain⟨qq,S3,r3⟩:=g2 v H3 yv;obtain⟨qv,z1,zk⟩:=hb d M2 o M3 h2;have R3:u5 X.K (Io.hide Z D) H3 ρ σ:=((R.mono Vv).Iw (zb.toX hD)).mono qq;apply _k;refine⟨Io.hide Z D,ρ++List.replicate k none,M2,d,qv,S3,al9 R3,r3,z1,λq4 R5 l5 k5=>⟨l5,aqx z3 ho k5,?_⟩⟩;have zw:=qq.lst D vs (S2.del D dh).1 q8;refine zk q4 (Io.hide Z D) H3 _ _ S3 R5 (λY H6 u qk S6=>by
    have C:=qk.lst D vs (S2.del D dh).1 zw;have q3:LeD D G H1 Y H6:=(zb.go qq).go qk;have ei:Y=Io.hide ⟨Y.l,Z.δ⟩ D:=by have:=qk.del;obtain⟨l6,z4⟩:=Y;simp only[Io.hide]at this⊢;rw[this]
    rw[ei]at q3 S6;have q7:nq X.K (Io.hide ⟨Y.l,Z.δ⟩ D) H6 acc vs:=by rw[<-ei];exact(q1.mono qq).mono qk
    cases o with
    |none =>
     refine⟨m,qw _,by lia,by lia,⟨Y.l,Z.δ⟩,M3,acc,vs,U,q3,S6,C,q7,a_ Dc x_,h3,?_⟩;rw[q0,h4];rfl
    |some x =>
     intro r6;rw[ei]at r6;have Ib:D∈(Io.hide ⟨Y.l,Z.δ⟩ D).δ:=dh;refine⟨vs,m,C,?_,qw _,by lia,by lia,⟨Y.l,Z.δ⟩,M3,acc++[x],vs++[u],U,q3.grow hD C,S6.grow C Ib,wz,(q7.snoc r6).tr (aji C Ib),by simp;exact Dc,h3,?_⟩
     .rw[<-q1.length]
      exact Bd (gb Dc (gb z0 zz)) (by decide)
     .rw[q0,h4];simp[az2])
set_option tactic.hygienic true in
def aah{N:X9}(hk:N.length-X.N.length=k)(ho:∀i∈Bl t,X.N.length<=i):∀σ H Q,σ.length=X.N.length->tE nm W X.K (.comp k t it e') σ H Q ->
 aet (N.length-X.N.length) (tI nm W X.K it) (tGt nm X.K t) (λ_ H Q=>Q true H) (tE nm W X.K e') σ H Q:=fun σ H Q L hh=>by
 obtain⟨ι,ρ,M,d,M',S,R,e,q⟩:=hh;obtain⟨s,M1,ds,M2,e1,Y,e2,ek⟩:=ama e;refine aag hk ho L S R e1 Y e2 ek q λd M2 o M3 Z=>?_
 split at Z
 .rename_i U C
  obtain⟨x,M4,e5,Z⟩:=fj Z;cases Z;refine⟨U,C,λqk qq H5 G1 G0 S5 R5 g=>?_⟩;show if true=true then _ else _
  rw[bz rfl];exact one (X:=X) S5 R5 e5 λG H6 u J S6 R6 r6=>g G H6 u J S6 r6
 .cases Z
def aey(h:(Ex.Bo k t it c' e').den W ρ M=.ok d M'):∃s M1 G M2,it.den W ρ M=.ok s M1/\s.len<=100000 /\
 MW.Ce s.fin s.item (λd M=>match t.put d (ρ++List.replicate k none)with|some Z=>(c'.den W Z M).bind λb M'=>(match b with|.bl true=>(e'.den W Z M').bind λx U=>.ok (some x) U|.bl false=>.ok none M'|_=>.bad)|none=>.bad) s.len 0 M1=.ok G M2/\Res.ok (MW.D.vl G) M2=.ok d M':=by
 rw[MW.Wr]at h;obtain⟨s,M1,e1,h⟩:=fj h;obtain⟨G,M2,L,h⟩:=fj h;exact⟨s,M1,G,M2,e1,(V8 L).1,(V8 L).2,h⟩
set_option tactic.hygienic true in
def Vk{N:X9}(hk:N.length-X.N.length=k)(ho:∀i∈Bl t,X.N.length<=i):∀σ H Q,σ.length=X.N.length->tE nm W X.K (.Bo k t it c' e') σ H Q ->
 aet (N.length-X.N.length) (tI nm W X.K it) (tGt nm X.K t) (tQ nm W X.K c') (tE nm W X.K e') σ H Q:=fun σ H Q qv hh=>by
 obtain⟨ι,ρ,M,d,M',S,R,e,q⟩:=hh;obtain⟨s,M1,ds,M2,e1,J,e2,ek⟩:=aey e;refine aag hk ho qv S R e1 J e2 ek q λd M2 o M3 Z=>?_
 split at Z
 .rename_i U qk
  obtain⟨x,M4,e5,Z⟩:=fj Z;refine⟨U,qk,λq1 q0 H5 G1 G0 S5 R5 g=>?_⟩;split at Z
  .obtain⟨y,M6,e6,Z⟩:=fj Z
   cases Z;refine Zb (X:=X) S5 R5 e5 λG H6 Y C R6=>?_
   rw[bz rfl];exact one (X:=X) C R6 e6 λqq H7 u L S7 R7 r7=>g qq H7 u (Y.trans L) S7 r7
  .cases Z
   refine Zb (X:=X) S5 R5 e5 λG H6 Y C R6=>?_
   rw[bc (by simp)];exact g G H6 .non Y C
  .cases Z
 .cases Z
def PE.aez(h:PE X e t)(w:∀σ H Q,σ.length=X.N.length->t' σ H Q->t σ H Q):PE X e t':=λZ s σ H Q I q=>h Z s σ H Q I (w σ H Q I.len q)
def PS.aez(h:PS X st t)(w:∀D σ H,σ.length=X.N.length->t' D σ H->t D σ H):PS X st t':=λZ s σ H D I q=>h Z s σ H D I (w D σ H I.len q)
def a4v(B:G7 X N scope)(Iv:X.calm=true)(hi:PI X tg iter (tI nm W X.K it))(hg:∀C Z s H,PG (Lz X N scope C Z s H) tg (tGt nm X.K t))(G:∀C Z s H,PE (Lz X N scope C Z s H) elt (tE nm W X.K e'))(L:G6 iter=true)(U:N.length-X.N.length=k)(ho:∀i∈Bl t,X.N.length<=i):PE X (.ListComp elt [⟨tg,iter,[],0⟩] scope pos) (tE nm W X.K (.comp k t it e')):=
 PE.aez (ajg B Iv hi hg (λ_ _ _ _=>.inl ⟨rfl,rfl⟩) G (Dy L X.env)) (aah U ho)
def aqy(B:G7 X N scope)(Iv:X.calm=true)(hi:PI X tg iter (tI nm W X.K it))(hg:∀C Z s H,PG (Lz X N scope C Z s H) tg (tGt nm X.K t))(hc:∀C Z s H,PT (Lz X N scope C Z s H) c (tQ nm W X.K c'))(G:∀C Z s H,PE (Lz X N scope C Z s H) elt (tE nm W X.K e'))(L:G6 iter=true)(U:N.length-X.N.length=k)(ho:∀i∈Bl t,X.N.length<=i):PE X (.ListComp elt [⟨tg,iter,[c],0⟩] scope pos) (tE nm W X.K (.Bo k t it c' e')):=
 PE.aez (ajg B Iv hi hg (λ_ _ _ _=>.inr ⟨c,rfl,hc _ _ _ _⟩) G (Dy L X.env)) (Vk U ho)
def ae0(h:∀σ H Q,σ.length=X.N.length->tE nm W X.K e' σ H Q->tt σ H Q):∀D σ H,σ.length=X.N.length->tS nm W X.K (.asg (.tg (.name i)) e') D σ H->a3h tt (ai8 i) D σ H:=λD σ H G hh=>by obtain⟨ι,ρ,M,fl,qk,M',S,R,e,q⟩:=hh;rw[MW.aa5]at e;obtain⟨x,M1,e1,e⟩:=fj e;obtain⟨qq,M2,U,e⟩:=fj e;cases e;rw[MW.aol]at U;obtain⟨e3,e4⟩:=xj U;subst e4;cases e3;exact h σ H _ G (one S R e1 λZ L v le S1 R1 r=>q Z L _ le S1 (R1.set r i))
def amb{y:Str}(B:G7 X N scope)(Iv:X.calm=true)(hi:PI X tg iter (tI nm W X.K it))(hg:∀C G s H,PG (Lz X N scope C G s H) tg (tGt nm X.K t))(L:∀C G s H,PE (Lz X N scope C G s H) elt (tE nm W X.K e'))(hs:G6 iter=true)(hk:N.length-X.N.length=k)(ho:∀i∈Bl t,X.N.length<=i)(hN:X.N.Nodup)(U:X.N[i]?=some y)(hl:X.env.scope.names.lookup y=some .local)(Z:swapsWith (.ListComp elt [⟨tg,iter,[],0⟩] scope pos) (some (.Name y py)) aqp.line X.env=pure true):PS X (.Assign [.Name y py] (.ListComp elt [⟨tg,iter,[],0⟩] scope pos) aqp) (tS nm W X.K (.asg (.tg (.name i)) (.comp k t it e'))):=
 PS.aez (ajh B Iv hi hg (λ_ _ _ _=>.inl ⟨rfl,rfl⟩) L (Dy hs X.env) hN U hl Z) (ae0 (aah hk ho))
def ae1{y:Str}(B:G7 X N scope)(Iv:X.calm=true)(hi:PI X tg iter (tI nm W X.K it))(hg:∀C Z s H,PG (Lz X N scope C Z s H) tg (tGt nm X.K t))(hc:∀C Z s H,PT (Lz X N scope C Z s H) c (tQ nm W X.K c'))(L:∀C Z s H,PE (Lz X N scope C Z s H) elt (tE nm W X.K e'))(hs:G6 iter=true)(hk:N.length-X.N.length=k)(ho:∀i∈Bl t,X.N.length<=i)(hN:X.N.Nodup)(U:X.N[i]?=some y)(hl:X.env.scope.names.lookup y=some .local)(G:swapsWith (.ListComp elt [⟨tg,iter,[c],0⟩] scope pos) (some (.Name y py)) aqp.line X.env=pure true):PS X (.Assign [.Name y py] (.ListComp elt [⟨tg,iter,[c],0⟩] scope pos) aqp) (tS nm W X.K (.asg (.tg (.name i)) (.Bo k t it c' e'))):=
 PS.aez (ajh B Iv hi hg (λ_ _ _ _=>.inr ⟨c,rfl,hc _ _ _ _⟩) L (Dy hs X.env) hN U hl G) (ae0 (Vk hk ho))
end
def spF(nm:Nm)(W:G9)(K:Fg)(n f:Nat):Sp:=λvs H Q _=>∃L M U d M',j9 nm K L H M/\nq K L H U vs/\U.length=n/\W.call f U M=.ok d M'/\∀Z G v,Le L H Z G->j9 nm K Z G M'->Rep K Z G d v->Q v G
def s_call(F:Ff X.prog X.w X.K X.mg X.base CX0 k fa fd ps (spF nm W X.K n f))(hr:zp k X.A)(hg:Gl X x)(hm:X.mg x=some (.ref fa))(hk:PySem.W.keepIn X.K (.ref fa)=true)(hb:Binds X.K fd ps [])(G:Cv.len Z=n)(ha:PA X (a::U) (Vu nm W X.K Z))(Q4:(x==("__debug__": Str))=false)(he:starEach (a::U) X.env=(false,eval a X.env)::starEach U X.env)(Hz:(backTo pos (starEach U X.env)).any (·.1)=false) :
 PE X (.Call (.Name x p) (a::U) [] pos) (tE nm W X.K (.call f Z)):=
 PE.of (av7 (E:=E0) F hr hg hm hk hb .nil ajf ha Q4 he Hz) fun σ H Q ι ρ M d M' S R e q=>by
  rw[MW.aoe]at e;obtain⟨ds,M1,e1,e⟩:=fj e;refine Xq S R e1 λL H1 vs le S1 R1 r=>?_
  rw[xr];exact⟨L,M1,ds,d,M',S1,r,(Gb e1).trans G,e,λqq H' v V7 S' r'=>q qq H' v (le.trans V7) S' r'⟩
def a4w(q2:Mk X.K C fa)(F:Ff X.prog X.w X.K X.mg X.base CX0 k fa fd ps (spF nm W X.K (n+1) f))(hr:zp (k+1) X.A)(hg:Gl X x)(hm:X.mg x=some (.ref C))(hb:Binds X.K fd ps [])(q3:W.cls[L]?=some cl)(q0:cl.init=f)(q4:nm.cls L=some C)(qk:Cv.len qq=n)(ha:PA X (a::es) (Vu nm W X.K qq))(Q4:(x==("__debug__": Str))=false)(he:starEach (a::es) X.env=(false,eval a X.env)::starEach es X.env)(Hz:(backTo pos (starEach es X.env)).any (·.1)=false) :
 PE X (.Call (.Name x p) (a::es) [] pos) (tE nm W X.K (.make L qq)):=
 PE.of (av9 (E:=E0) q2 F hr hg hm hb .nil ajf ha Q4 he Hz) fun σ H Q ι ρ M d M' S R e q=>by
  rw[MW.aof]at e;obtain⟨ds,G,e1,e⟩:=fj e;rw[q3]at e;have e:((W.call cl.init (.ref G.length::ds) (G++[.ins L []])).bind λr M2=>match r with|.non=>.ok (.ref G.length) M2|_=>.bad)=.ok d M':=e;obtain⟨r0,M2,e2,e⟩:=fj e;refine Xq S R e1 λZ H1 vs le S1 R1 r=>λp U hp qv Q3=>?_
  rw[xr];have keep:∀a u,H1 a=some u->upd (upd H1 U (.own p)) p (.ins C U []) a=some u:=λa u e=>by rw[j0 (mj e hp),j0 (mj e qv)];exact e
  obtain⟨S2,zb⟩:=S1.new (o:=.ins L []) hp keep λ_=>⟨C,U,[],q4,wz,.nil⟩
  have rp:Rep X.K (Z.add p) (upd (upd H1 U (.own p)) p (.ins C U [])) (.ref G.length) (.ref p):=.ref (by show(Z.l++[p])[G.length]?=some p;rw[<-S1.len];simp);refine⟨Z.add p,G++[.ins L []],.ref G.length::ds,r0,M2,S2,.cons rp (r.mono zb),by rw[gq,Gb e1,qk],by rw[<-q0];exact e2,λq1 H' v V7 S' r'=>?_⟩;cases r'<;>try cases e
  exact⟨rfl,q q1 H' _ (le.trans (zb.trans V7)) S' (rp.mono V7)⟩
theorem Xv{G:Nm}{L:Io}{H:Hp}{m:Str}{K:Fg}(Z:∀i,G.fld i≠m):∀{fs:List (Nat×Dv)}{l:List (Str×V)},t8 K L H (λk U=>U=G.fld k) fs l->l.lookup m=none
 |_,_,.nil=>rfl
 |_,_,.cons (k:=kk) (k':=kk') hk h t=>by
  subst hk;rw[n6];have z:(m==G.fld kk)=false:=by
   cases z:m==G.fld kk with
   |false=>rfl|true=>exact absurd (eq_of_beq z).symm (Z kk)
  rw[z];exact Xv Z t
def a4x{L:Nm}{W:G9}{X:Cx}{a o:Expr}{o':Ex}{pos Z:Pos}{G:X0}{U:Cv}{k n f:Nat}{fa C:Addr}{fd:FuncData}{ps:X9}{m:Str}{mi ci:Nat}{cl:MW.Cl}{pl:Sem Bool}(ho:PE X o (tE L W X.K o'))(c0:Cls X.K C)(q2:Meth X.K C m fa)(F:Ff X.prog X.w X.K X.mg X.base CX0 k fa fd ps (spF L W X.K (n+1) f))(hr:zp k X.A)(hb:Binds X.K fd ps [])
 (q3:∀c' Zc,W.cls[c']?=some Zc->∀g,Zc.meths.lookup mi=some g->L.cls c'=some C/\g=f) (q4:∀i,L.fld i≠m)
 (qq:Cv.len U=n) (ha:PA X (a::G) (Vu L W X.K U)) (he:starEach (a::G) X.env=(false,eval a X.env)::starEach G X.env) (Hz:(backTo pos (starEach G X.env)).any (·.1)=false)
 (ht:eval (.Call (.Attribute o m Z) (a::G) [] pos) X.env=(do
  let ov<-eval o X.env
  standAt Z.atName
  let (f,first) <-holding [ov] (getMethod ov m pl)
  callWith pos f first (backTo pos (starEach (a::G) X.env)) (backToKw pos (keywordEach [] X.env)))) :
 PE X (.Call (.Attribute o m Z) (a::G) [] pos) (tE L W X.K (.meth o' mi U)):=
 PE.of (av8 (E:=E0) ho c0 q2 F hr hb .nil ajf ha he Hz ht) fun σ H Q ι ρ M d M' S R e q=>by
  rw[MW.Hi]at e;obtain⟨x,M1,e1,e⟩:=fj e;obtain⟨ds,M2,e2,e⟩:=fj e;refine one S R e1 λqk H1 v le S1 R1 r=>?_
  obtain⟨j,hx⟩:∃j,x=.ref j:=by cases x<;>first|exact⟨_,rfl⟩|cases e
  subst hx;obtain⟨p,rfl,hp⟩:∃p,v=.ref p/\qk.l[j]?=some p:=by cases r with|ref z=>exact⟨_,rfl,z⟩
  have e:(match M1[j]? with
   | some (.ins c _)=>(match(W.cls[c]?).bind λC=>C.meths.lookup mi with
    | some f=>W.call f (.ref j::ds) M2|none=>.bad)
   | _=>.bad)=Res.ok d M':=e
  cases hM:M1[j]? with
  |none=>rw[hM]at e;cases e
  |some ob =>
   rw[hM]at e;cases ob with
   |ins ci fs =>
    have e:(match(W.cls[ci]?).bind λC=>C.meths.lookup mi with|some f=>W.call f (.ref j::ds) M2|none=>.bad)=Res.ok d M':=e;cases hL:(W.cls[ci]?).bind λC=>C.meths.lookup mi with
    |none=>rw[hL]at e;cases e
    |some g =>
     rw[hL]at e;have e:W.call g (.ref j::ds) M2=.ok d M':=e;obtain⟨Zc,h1,h2⟩:=dw.mp hL;obtain⟨h3,rfl⟩:=q3 ci Zc h1 g h2;obtain⟨C',dx,l,g1,g2,g3⟩:=S1.obj j _ p hM hp;rw[h3]at g1;cases g1;have q1:l.lookup m=none:=Xv q4 g3;refine⟨p,dx,l,rfl,g2,q1,Xq S1 R1 e2 λqv H2 vs zb S2 R2 r2=>?_⟩;rw[xr];exact⟨qv,M2,.ref j::ds,d,M',S2,.cons (r.mono zb) r2,by rw[gq,Gb e2,qq],e,λq0 H' v V7 S' r'=>q q0 H' v ((le.trans zb).trans V7) S' r'⟩
   |_=>cases e
def a4z:PE X (.Dict [] [] pos) (tE nm W X.K .ade):=PE.of aqh fun σ H Q U ρ M d M' S R e q=>by
 rw[MW.aod]at e;cases e;intro p Z;obtain⟨G,L⟩:=S.new (o:=.dT []) (H':=upd H p (.dT [])) Z (λa u e=>by rw[j0 (mj e Z)];exact e) λ_=>⟨[],wz,.nil⟩
 exact q _ _ _ L G (.ref (by show(U.l++[p])[M.length]?=some p;rw[<-S.len];simp))
def bhk(L:Nm)(K:Fg):a3d:=λo i v H Q=>∃Z M x y d U,j9 L K Z H M/\Rep K Z H x o/\Rep K Z H y i/\Rep K Z H d v/\MW.setOp x y d M=some U/\∀G,Le Z H Z G->j9 L K Z G U->Q G
def Xw(h:n<100000):n<sizeLine:=il h Oh
theorem aqz:∀{Z:List Dv}{r:U1},MW.Ys Z=some r->Z=r.map MW.D.int
 |[],_,h=>by cases h;rfl
 |d::Z,r,h=>by
  cases d with
  |int i =>
   obtain⟨U,G,rfl⟩:=cz.mp (show(MW.Ys Z).map (i::·)=some r from h);rw[aqz G];rfl
  |_=>cases h
def a5a{d:Dv}(h:MW.toI d=some r):d=MW.tI r:=by
 cases d with
 |tup Z=>rw[aqz (show MW.Ys Z=some r from h)];rfl
 |_=>cases h
theorem ab6:∀{Z:List Dv}{k:List (List Int)},MW.Y0 Z=some k->Z=k.map MW.tI
 |[],_,h=>by cases h;rfl
 |d::Z,k,h=>by
  simp only[MW.Y0]at h;cases h1:MW.toI d with
  |none=>rw[h1]at h;cases h
  |some r =>
   cases h2:MW.Y0 Z with
   |none=>rw[h1,h2]at h;cases h
   |some G =>
    rw[h1,h2]at h;cases h;rw[a5a h1,ab6 h2];rfl
def aq0{d:Dv}(h:MW.toN d=some k):d=MW.tN k:=by
 cases d with
 |tup Z=>rw[ab6 (show MW.Y0 Z=some k from h)];rfl
 |_=>cases h
theorem ajl{X:Cx}{U:Io}{H:Hp}:∀{r:U1}{Z:List V}{G:Zl},nq X.K U H (r.map MW.D.int) Z->Vals Z G->ItemsAre (intKind X.prog X.w) r G
 |[],_,_,.nil,.nil=>.nil
 |i::r,_,_,.cons h t,.cons hv tv=>by
  cases h;obtain⟨L,rfl⟩:=hv;exact .cons (by simp[intKind,Value.isInt]) (ajl t tv)
def az4{X:Cx}(I:Inv X pins σ H s)(r:Rep X.K ι H (MW.tI k) (.ref a)):So.TI X.prog X.w s.heap k a:=by
 cases r with
 |tup e G =>
  obtain⟨xq,U,⟨o,L,Z,n',y3⟩,_⟩:=I.tuple (Lq.of e);exact⟨o,_,n',L,Z,y3,by simpa using ajl G U⟩
theorem aq1{X:Cx}(I:Inv X pins σ H s):∀{k:List (List Int)}{Z:List V}{G:Zl},nq X.K U H (k.map MW.tI) Z->Vals Z G->So.Yu X.prog X.w s.heap k G
 |[],_,_,.nil,.nil=>.nil
 |i::r,_,_,.cons (v:=v) h t,.cons hv tv=>by
  obtain⟨a,rfl⟩:∃a,v=.ref a:=by cases h with|tup _ _=>exact⟨_,rfl⟩
  cases hv;exact .cons (az4 I h) (aq1 I t tv)
def ajm{X:Cx}(I:Inv X pins σ H s)(r:Rep X.K ι H (MW.tN k) (.ref a)):So.TN X.prog X.w s.heap k a:=by
 cases r with
 |tup e G =>
  obtain⟨xq,U,⟨o,L,Z,n',y3⟩,_⟩:=I.tuple (Lq.of e);exact⟨o,_,n',L,Z,y3,by simpa using aq1 I G U⟩
def aq2(r:Rep K Z H (MW.tN k) v):∃a,v=.ref a:=by cases r with|tup _ _=>exact⟨_,rfl⟩
def bbu{X:Cx}(I:Inv X pins σ H s)(U:H p=some (.ext (DN p Z)))(h3:∀x∈Z,Rep X.K ι H (MW.tN x.1) (.ref x.2)):(p==sysModules)=false/\Z.length<=sizeLine/\s.heap.DictOfH (So.kN X.prog X.w) p (Z.map λx=>(x.1,x.2,Value.bool true)):=by obtain⟨⟨z,l,o,es,ep,e1,e2,e3,e4,L⟩,_⟩:=(show zj X.prog X.w H s.heap p (.ext (DN p Z))from I.Ad p _ U);refine⟨z,l,o,es,ep,e1,e2,e3,by rw[e4,n8];rfl,λx hx=>?_,by rw[n8];exact L⟩;obtain⟨y,G,rfl⟩:=bf.mp hx;exact ajm I (h3 y G)
noncomputable def putN(Z:List (List (List Int)×Addr))(k:List (List Int))(b:Addr):List (List (List Int)×Addr):=if k∈Z.map (·.1)then Z else Z++[(k,b)]
def amd(Z:List (List (List Int)×Addr))(k:List (List Int))(b:Addr):(putN Z k b).map (·.1)=if k∈Z.map (·.1)then Z.map (·.1)else Z.map (·.1)++[k]:=by unfold putN;split<;>simp
def Kr{G:List (List (List Int)×Addr)}:(atKey (G.map λx=>(x.1,x.2,Value.bool true)) k).isSome=true↔k∈G.map (·.1):=by
 rw[atKey,Option.isSome_map,List.find?_isSome,bf];constructor
 .rintro⟨x,U,e⟩
  obtain⟨y,Z,rfl⟩:=bf.mp U;exact⟨y,Z,by simpa using e⟩
 .rintro⟨y,Z,e⟩
  exact⟨_,bf.mpr ⟨y,Z,rfl⟩,by simpa using e⟩
def aq3(Z:List (List (List Int)×Addr))(k:List (List Int))(b:Addr):storedH (Z.map λx=>(x.1,x.2,Value.bool true)) k b (.bool true)=(putN Z k b).map λx=>(x.1,x.2,Value.bool true):=by
 unfold storedH putN
 by_cases h:k∈Z.map (·.1)
 .rw[bz (Kr.mpr h),bz h,n8]
  refine p7 λx _=>?_
  show putAt k (.bool true) (x.1,x.2,Value.bool true)=_;unfold putAt;split<;>rfl
 .rw[bc (λz=>h (Kr.mp z)),bc h];simp
def a08{X:Cx}{Q:Hp->Prop}(hu:X.A.units+2<cLine)(I:Inv X pins σ H s)(S:j9 nm X.K L H M)(hM:M[j]?=some (.dN ks))(hp:L.l[j]?=some p)(ry:Rep X.K L H y i)(ri:RelV i iv)(e1:MW.toN y=some k)(hl:ks.length<100000)
 (q:∀U,Le L H L U->j9 nm X.K L U (M.set j (.dN (if k∈ks then ks else ks++[k])))->Q U):wpAny (model X.prog X.w) X.A (setItem (.ref p) iv (.bool true)) (λ_ s'=>∃U,Inv X pins σ U s'/\Q U) X.xe s:=by
 obtain⟨G,h1,rfl,h3⟩:=S.obj j _ p hM hp;rw[aq0 e1]at ry;obtain⟨b,rfl⟩:=aq2 ry;cases ri;obtain⟨z,l,hd⟩:=bbu I h1 h3;refine wpAny_setItem_heap (knd:=So.kN X.prog X.w) hu (ajm I ry) hd λh' Ut sb=>?_
 rw[aq3]at Ut;obtain⟨o,es,ep,e1,e2,e3,e4,e5,e6⟩:=Ut;have qq:G.length<100000:=by simpa using hl
 have D:DN p (putN G k b) h':=⟨z,by
  unfold putN;split
  .exact l
  .rw[o8];exact gb (Nat.succ_le_of_lt qq) Oh,o,es,ep,e1,e2,e3,by rw[e4,n8];rfl,by rw[n8]at e6;exact e6⟩
 have mu:Mut (H p):=by rw[h1];trivial
 obtain⟨S2,zb⟩:=S.put (u:=.ext (DN p (putN G k b))) (o:=.dN (if k∈G.map (·.1)then G.map (·.1)else G.map (·.1)++[k])) hM hp λle=>⟨_,wz,(amd _ _ _).symm,λx Z=>by
  have:x∈G\/x=(k,b):=by
   unfold putN at Z;split at Z
   .exact .inl Z
   .rcases du.mp Z with Z|Z
    .exact .inl Z
    .exact .inr (by simpa using Z)
  rcases this with Z|rfl
  .exact(h3 x Z).mono le
  .exact ry.mono le⟩
 exact⟨_,abz (ob:=.ext (DN p (putN G k b))) I mu sb ⟨o,e1⟩ D.ok,q _ zb S2⟩
set_option tactic.hygienic true in
def aww(Y:X.A.units+2<cLine):a3e X (bhk nm X.K):=by
 have hu:X.A.units+1<cLine:=Ai Y
 intro C s σ H o i v ov iv u Q I ro ri rv hh;obtain⟨ι,M,x,y,d,M',S,rx,ry,rd,e,q⟩:=hh;obtain⟨j,hx⟩:∃j,x=.ref j:=by cases x<;>first|exact⟨_,rfl⟩|cases e
 subst hx;obtain⟨p,rfl,J⟩:∃p,o=.ref p/\ι.l[j]?=some p:=by cases rx with|ref z=>exact⟨_,rfl,z⟩
 simp only[MW.setOp]at e;split at e
 .rename_i xs Z
  split at e
  .rename_i k
   obtain⟨L,G,e2⟩:=cz.mp e;subst e2;cases ry;obtain⟨vs,h1,U⟩:=S.obj j _ p Z J;refine set_list C s σ H _ _ v ov iv u Q I ro ri rv ⟨p,vs,k,L,rfl,rfl,h1,by rw[<-U.length];exact G,?_⟩;obtain⟨S2,zb⟩:=S.put (u:=.lst (vs.set L v)) (o:=.lst (xs.set L d)) Z J λle=>⟨_,wz,(U.mono le).set (rd.mono le) L⟩
   exact q _ zb S2
  .cases e
 .rename_i qk Z
  obtain⟨k,G,e⟩:=dw.mp e;split at e<;>cases e;rename_i R;obtain⟨l,h1,U⟩:=S.obj j _ p Z J;obtain⟨b,rfl,hb⟩:=ab4 ry G;cases ro;refine al0 (H':=upd H p (.dT (putK l k v))) (y:=.ref b) (v:=v) hu I (awa.t h1 hb (by rw[<-U.length];exact Xw R)) ri rv λs' I'=>⟨_,I',?_⟩
  obtain⟨S2,zb⟩:=S.put (u:=.dT (putK l k v)) (o:=.dT (MW.Fy qk k d)) Z J λle=>⟨_,wz,(U.mono le).put (rd.mono le)⟩
  exact q _ zb S2
 .rename_i ks Z
  split at e
  .obtain⟨k,G,e⟩:=dw.mp e
   split at e<;>cases e;rename_i R;cases rd;cases ro;cases rv;exact a08 Y I S Z J ry ri G R q
  .cases e
 .cases e
def Xx(h:Uc e=true)(t:Expr)(l:Nat)(Z:Env):swapsWithSole [t] e l Z=pure false:=by unfold swapsWithSole;exact Oj h _ _ _
def aq4(e o b:Expr)(p:Pos)(l:Nat)(Z:Env):swapsWithSole [.Subscript o b p] e l Z=pure false:=by cases e<;>rfl
def aq5(hu:X.A.units+2<cLine)(he:PE X a (tE nm W X.K a'))(ho:PE X o (tE nm W X.K o'))(hi:PE X b (tE nm W X.K b'))(ha:∀v,assign (.Subscript o b pos') X.env v=(do
 let L<-holding [v] (eval o X.env)
 let iv<-holding [v,L] (eval b X.env)
 standAt pos'
 holding [v,L,iv] (setItem L iv v)
 release [v,L,iv] [])):PS X (.Assign [.Subscript o b pos'] a pos) (tS nm W X.K (.asg (.sub o' b') a')):=
 PS.of (apz he (a3g ho hi (aww (nm:=nm) hu) ha) (aq4 _ _ _ _ _ _) (by rfl) (by rfl)) λD σ H ι ρ M fl qv M' S R e q=>by
  rw[MW.aa5]at e;obtain⟨x,M1,e1,e⟩:=fj e;obtain⟨q0,M2,G,e⟩:=fj e;cases e;rw[MW.ava]at G;obtain⟨y,M3,e3,G⟩:=fj G;obtain⟨z,M4,e4,G⟩:=fj G;obtain⟨M5,M6,e5,e6⟩:=fj G;obtain⟨e7,e8⟩:=xj e5;subst e8;cases e6;refine one S R e1 λqq H1 v le S1 R1 r=>?_
  refine one S1 R1 e3 λqk H2 v2 zb S2 R2 r2=>one S2 R2 e4 λU H3 v3 Z S3 R3 r3=>?_
  exact⟨U,_,y,z,x,_,S3,r2.mono Z,r3,(r.mono zb).mono Z,e7,λH' V7 S'=>q U H' σ (((le.trans zb).trans Z).trans V7) S' (R3.mono V7)⟩
set_option tactic.hygienic true in
def aq6(hn:n=nm.fld f)(L:∀c C,nm.cls c=some C->Cls X.K C/\Hu X.K C n)(he:PE X a (tE nm W X.K a'))(ho:PE X o (tE nm W X.K o'))(Hz:Uc a=true) :
 PS X (.Assign [.Attribute o n pos'] a pos) (tS nm W X.K (.asg (.fld o' f) a')):=
 PS.of (a3v ho he (Oj Hz _ _ _)) λD σ H ι ρ M fl qk M' S R e q=>by
  rw[MW.aa5]at e;obtain⟨x,M1,e1,e⟩:=fj e;obtain⟨qv,M2,J,e⟩:=fj e;cases e;rw[MW.avb]at J;obtain⟨y,M3,e3,J⟩:=fj J;obtain⟨M5,M6,e5,e6⟩:=fj J;obtain⟨Z,e8⟩:=xj e5;subst e8;cases e6;refine one S R e1 λqq H1 v le S1 R1 r=>one S1 R1 e3 λY H2 v2 zb S2 R2 r2=>?_
  obtain⟨j,hx⟩:∃j,y=.ref j:=by cases y<;>first|exact⟨_,rfl⟩|cases Z
  subst hx;obtain⟨p,rfl,hp⟩:∃p,v2=.ref p/\Y.l[j]?=some p:=by cases r2 with|ref z=>exact⟨_,rfl,z⟩
  simp only[MW.Rg]at Z;split at Z
  .rename_i c fs hM
   have hl:fs.length<1000:=by
    by_cases z:fs.length<1000
    .exact z
    .rw[bc z]at Z;cases Z
   rw[bz hl]at Z;cases Z;obtain⟨C,U,l,h1,h2,h3⟩:=S2.obj j _ p hM hp;subst hn;obtain⟨g1,g2⟩:=L c C h1;refine⟨p,C,U,l,rfl,h2,g1,g2,by rw[<-h3.length];exact hl,?_⟩;obtain⟨S3,G⟩:=S2.put (u:=.ins C U (Ig (nm.fld f) v l)) (o:=.ins c (MW.Ux f x fs)) hM hp λV7=>⟨C,U,_,h1,wz,(h3.mono V7).Ig ((r.mono zb).mono V7)⟩
   exact q Y _ σ ((le.trans zb).trans G) S3 (R2.mono G)
  .cases Z
def By.weak(h:By X f r)(w:∀G H Q,r' G H Q->r G H Q):By X f r':=λZ s L H G us Q I U q=>h Z s L H G us Q I U (w G H Q q)
def rB(nm:Nm)(K:Fg)(b:Blt):List V->Hp->VK->Prop:=λvs H Q=>∃U M L d M',j9 nm K U H M/\nq K U H L vs/\MW.qy b L M=.ok d M'/\∀Z G v,Le U H Z G->j9 nm K Z G M'->Rep K Z G d v->Q v G
def By.of(h:By X f r)(w:∀U H Q G M L d M',j9 nm X.K G H M->nq X.K G H L U->MW.qy bb L M=.ok d M'->(∀Z H' v,Le G H Z H'->j9 nm X.K Z H' M'->Rep X.K Z H' d v->Q v H')->r U H Q):By X f (rB nm X.K bb):=
 By.weak h λU H Q z_=>by obtain⟨G,M,L,d,M',S,r,e,q⟩:=z_;exact w U H Q G M L d M' S r e q
def ae2{X:Cx}:∀L H Q,tE nm W X.K (.blt t G) L H Q->tCB (rB nm X.K t) (Vu nm W X.K G) L H Q:=λL H Q hh=>by obtain⟨ι,ρ,M,d,M',S,R,e,q⟩:=hh;rw[MW.aa4]at e;obtain⟨ds,M1,e1,e⟩:=fj e;exact Xq S R e1 λZ H1 vs le S1 R1 r=>⟨Z,M1,ds,d,M',S1,r,e,λU H' v V7 S' r'=>q U H' v (le.trans V7) S' r'⟩
def aai{id:String}(hc:By X (.builtin id) (rB nm X.K t))(hg:Gl X x)(hm:X.mg x=none)(L:bootBuiltins x=some (.builtin id))(ha:PA X (a::Z) (Vu nm W X.K G))(hn:x≠"__name__")(Q4:(x==("__debug__": Str))=false)(U:starEach (a::Z) X.env=(false,eval a X.env)::starEach Z X.env)(Hz:(backTo pos (starEach Z X.env)).any (·.1)=false):PE X (.Call (.Name x p) (a::Z) [] pos) (tE nm W X.K (.blt t G)):=PE.weak (aqd hc hg hm L ha hn Q4 U Hz) ae2
def ahq(hc:By X (.type T) (rB nm X.K t))(hg:Gl X x)(hm:X.mg x=none)(L:bootBuiltins x=some (.type T))(ha:PA X (a::Z) (Vu nm W X.K G))(hn:x≠"__name__")(Q4:(x==("__debug__": Str))=false)(U:starEach (a::Z) X.env=(false,eval a X.env)::starEach Z X.env)(Hz:(backTo pos (starEach Z X.env)).any (·.1)=false):PE X (.Call (.Name x p) (a::Z) [] pos) (tE nm W X.K (.blt t G)):=PE.weak (aly hc hg hm L ha hn Q4 U Hz) ae2
def Ca(r:nq K G H ds Z)(h:ds=[d]):∃v,Z=[v]/\Rep K G H d v:=by subst h;cases r with|cons h t=>cases t;exact⟨_,rfl,h⟩
def awx:By X (.type "tuple") (rB nm X.K .tuple):=By.of Za λvs H Q L M ds d M' S r e q=>by
 cases r with
 |nil=>simp[MW.qy]at e
 |@cons x v _ _ h t =>
  cases t with
  |cons h2 t2=>simp[MW.qy]at e
  |nil =>
   have e:Res.uy ((MW.Bk M x).map MW.D.tup) M=.ok d M':=e;obtain⟨e1,e2⟩:=xj e;subst e2;obtain⟨xs,e3,rfl⟩:=cz.mp e1;obtain⟨p,U,rfl,Z,G⟩:=Oz S h e3;rcases Z with Z|Z
   .refine⟨p,U,rfl,.inl ⟨Ie.of Z,λl hl=>?_⟩⟩
    obtain⟨S2,zb,r2⟩:=O1 S hl G;exact q L _ _ zb S2 r2
   .exact⟨p,U,rfl,.inr ⟨Lq.of Z,q L H _ (Le.refl _ _) S (.tup Z G)⟩⟩
open MW
noncomputable def G8(f:Dv->Dv->Option Bool)(Z bs:List Dv)(j:Nat):Bool:=match Z[j]?,bs[j]? with
 |some a,some b=>(f a b).getD false|_,_=>false
set_option tactic.hygienic true in
theorem Hv{f:Dv->Dv->Option Bool}:∀{Z bs:List Dv}{r:Bool},MW.Uw f Z bs=some r->(∀(j:Nat) a b,Z[j]?=some a->bs[j]?=some b->∃c,f a b=some c) /\
 r=((List.range (min Z.length bs.length)).all (G8 f Z bs)&&Z.length==bs.length)
 |[],[],r,h=>by cases h;exact⟨λj a b e=>by simp at e,by simp⟩
 |[],b::bs,r,h=>by cases h;exact⟨λj a b e=>by simp at e,by simp⟩
 |a::Z,[],r,h=>by cases h;exact⟨λj a b _ e=>by simp at e,by simp⟩
 |a::Z,b::bs,r,h=>by
  simp only[MW.Uw]at h;split at h
  .rename_i x y J S
   cases h;obtain⟨U,g2⟩:=Hv S;refine⟨λj L u G Y=>?_,?_⟩
   .cases j with
    |zero=>simp at G Y;subst G Y;exact⟨x,J⟩|succ j=>exact U j L u (by simpa using G) (by simpa using Y)
   .rw[gq,gq,Nat.succ_min_succ,List.range_succ_eq_map,List.all_cons,List.all_map]
    have z:G8 f (a::Z) (b::bs) 0=x:=by simp[G8,J]
    have C:(G8 f (a::Z) (b::bs) ∘ Nat.succ)=G8 f Z bs:=by funext j;simp[G8]
    rw[z,C,g2];have R:(Z.length+1==bs.length+1)=(Z.length==bs.length):=by
     by_cases q:Z.length=bs.length
     .simp[q]
     .have:¬(Z.length+1=bs.length+1):=by lia
      simp[q,this]
    rw[R,Bool.and_assoc]
  .cases h
set_option tactic.hygienic true in
theorem Ol{Z:Io}{H:Hp}{K:Fg}{f:Dv->Dv->Option Bool}(G:∀x y v r,Rep K Z H x v->Rep K Z H y v->f x y=some r->r=true):∀{J bs:List Dv}{Y:List V}{r:Bool},nq K Z H J Y->nq K Z H bs Y->MW.Uw f J bs=some r->r=true
 |_,_,_,_,.nil,.nil,h=>by cases h;rfl
 |_,_,_,_,.cons h1 t1,.cons h2 t2,h=>by
  simp only[MW.Uw]at h;split at h
  .rename_i x y C U
   cases h;rw[G _ _ _ _ h1 h2 C,Ol G t1 t2 U];rfl
  .cases h
inductive EqI(M:di)(f:Dv->Dv->Option Bool):Dv->Dv->Bool->Prop
 |bl (a b:Bool):EqI M f (.bl a) (.bl b) (a==b)
 |int (a b:Int):EqI M f (.int a) (.int b) (decide (a=b))
 |tup {as bs:List Dv} {r:Bool} (h:MW.Uw f as bs=some r):EqI M f (.tup as) (.tup bs) r
 |lst {x y:Dv} {as bs:List Dv} {r:Bool} (h1:MW.gn M x=some as) (h2:MW.gn M y=some bs) (h:(if as.length=bs.length then MW.Uw f as bs else some false)=some r):EqI M f x y r
set_option tactic.hygienic true in
def ab7(h:MW.Mi M (k+1) x y=some r):EqI M (MW.Mi M k) x y r:=by
 unfold MW.Mi at h;split at h
 .cases h;exact .int _ _
 .cases h;exact .bl _ _
 .exact .tup h
 .split at h
  .rename_i Z Y;exact .lst Z Y h
  .cases h
def ae3{X:Cx}(S:j9 nm X.K Z H M)(rx:Rep X.K Z H x v)(ry:Rep X.K Z H y v)(L:MW.gn M x=some ds)(h2:MW.gn M y=some es):∃vs,nq X.K Z H ds vs/\nq X.K Z H es vs:=by obtain⟨p,vs,rfl,U,g2⟩:=qm S rx L;obtain⟨p',ws,hw,G,g4⟩:=qm S ry h2;cases hw;rw[U]at G;cases G;exact⟨vs,g2,g4⟩
theorem ab8{nm:Nm}{U:Io}{H:Hp}{M:di}{X:Cx}(S:j9 nm X.K U H M):∀(k:Nat)(x y:Dv)(v:V)(r:Bool),Rep X.K U H x v->Rep X.K U H y v->MW.Mi M k x y=some r->r=true
 |0,_,_,_,_,_,_,h=>by cases h
 |k+1,x,y,v,r,rx,ry,h=>by
  have ih:=ab8 S k;cases ab7 h with
  |bl a b=>cases rx;cases ry;simp|int a b=>cases rx;cases ry;simp
  |tup h=>cases rx with
   |tup e1 G=>cases ry with
    |tup L Z=>rw[e1]at L;cases L;exact Ol ih G Z h
  |lst h1 h2 h3 =>
   obtain⟨vs,G,Z⟩:=ae3 S rx ry h1 h2;rw[bz (G.length.trans Z.length.symm)]at h3;exact Ol ih G Z h3
def Vals.ae4{j:Nat}(r:Vals L us)(G:L[j]?=some v)(h2:us[j]?=some u):RelV v u:=by obtain⟨u',Z,U⟩:=L2.Vals.get r G;rw[h2]at Z;cases Z;exact U
theorem Qt{G:Io}{H:Hp}{K:Fg}:∀{l:List (List Kx×Dv)}{Z:List (List Key×V)},t8 K G H (λk U=>k=U) l Z->Z.map (·.1)=l.map (·.1)
 |_,_,.nil=>rfl|_,_,.cons k h t=>by simp[Qt t,k]
def ajn(r:KT H l G):G.map (·.1)=l.map (·.1)/\∀x∈G,H x.2.1=some (.tup (x.1.map kV)):=by
 induction r with
 |nil=>exact⟨rfl,by simp⟩
 |@cons p q ps qs hq t ih =>
  refine⟨by simp[ih.1,hq.1],λx Z=>?_⟩;rcases cj.mp Z with rfl|Z
  .rw[<-hq.1];exact hq.2.1
  .exact ih.2 x Z
set_option tactic.hygienic true in
theorem Xy{nm:Nm}{X:Cx}{ι:Io}{H:Hp}{σ:St}{M:di}{qv:Zp}{s:Shared}(I:Inv X qv σ H s)(S:j9 nm X.K ι H M):∀(k:Nat)(A:Around)(x y:Dv)(v u:V)(v' u':Value)(r:Bool),zp k A->Rep X.K ι H x v->Rep X.K ι H y u->RelV v v'->RelV u u'->MW.Mi M k x y=some r->SeqAt.EqAt A s v' u' r
 |0,_,_,_,_,_,_,_,_,_,_,_,_,_,h=>by cases h
 |k+1,A,x,y,v,u,v',u',r,hr,rx,ry,rv,ru,h=>by
  have ih:=Xy I S k A.in1;have q0:=hr.in1;have elems:∀(Z Y:List Dv)(vs ws:List V)(is J:Zl)(rr:Bool),nq X.K ι H Z vs->nq X.K ι H Y ws->Vals vs is->Vals ws J->MW.Uw (MW.Mi M k) Z Y=some rr ->
   ∀j (h1:j<is.toArray.size) (h2:j<J.toArray.size),SeqAt.EqAt A.in1 s is.toArray[j] J.toArray[j] (G8 (MW.Mi M k) Z Y j):=λZ Y vs ws is J rr rd re O2 qk he j h1 h2=>by
   have l1:j<Z.length:=by rw[rd.length,O2.length];simpa using h1
   have l2:j<Y.length:=by rw[re.length,qk.length];simpa using h2
   have g1:Z[j]?=some Z[j]:=by simp[l1]
   have G:Y[j]?=some Y[j]:=by simp[l2]
   obtain⟨c,hc⟩:=(Hv he).1 j _ _ g1 G;obtain⟨va,a1,a2⟩:=rd.get g1;obtain⟨wa,b1,b2⟩:=re.get G;have q1:is[j]?=some is.toArray[j]:=by simp
   have q2:J[j]?=some J.toArray[j]:=by simp
   have:=ih _ _ va wa _ _ c q0 a2 b2 (Vals.ae4 O2 a1 q1) (Vals.ae4 qk b1 q2) hc;have z:G8 (MW.Mi M k) Z Y j=c:=by simp[G8,g1,G,hc]
   rw[z];exact this
  have qq:∀(p p2:Addr)(Z Y:List Dv),v=.ref p->u=.ref p2->MW.gn M x=some Z->MW.gn M y=some Y->(if Z.length=Y.length then MW.Uw (MW.Mi M k) Z Y else some false)=some r->SeqAt.EqAt A s v' u' r:=λp p2 Z Y hv hu h1 h2 C=>by
   subst hv hu;cases rv;cases ru;obtain⟨_,vs,hv,g1,G⟩:=qm S rx h1;cases hv;obtain⟨_,ws,hw,g3,g4⟩:=qm S ry h2;cases hw
   by_cases U:p=p2
   .subst U
    have:r=true:=by rw[g1]at g3;cases g3;rw[bz (G.length.trans g4.length.symm)]at C;exact Ol (λx y v r a b c=>ab8 S k x y v r a b c) G g4 C
    rw[this];exact SeqAt.EqAt.same _
   .refine SeqAt.EqAt.of_refs U ?_
    obtain⟨is,r1,R,_⟩:=I.list (Ie.of g1);obtain⟨J,r2,L,_⟩:=I.list (Ie.of g3)
    by_cases hl:Z.length=Y.length
    .rw[bz hl]at C
     have q3:is.toArray.size=J.toArray.size:=by simp[<-r1.length,<-r2.length,<-G.length,<-g4.length,hl]
     have:=SeqAt.RcAt.lists (e:=G8 (MW.Mi M k) Z Y) R.isList L.isList q3 hr.Xj (elems Z Y vs ws is J r G g4 r1 r2 C);rw[(Hv C).2];have e1:is.toArray.size=min Z.length Y.length:=by simp[<-r1.length,<-G.length,hl]
     rw[e1]at this;simpa[hl]using this
    .rw[bc hl]at C
     cases C;exact SeqAt.RcAt.lists_lengths R.isList L.isList (by simp[<-r1.length,<-r2.length,<-G.length,<-g4.length,hl]) hr.Xj
  cases ab7 h with
  |bl a b=>cases rx;cases ry;cases rv;cases ru;exact SeqAt.EqAt.bool_bool _ _
  |int a b =>
   cases rx;cases ry;obtain⟨t,rfl⟩:=rv;obtain⟨t2,rfl⟩:=ru;rw[<-Bool.beq_eq_decide_eq];exact SeqAt.EqAt.int_int _ _ _ _
  |@tup Z Y _ h=>cases rx with
   |@tup p _ vs e1 r1=>cases ry with
    |@tup p2 _ ws e2 r2 =>
     cases rv;cases ru
     by_cases U:p=p2
     .subst U
      have:r=true:=by rw[e1]at e2;cases e2;exact Ol (λx y v r a b c=>ab8 S k x y v r a b c) r1 r2 h
      rw[this];exact SeqAt.EqAt.same _
     .refine SeqAt.EqAt.of_refs U ?_
      obtain⟨is,g1,R,_⟩:=I.tuple (Lq.of e1);obtain⟨J,G,L,_⟩:=I.tuple (Lq.of e2);have:=SeqAt.RcAt.tuples (e:=G8 (MW.Mi M k) Z Y) (show s.heap.IsTuple p is.toArray from R) (show s.heap.IsTuple p2 J.toArray from L) hr.Xj (elems Z Y vs ws is J r r1 r2 g1 G h);rw[(Hv h).2];have z1:is.toArray.size=Z.length:=by simp[<-g1.length,<-r1.length]
      have z2:J.toArray.size=Y.length:=by simp[<-G.length,<-r2.length]
      rw[z1,z2]at this;exact this
  |lst h1 h2 C =>
   obtain⟨p,_,e1,_⟩:=qm S rx h1;obtain⟨p2,_,e2,_⟩:=qm S ry h2;exact qq p p2 _ _ e1 e2 h1 h2 C
inductive ab9(A:Around)(s:Shared):Value->Value->Bool->Prop
 |Xh {p p2:Addr} {is js:Q1} (e:Nat->Bool) (h1:s.heap.IsTuple p is) (h2:s.heap.IsTuple p2 js) (he:∀j (h1:j<is.size) (h2:j<js.size),SeqAt.EqAt A.in1 s is[j] js[j] (e j)):ab9 A s (.ref p) (.ref p2) ((List.range (min is.size js.size)).all e&&is.size==js.size)
 |bbx {p p2:Addr} {is js:Q1} (e:Nat->Bool) (h1:s.heap.IsList p is) (h2:s.heap.IsList p2 js) (hz:is.size=js.size) (he:∀j (h1:j<is.size) (h2:j<js.size),SeqAt.EqAt A.in1 s is[j] js[j] (e j)):ab9 A s (.ref p) (.ref p2) ((List.range is.size).all e)
 |lens {p p2:Addr} {is js:Q1} (h1:s.heap.IsList p is) (h2:s.heap.IsList p2 js) (hz:(is.size != js.size)=true):ab9 A s (.ref p) (.ref p2) false
def aaj{A:Around}(I:Inv X pins σ H s)(S:j9 nm X.K ι H M)(hr:zp k A.in1)(rd:nq X.K ι H ds vs)(re:nq X.K ι H Z ws)(O2:Vals vs is)(G:Vals ws U)(he:MW.Uw (MW.Mi M k) ds Z=some rr) :
 ∀j (h1:j<is.toArray.size) (h2:j<U.toArray.size),SeqAt.EqAt A.in1 s is.toArray[j] U.toArray[j] (G8 (MW.Mi M k) ds Z j):=λj h1 h2=>by
 have l1:j<ds.length:=by rw[rd.length,O2.length];simpa using h1
 have l2:j<Z.length:=by rw[re.length,G.length];simpa using h2
 have g1:ds[j]?=some ds[j]:=by simp[l1]
 have L:Z[j]?=some Z[j]:=by simp[l2]
 obtain⟨c,hc⟩:=(Hv he).1 j _ _ g1 L;obtain⟨va,a1,a2⟩:=rd.get g1;obtain⟨wa,b1,b2⟩:=re.get L;have q1:is[j]?=some is.toArray[j]:=by simp
 have q2:U[j]?=some U.toArray[j]:=by simp
 have:=Xy I S k A.in1 _ _ va wa _ _ c hr a2 b2 (Vals.ae4 O2 a1 q1) (Vals.ae4 G b1 q2) hc;have z:G8 (MW.Mi M k) ds Z j=c:=by simp[G8,g1,L,hc]
 rw[z];exact this
def ahr(I:Inv X pins σ H s)(S:j9 nm X.K ι H M)(hr:zp k A.in1)(rx:Rep X.K ι H x v)(ry:Rep X.K ι H y u)(rv:RelV v v')(ru:RelV u u')(h1:MW.gn M x=some ds)(h2:MW.gn M y=some U)(G:(if ds.length=U.length then MW.Uw (MW.Mi M k) ds U else some false)=some r):ab9 A s v' u' r:=by
 obtain⟨p,vs,rfl,g1,g2⟩:=qm S rx h1;obtain⟨p2,ws,rfl,g3,g4⟩:=qm S ry h2;cases rv;cases ru;obtain⟨is,r1,qq,_⟩:=I.list (Ie.of g1);obtain⟨js,r2,L,_⟩:=I.list (Ie.of g3)
 by_cases Z:ds.length=U.length
 .rw[bz Z]at G
  have qk:is.toArray.size=js.toArray.size:=by simp[<-r1.length,<-r2.length,<-g2.length,<-g4.length,Z]
  have z:=ab9.bbx (A:=A) (G8 (MW.Mi M k) ds U) qq.isList L.isList qk (aaj I S hr g2 g4 r1 r2 G);rw[(Hv G).2];have e1:is.toArray.size=min ds.length U.length:=by simp[<-r1.length,<-g2.length,Z]
  rw[e1]at z;simpa[Z]using z
 .rw[bc Z]at G
  cases G;exact .lens qq.isList L.isList (by simp[<-r1.length,<-r2.length,<-g2.length,<-g4.length,Z])
set_option tactic.hygienic true in
def ae5(I:Inv X pins σ H s)(S:j9 nm X.K R H M)(hr:zp k A.in1)(Y:Rep X.K R H x v)(Z:Rep X.K R H y u)(L:RelV v v')(U:RelV u u')(h:MW.Mi M (k+1) x y=some r) :
 ab9 A s v' u' r\/(a3t v u=true/\r=decide (v=u)):=by
 cases ab7 h with
 |bl a b=>cases Y;cases Z;exact .inr ⟨rfl,by by_cases z:a=b<;>simp[z]⟩|int a b=>cases Y;cases Z;exact .inr ⟨rfl,by by_cases z:a=b<;>simp[z]⟩
 |@tup ds es _ h=>cases Y with
  |@tup p _ vs e1 r1=>cases Z with
   |@tup p2 _ ws e2 r2 =>
    cases L;cases U;obtain⟨is,C,J,_⟩:=I.tuple (Lq.of e1);obtain⟨js,g2,G,_⟩:=I.tuple (Lq.of e2);have z:=ab9.Xh (A:=A) (G8 (MW.Mi M k) ds es) (show s.heap.IsTuple p is.toArray from J) (show s.heap.IsTuple p2 js.toArray from G) (aaj I S hr r1 r2 C g2 h);rw[(Hv h).2];have z1:is.toArray.size=ds.length:=by simp[<-C.length,<-r1.length]
    have z2:js.toArray.size=es.length:=by simp[<-g2.length,<-r2.length]
    rw[z1,z2]at z;exact .inl z
 |lst h1 h2 h3=>exact .inl (ahr I S hr Y Z L U h1 h2 h3)
def ab9.rc(h:ab9 A s v u r)(U:A.units<cLine):SeqAt.RcAt A s v u r/\SeqAt.RcNeAt A s v u (!r):=by
 cases h with
 |Xh e Z G L=>exact⟨SeqAt.RcAt.tuples Z G U L,SeqAt.RcNeAt.tuples Z G U L⟩|bbx e Z G hz L=>exact⟨SeqAt.RcAt.lists Z G hz U L,SeqAt.RcNeAt.lists Z G hz U L⟩|lens Z G hz=>exact⟨SeqAt.RcAt.lists_lengths Z G hz U,SeqAt.RcNeAt.lists_lengths Z G hz U⟩
def bhl(L:zp 6 X.A):Cy X (compareOp .Eq) (Yv nm X.K .eq):=λZ s σ H v u v' u' Q I U G hh=>by
 obtain⟨ι,M,x,y,b,S,rx,ry,e,q⟩:=hh;have e:MW.Mi M 6 x y=some b:=e;rcases ae5 (A:=X.A) I S L.in1 rx ry U G e with h|⟨h1,h2⟩
 .exact(h.rc L.Xj).1 X.prog X.w X.xe _ ⟨.bl b,H,I,rfl,q⟩
 .subst h2
  exact a95 Z s σ H v u v' u' Q I U G ⟨h1,q⟩
def bhm(L:zp 6 X.A):Cy X (compareOp .NotEq) (Yv nm X.K .ne):=λZ s σ H v u v' u' Q I U G hh=>by
 obtain⟨ι,M,x,y,b,S,rx,ry,e,q⟩:=hh;obtain⟨b',e1,e2⟩:=cz.mp (show(MW.Bq M x y).map not=some b from e);subst e2;rcases ae5 (A:=X.A) I S L.in1 rx ry U G (show MW.Mi M 6 x y=_ from e1)with h|⟨h1,h2⟩
 .exact(h.rc L.Xj).2 X.prog X.w X.xe _ ⟨.bl !b',H,I,rfl,q⟩
 .subst h2
  exact a96 Z s σ H v u v' u' Q I U G ⟨h1,q⟩
section
variable{nm:Nm}{W:G9}{X:Cx}{a b c o:Expr}{a' b' c' o':Ex}{pos pos' apos:Pos}{ι:Io}{H:Hp}{σ:St}{ρ:En}{M M1 M2:di}{x y:Dv}{es:X0}{es':Cv}
set_option tactic.hygienic true in
theorem Jz:∀{Z:List Dv}{bs:List Bool},MW.Qe M x Z=some bs->bs.length=Z.length/\∀(j:Nat) d,Z[j]?=some d->∃b,bs[j]?=some b/\MW.Bq M d x=some b
 |[],bs,h=>by cases h;exact⟨rfl,λj d e=>by simp at e⟩
 |y::ys,bs,h=>by
  simp only[MW.Qe]at h;split at h
  .rename_i a b G J
   cases h;obtain⟨Y,U⟩:=Jz J;refine⟨by simp[Y],λj d e=>?_⟩;cases j with
   |zero=>simp at e;subst e;exact⟨a,rfl,G⟩|succ j=>simpa using U j d (by simpa using e)
  .cases h
def Hf(I:Inv X pins σ H s)(e:ab3 X.K H p G):(∃o,H p=some (.Ox o (.lst G)))\/(H p=none/\∃(o:Obj)(Z:Q1)(n:Nat),X.K.lookup p=some o/\o.data=.seq Z n/\Vals G Z.toList):=by
 rcases e with h|⟨o,Z,n,h1,_,_,h2,_,h3⟩
 .exact .inl h
 .exact .inr ⟨(I.bs p o (I.mod.kin p o h1)).2,o,Z,n,h1,h2,h3⟩
def a5b(I:Inv X pins σ H s)(e:ab3 X.K H p vs)(e2:ab3 X.K H p ws):vs=ws:=by
 rcases Hf I e with⟨o,h⟩|⟨h,o,xq,n,h1,h2,h3⟩
 .rcases Hf I e2 with⟨o',Z⟩|⟨Z,_⟩
  .rw[h]at Z;cases Z;rfl
  .rw[h]at Z;cases Z
 .rcases Hf I e2 with⟨o',Z⟩|⟨_,o',qq,n',G,U,L⟩
  .rw[h]at Z;cases Z
  .rw[h1]at G;cases G
   rw[h2]at U;cases U;exact Vals.inj h3 L
mutual
theorem ajo{L:Zp}{s:Shared}(I:Inv X L σ H s)(S:j9 nm X.K ι H M):∀{d d':Dv}{v:V},Rep X.K ι H d v->Rep X.K ι H d' v->d=d'
 |_,_,_,.non,r=>by cases r;rfl|_,_,_,.bl b,r=>by cases r;rfl|_,_,_,.int i,r=>by cases r;rfl|_,_,_,.str z,r=>by cases r;rfl
 |_,_,_,.tup e1 r1,r=>by
  cases r with
  |tup Z G =>
   rw[e1]at Z;cases Z;rw[Su I S r1 G]
  |vl Z n2 G=>rw[e1]at Z;cases Z
  |fz Z G =>
   rcases Hf I Z with⟨o,h⟩|⟨h,_⟩
   .rw[e1]at h;cases h
   .rw[e1]at h;cases h
  |ref Z =>
   obtain⟨u,q,U⟩:=S.mem (az Z);rw[e1]at U;exact U.elim
 |_,_,_,.vl e1 n1 r1,r=>by
  cases r with
  |tup Z G=>rw[e1]at Z;cases Z
  |vl Z n2 G =>
   rw[e1]at Z;cases Z;rw[Su I S r1 G]
  |fz Z G =>
   rcases Hf I Z with⟨o,h⟩|⟨h,_⟩
   .rw[e1]at h;cases h
   .rw[e1]at h;cases h
  |ref Z=>exact absurd (az Z) n1.1
 |_,_,_,.fz e1 r1,r=>by
  cases r with
  |tup Z G =>
   rcases Hf I e1 with⟨o,h⟩|⟨h,_⟩
   .rw[Z]at h;cases h
   .rw[Z]at h;cases h
  |vl Z n2 G =>
   rcases Hf I e1 with⟨o,h⟩|⟨h,_⟩
   .rw[Z]at h;cases h
   .rw[Z]at h;cases h
  |fz Z G =>
   have:=a5b I e1 Z;subst this;rw[Su I S r1 G]
  |ref Z =>
   obtain⟨u,q,U⟩:=S.mem (az Z);rcases Hf I e1 with⟨o,h⟩|⟨h,_⟩
   .rw[h]at U;exact U.elim
   .rw[h]at q;cases q
 |_,_,_,.ref e1,r=>by
  cases r with
  |tup Z G =>
   obtain⟨u,q,U⟩:=S.mem (az e1);rw[Z]at U;exact U.elim
  |vl Z n2 G=>exact absurd (az e1) n2.1
  |fz Z G =>
   obtain⟨u,q,U⟩:=S.mem (az e1);rcases Hf I Z with⟨o,h⟩|⟨h,_⟩
   .rw[h]at U;exact U.elim
   .rw[h]at q;cases q
  |ref Z =>
   obtain⟨l1,q1⟩:=ak.mp e1;obtain⟨l2,q2⟩:=ak.mp Z;rw[(yr S.nd).mp (q1.trans q2.symm)]
theorem Su{G:Zp}{s:Shared}(I:Inv X G σ H s)(S:j9 nm X.K ι H M):∀{L Z:List Dv}{U:List V},nq X.K ι H L U->nq X.K ι H Z U->L=Z
 |_,_,_,.nil,r=>by cases r;rfl
 |_,_,_,.cons h t,r=>by
  cases r with
  |cons h2 t2=>rw[ajo I S h h2,Su I S t t2]
end
def V9(I:Inv X pins σ H s)(S:j9 nm X.K ι H M)(hr:zp 6 A)(rd:nq X.K ι H ds vs)(L:Vals vs is)(rx:Rep X.K ι H x u)(ru:RelV u u')(h:MW.Qe M x ds=some bs):∃e:Value->Bool,(∀w,w∈is.toArray->SeqAt.EqAt A s w u' (e w))/\∀(j:Nat)(w:Value),is[j]?=some w->bs[j]?=some (e w):=by
 obtain⟨g1,g2⟩:=Jz h;have at':∀(j:Nat)(w:Value),is[j]?=some w->∃b,bs[j]?=some b/\SeqAt.EqAt A s w u' b:=λj w G=>by
  have lj:j<ds.length:=by rw[rd.length,L.length];exact(ak.mp G).1
  have gd:ds[j]?=some ds[j]:=by simp[lj]
  obtain⟨b,U,e2⟩:=g2 j _ gd;obtain⟨v,a1,a2⟩:=rd.get gd;exact⟨b,U,Xy I S 6 A _ _ v u w u' b hr a2 rx (Vals.ae4 L a1 G) ru e2⟩
 classical
 refine⟨λw=>if G:∃j:Nat,is[j]?=some w then(bs[G.choose]?).getD false else false,λw G=>?_,λj w G=>?_⟩
 .obtain⟨j,hj,e⟩:=pq (by simpa using G:w∈is)
  have Z:∃j:Nat,is[j]?=some w:=⟨j,by simp[hj,e]⟩;obtain⟨b,U,e2⟩:=at' Z.choose w Z.choose_spec;simp only[dif_pos Z,U,Option.getD_some];exact e2
 .have Z:∃j:Nat,is[j]?=some w:=⟨j,G⟩
  obtain⟨b,U,e2⟩:=at' j w G;obtain⟨b',e3,e4⟩:=at' Z.choose w Z.choose_spec;simp only[dif_pos Z,e3,Option.getD_some];rw[U]
  congr 1
  have lj:j<ds.length:=by rw[rd.length,L.length];exact(ak.mp G).1
  have lk:Z.choose<ds.length:=by rw[rd.length,L.length];exact(ak.mp Z.choose_spec).1
  have gd:ds[j]?=some ds[j]:=by simp[lj]
  have gk:ds[Z.choose]?=some ds[Z.choose]:=by simp[lk]
  obtain⟨c1,q1,q2⟩:=g2 j _ gd;obtain⟨c2,q3,q4⟩:=g2 Z.choose _ gk;obtain⟨v1,p1,p2⟩:=rd.get gd;obtain⟨v2,p3,p4⟩:=rd.get gk;have hv:v1=v2:=RelV.inj (Vals.ae4 L p1 G) (Vals.ae4 L p3 Z.choose_spec);subst hv;rw[U]at q1;rw[e3]at q3;cases q1;cases q3;have hd:=ajo I S p2 p4;rw[hd,q4]at q2;exact(ie q2).symm
def awy{is:Zl}{bs:List Bool}(Z:bs.length=is.length)(h:∀(j:Nat) (w:Value),is[j]?=some w->bs[j]?=some (e w)):bs=is.map e:=by
 apply su;intro j;rw[dm];cases q:is[j]? with
 |none=>rw[j5 (by rw[Z];exact List.getElem?_eq_none_iff.mp q)];rfl|some w=>rw[h j w q];rfl
def az5{b:Bool}(n:Bool)(hr:zp 8 X.A)(S:j9 nm X.K ι H M)(I:Inv X pins σ H s)(rv:RelV v v')(ru:RelV u u')(rx:Rep X.K ι H x v)(ry:Rep X.K ι H y u)(e:MW.Qf M x y=some b)(q:Q (.bl (cond n (!b) b)) H):wpAny (model X.prog X.w) X.A (compareOp (cond n .NotIn .In) v' u') (EP X pins σ Q) X.xe s:=by
 have qq:∀U,MW.Bk M y=some U->MW.memD M x U=some b->wpAny (model X.prog X.w) X.A (compareOp (cond n .NotIn .In) v' u') (EP X pins σ Q) X.xe s:=λU L h2=>by
  obtain⟨bs,e1,e2⟩:=cz.mp (show(MW.Qe M x U).map (·.any id)=some b from h2);obtain⟨p,vs,rfl,hp,r⟩:=Oz S ry L;cases ru;have fin:∀{is:Zl}{f:Value->Bool},Vals vs is->(∀(j:Nat)(w:Value),is[j]?=some w->bs[j]?=some (f w))->is.toArray.any f=b:=fun{is f} Z g2=>by have:=awy (by rw[(Jz e1).1,r.length,Z.length]) g2;rw[this]at e2;rw[<-e2];simp[List.any_map]
  rcases hp with hp|hp
  .obtain⟨is,Z,pl,_⟩:=I.list (Ie.of hp)
   obtain⟨f,g1,g2⟩:=V9 (A:=X.A.in1) I S ((hr.mono (by decide:7<=8)).in1) r Z rx rv e1;have a:=fin Z g2;subst a;cases n with
   |false=>exact SeqAt.in_listAt f pl.isList g1 ⟨.bl _,H,I,rfl,q⟩|true=>exact SeqAt.notIn_listAt f pl.isList g1 ⟨.bl _,H,I,rfl,q⟩
  .obtain⟨is,Z,pl,_⟩:=I.tuple (Lq.of hp)
   obtain⟨f,g1,g2⟩:=V9 (A:=X.A.in1) I S ((hr.mono (by decide:7<=8)).in1) r Z rx rv e1;have a:=fin Z g2;subst a;cases n with
   |false=>exact SeqAt.in_tupleAt f (show s.heap.IsTuple p is.toArray from pl) g1 ⟨.bl _,H,I,rfl,q⟩
   |true=>exact SeqAt.notIn_tupleAt f (show s.heap.IsTuple p is.toArray from pl) g1 ⟨.bl _,H,I,rfl,q⟩
 have G:(MW.Bk M y).bind (MW.memD M x)=some b->wpAny (model X.prog X.w) X.A (compareOp (cond n .NotIn .In) v' u') (EP X pins σ Q) X.xe s:=λe=>by obtain⟨U,L,h2⟩:=dw.mp e;exact qq U L h2
 cases y with
 |ref m =>
  cases hM:M[m]? with
  |none=>simp only[MW.Qf,hM]at e;exact G e
  |some o=>cases o with
   |dT qk =>
    simp only[MW.Qf,hM]at e;obtain⟨k,e2,e3⟩:=cz.mp e;cases ry with
    |ref e1 =>
     obtain⟨l,L,h2⟩:=S.obj m _ _ hM e1;obtain⟨bb,rfl,hb⟩:=ab4 rx e2;cases ru;have a:b=(Sd l k).isSome:=by
      rw[<-e3];cases hk:MW.Bp qk k with
      |none=>rw[(h2.look (k:=k)).2 hk];rfl|some d=>obtain⟨z,h3,_⟩:=(h2.look (k:=k)).1 d hk;rw[h3];rfl
     subst a;cases n with
     |false=>exact bgy (aac hr) I (Y8.t L hb) rv λs' I'=>⟨.bl _,H,I',rfl,q⟩
     |true=>exact awb (aac hr) I (Y8.t L hb) rv λs' I'=>⟨.bl _,H,I',rfl,q⟩
   |_=>simp only[MW.Qf,hM]at e;exact G e
 |_=>exact G e
def bhn(hr:zp 8 X.A):Cy X (compareOp .In) (Yv nm X.K .inn):=λZ s σ H v u v' u' Q I U G L=>by obtain⟨ι,M,x,y,b,S,rx,ry,e,q⟩:=L;exact az5 false hr S I U G rx ry e q
def awz(hr:zp 8 X.A):Cy X (compareOp .NotIn) (Yv nm X.K .Uu):=λZ s σ H v u v' u' Q I L G hh=>by obtain⟨ι,M,x,y,c,S,rx,ry,e,q⟩:=hh;obtain⟨b,U,rfl⟩:=cz.mp (show(MW.Qf M x y).map not=some c from e);exact az5 true hr S I L G rx ry U q
end
open Q6 (Cz Tp)
def KH(H:Hp)(x:List Key×Addr):Prop:=H x.2=some (.tup (x.1.map kV))/\∀k∈x.1,∃i,k=.inl i
def ae6(P:Program)(w:World)(H:Hp):Q6.Tn (m8 P w) (KH H):=λx G k U v n Z=>by
 obtain⟨i,rfl⟩:=G.2 k U;rcases Aw (show Xg (Sum.inl i) v=true from Z)with⟨j,t,e,rfl⟩|⟨y,t,e,_⟩
 .unfold hashByValue;rfl
 .cases e
def T6:∀ks:List Kx,MW.Rc (MW.aoa ks)=some ks:=λks=>by
 show MW.Wm (ks.map MW.an9)=some ks
 induction ks with
 |nil=>rfl|cons k ks Z=>cases k<;>simp[MW.Wm,MW.an9,MW.agq,Z]
theorem Xz:∀{l:List (List Kx×Dv)},MW.Dp (l.map λp=>MW.aoa p.1)=some (l.map (·.1))
 |[]=>rfl|p::l=>by simp[MW.Dp,T6,Xz]
set_option tactic.hygienic true in
theorem ajp{R:Io}{H:Hp}{K:Fg}:∀{J:List Dv}{G:List V}{Y:List (List Kx)},nq K R H J G->MW.Dp J=some Y->∃bs:List Addr,G=bs.map V.ref/\bs.length=Y.length/\∀x∈Y.zip bs,H x.2=some (.tup (x.1.map kV))
 |_,_,_,.nil,h=>by simp[MW.Dp]at h;subst h;exact⟨[],rfl,rfl,by simp⟩
 |_,_,_,.cons r t,h=>by
  simp only[MW.Dp]at h;split at h
  .rename_i k L C S
   cases h;obtain⟨b,rfl,e⟩:=ab4 r C;obtain⟨bs,rfl,U,y⟩:=ajp t S;refine⟨b::bs,rfl,by simp[U],λx Z=>?_⟩;simp only[Bc,cj]at Z;rcases Z with rfl|Z
   .exact e
   .exact y x Z
  .cases h
def ame(h:MW.Dq Z=true):Z.length<=30/\∀k∈Z,∀x∈k,∃i,x=Sum.inl i:=by
 simp only[MW.Dq,au,cu,ik]at h;refine⟨h.1,λk G x U=>?_⟩;have:=h.2 k G x U;cases x with
 |inl i=>exact⟨i,rfl⟩|inr s=>cases this
set_option tactic.hygienic true in
def aq9(hr:zp 8 X.A)(I:Inv X pins σ H s)(S:j9 nm X.K ι H M)(rx:Rep X.K ι H x v)(ru:RelV v u)(Y:MW.keysOf M x=some ds)(hd:MW.Dp ds=some J)(pl:MW.Dq J=true)(h:∀p o n Z,Inv X ((p,o)::pins) σ H Z->Cz (m8 X.prog X.w) (KH H) Z.heap p (λk=>k∈J) n->Z.heap.get? p=some o->Q (.ref p) Z) :
 wpAny (model X.prog X.w) X.A (call (.type "set") [u]) Q X.xe s:=by
 obtain⟨q0,U⟩:=ame pl;have hu:X.A.in1.in1.in1.units+1<cLine:=by have:=hr.un;show X.A.units+1+1+1+1<cLine;lia
 have kept:∀b o,s.heap.get? b=some o->(s.heap.push (Q6.zg X.w)).get? b=some o:=λb o e=>ao _ e
 have I1:Inv X pins σ H { s with heap:=s.heap.push (Q6.zg X.w) }:=I.kept (t':=s.toks) kept;have fr:Cz (m8 X.prog X.w) (KH H) (s.heap.push (Q6.zg X.w)) s.heap.objs.size (λ_=>False) 0:=Q6.aul (bu _ rfl);have fin:∀(G:Heap)(tk n':Nat),(∀b o,b≠s.heap.objs.size->(s.heap.push (Q6.zg X.w)).get? b=some o->G.get? b=some o)->Cz (m8 X.prog X.w) (KH H) G s.heap.objs.size (λk=>k∈J) n'->Q (.ref s.heap.objs.size) { s with heap:=G,toks:=tk }:=λG tk n' L hS=>by
  have I2:Inv X pins σ H { s with heap:=G,toks:=tk }:=I.kept λb o e=>L b o (dq (aq e)) (kept b o e)
  obtain⟨o,es,ep,t,hg,hc,q5,_⟩:=hS.get;refine h _ o n' _ (I2.Ha λq hq=>?_) hS hg;rcases cj.mp hq with rfl|hq
  .refine⟨hg,I.Ad.fresh (cg _),ou I.lt,I.apt (cg _),λv hv=>?_⟩
   rw[show o.data=_ from q5]at hv;cases hv
  .exact I2.pin q (fc _ hq)
 have lst:∀p C,v=.ref p->H p=some (.lst C)->nq X.K ι H ds C->wpAny (model X.prog X.w) X.A (call (.type "set") [u]) Q X.xe s:=λp C ev hp r=>by
  subst ev;cases ru;obtain⟨is,rv,q4,_⟩:=I1.list (Ie.of hp);obtain⟨bs,rfl,qv,hz⟩:=ajp r hd;have q3:is=(J.zip bs).map λx=>Value.ref x.2:=by
   apply su;intro j;rw[dm]
   by_cases hj:j<bs.length
   .have y:(bs.map V.ref)[j]?=some (.ref bs[j]):=by simp[hj]
    have qk:j<is.length:=by have:=rv.length;simp at this;exact b_ hj (f_ this)
    have e2:is[j]?=some is[j]:=by simp[qk]
    have:=Vals.ae4 rv y e2;rw[e2,show is[j]=Value.ref bs[j]from this];have q6:j<J.length:=b_ hj (f_ qv)
    have q1:(J.zip bs)[j]?=some (J[j],bs[j]):=by rw[dz (by simp;lia)];simp
    rw[q1];rfl
   .have qk:¬j<is.length:=by have:=rv.length;simp at this;exact j_ (a_ (g_ this) (s_ hj))
    rw[j5 (s_ qk),j5 (by simp;lia)];rfl
  refine Q6.Mg (R:=λZ=>Q (.ref s.heap.objs.size) Z) ?_ λZ h=>h
  refine Q6.anz (ae6 _ _ H) (ks:=J.zip bs) (items:=is.toArray) (by have:=hr.hd;exact this) hu fr q4.isList (by simpa using q3) (λx hx=>Qq I1.Ad (hz x hx)) (λx hx=>⟨hz x hx,λk Y=>U x.1 (List.of_mem_zip (a:=x.1) (b:=x.2) hx).1 k Y⟩) (by simp;lia) λG tk n' L hS=>?_
  refine fin G tk n' L (hS.congr λk=>?_);rw[List.map_fst_zip (g_ qv)]
 unfold MW.keysOf at Y;split at Y
 .rename_i n
  split at Y
  .rename_i qq hM
   cases Y;rw[Xz]at hd;cases hd;cases rx with
   |@ref n p y =>
    obtain⟨l,h1,h2⟩:=S.obj n _ p hM y;cases ru;obtain⟨_,q2,xs,rel,dd⟩:=aqe I1.Ad h1;obtain⟨k1,k2⟩:=ajn rel;have k3:xs.map (·.1)=qq.map (·.1):=k1.trans (Qt h2);have hl:xs.length=qq.length:=by have:=lg List.length k3;simpa using this
    refine Q6.Mg (R:=λZ=>Q (.ref s.heap.objs.size) Z) ?_ λZ h=>h
    refine Q6.anv (ae6 _ _ H) (by have:=hr.un;show X.A.units+1+1<cLine;lia) fr dd q2 (λx hx=>⟨k2 x hx,λk Y=>?_⟩) (by simp at q0;lia) λG n' sb hS=>?_
    .have:x.1∈qq.map (·.1):=by rw[<-k3];exact bf.mpr ⟨x,hx,rfl⟩
     exact U x.1 this k Y
    .refine fin G s.toks n' (λb o hb e=>(sb.2 b hb).trans e) (hS.congr λk=>?_)
     rw[k3];simp
  .obtain⟨p,C,y,e2,r⟩:=qm S rx Y
   exact lst p C y e2 r
 .obtain⟨p,C,y,e2,r⟩:=qm S rx Y
  exact lst p C y e2 r
def bby(hS:Cz (m8 P w) (KH H) h p T n)(hg:h.get? p=some o)(Z:L.get? p=some o)(le:∀a G,H a=some (.tup G)->H' a=some (.tup G))(ok:Pu P w H' L):Cz (m8 P w) (KH H') L p T n:=by obtain⟨xs,U,es,ep,t,D,r⟩:=hS;have e:U=o:=ie (D.get.symm.trans hg);subst e;refine⟨xs,U,es,ep,t,⟨Z,D.exa,D.dat,D.tab,D.ent,λx hx=>?_,D.nod,D.led,D.Zi⟩,r⟩;obtain⟨_,k1,k2⟩:=D.keys x hx;exact⟨Qq ok (le _ _ k1),le _ _ k1,k2⟩
def ae7:MW.Ih xs ys=true↔∀k,k∈xs↔k∈ys:=by
 simp only[MW.Ih,au,ik,zr,cu];constructor
 .rintro⟨G,L⟩ k
  exact⟨λh=>by obtain⟨y,Z,e⟩:=G k h;rw[<-e];exact Z,λh=>by obtain⟨y,Z,e⟩:=L k h;rw[<-e];exact Z⟩
 .exact λh=>⟨λx U=>⟨x,(h x).mp U,rfl⟩,λy Z=>⟨y,(h y).mpr Z,rfl⟩⟩
set_option tactic.hygienic true in
def aw0(hr:zp 8 X.A)(hg:Gl X C)(hm:X.mg C=none)(hv:bootBuiltins C=some (.type "set"))(hn:C≠"__name__")(Q4:(C==("__debug__": Str))=false)(ha:PA X [a] (Vu nm W X.K (.cons a' .nil)))(hb:PA X [b] (Vu nm W X.K (.cons b' .nil)))(he:starEach [a] X.env=(false,eval a X.env)::starEach [] X.env)(qv:starEach [b] X.env=(false,eval b X.env)::starEach [] X.env)(Hz:(backTo q1 (starEach [] X.env)).any (·.1)=false)(q6:(backTo q2 (starEach [] X.env)).any (·.1)=false) :
 PC X .NotEq (.Call (.Name C p1) [a] [] q1) (.Call (.Name C p2) [b] [] q2) (tE nm W X.K (.Wl a' b')):=by
 intro qq s σ H Q I hh;obtain⟨ι,ρ,M,d,M',S,R,e,q⟩:=hh;rw[MW.Zk]at e;obtain⟨x,M1,e1,e⟩:=fj e;cases hk1:(MW.keysOf M1 x).bind MW.Dp with
 |none=>rw[hk1]at e;cases e
 |some ks =>
  rw[hk1]at e;simp only at e;split at e
  .rename_i q7
   obtain⟨y,M2,e2,e⟩:=fj e;cases hk2:(MW.keysOf M2 y).bind MW.Dp with
   |none=>rw[hk2]at e;cases e
   |some ls =>
    rw[hk2]at e;simp only at e;split at e
    .rename_i q5
     cases e;obtain⟨zw,g1,q8⟩:=dw.mp hk1;obtain⟨zv,g2,q3⟩:=dw.mp hk2;refine jd (Cg I hg hm hv ?_ hn Q4);refine jo (Bf (ha q1 qq s σ H (λJ U=>∃Z v,J=[v]/\Le ι H Z U/\j9 nm X.K Z U M1/\Rep X.K Z U x v) I ⟨ι,ρ,M,[x],M1,S,R,by simp[e1,Res.bind],λZ U J le S1 r=>?_⟩) λus s1 ⟨J,U,I1,r1,Z,v,L,Vv,S1,rx⟩=>?_) he Hz
     .obtain⟨v,L,u⟩:=Ca r rfl
      exact⟨Z,v,L,le,S1,u⟩
     subst L;cases r1 with
     |cons u rn =>
      cases rn;refine aq9 hr I1 S1 rx u g1 q8 q7 λp o n s2 I2 hS q4=>?_
      refine jd (Cg I2 hg hm hv ?_ hn Q4);refine jo (Bf (hb q2 _ s2 σ U (λJ G=>∃Y v,J=[v]/\Le Z U Y G/\j9 nm X.K Y G M'/\Rep X.K Y G y v) I2 ⟨Z,ρ,M1,[y],M',S1,R.mono Vv,by simp[e2,Res.bind],λY G J le S2 r=>?_⟩) λus s3 ⟨J,G,I3,r2,Y,v2,ev2,zb,S2,ry⟩=>?_) qv q6
      .obtain⟨v,L,u⟩:=Ca r rfl
       exact⟨Y,v,L,le,S2,u⟩
      subst ev2;cases r2 with
      |cons q0 zz =>
       cases zz;refine aq9 hr I3 S2 ry q0 g2 q3 q5 λp' o' n' s4 I4 Mf zk=>?_
       have hp:s4.heap.get? p=some o:=(I4.pin (p,o) (fc _ (bx _ dh))).1;have qk:=bby (H':=G) hS q4 hp zb.tup I4.Ad;refine Q6.a8o (by have:=hr.un;show X.A.units+1<cLine;lia) (by have:=hr.un;lia) qk Mf λc hc=>?_
       have ec:c=!MW.Ih ks ls:=by have:=ae7 (xs:=ks) (ys:=ls);cases c<;>cases h:MW.Ih ks ls<;>simp_all
       refine⟨.bl c,G,(I4.Ha λz hz=>I4.pin z (fc _ (bx _ (bx _ hz)))),rfl,?_⟩;rw[ec];exact q Y G _ (Vv.trans zb) S2 (.bl _)
    .cases e
  .cases e
theorem nq.dropLast:∀{G:List Dv}{Z:List V},nq K U H G Z->nq K U H G.dropLast Z.dropLast:=by intro A B h;induction A generalizing B with|nil=>cases h;exact .nil|cons d A ih=>cases h with|cons h t=>cases t with|nil=>exact .nil|cons g t=>exact .cons h (ih (.cons g t))
def rM(nm:Nm)(K:Fg)(m:Bm):V->List V->Hp->VK->Prop:=λv vs H Q=>∃U M x L d M',j9 nm K U H M/\Rep K U H x v/\nq K U H L vs/\MW.Qg m x L M=.ok d M'/\(∀ts,x=.tup ts->m≠.index) /\
 ∀Z G w,Le U H Z G->j9 nm K Z G M'->Rep K Z G d w->Q w G
set_option tactic.hygienic true in
theorem a5e{id:String}(hT:∀ι H M x v,j9 nm X.K ι H M->Rep X.K ι H x v->MW.Vp m x M=true->tyV X.K T v H)(pa:PlainAttrs T)(G:Slot T name id)(u:typeOf (.builtin id)=pure (.type "method_descriptor"))(C:MtR X id (rM nm X.K m))(ho:PE X o (tE nm W X.K o'))(ha:PA X (e::Z) (Vu nm W X.K L))(qq:attributeBase o name X.env (eval o X.env)=eval o X.env)(qv:((backTo J (starEach (e::Z) X.env)).all (λx=>!x.1)&&(backToKw J (keywordEach [] X.env)).all (λx=>x.1.isSome)
&&decide ((e::Z).length+([]:List Keyword).length+(if([]:List Keyword).isEmpty then 0 else 1)<30))=true)(qk:(apos.endLine==J.line)=true)(hs:starEach (e::Z) X.env=(false,eval e X.env)::starEach Z X.env)(Xk:(backTo J (starEach Z X.env)).any (·.1)=false) :
 PE X (.Call (.Attribute o name apos) (e::Z) [] J) (tE nm W X.K (.bm m o' L)):=
 PE.of (bas pa G u C ho ha qq qv qk hs Xk) fun σ H Q ι ρ M d M' S R e q=>by
  rw[MW.aog]at e;obtain⟨x,M1,e1,e⟩:=fj e;split at e
  .rename_i ht
   obtain⟨ds,M2,e2,e⟩:=fj e;exact one S R e1 λY H1 v le S1 R1 r=>⟨hT Y H1 M1 x v S1 r ht,Y,ρ,M1,ds,M2,S1,R1,e2,λU H2 vs zb S2 rs=>⟨U,M2,x,ds,d,M',S2,r.mono zb,rs,e,(λts hx C=>by subst hx;subst C;cases ht),λy H' w V7 S' r'=>q y H' w ((le.trans zb).trans V7) S' r'⟩⟩
  .cases e
def ajq(h:MW.onL o M f=.ok d M'):∃n Z,o=.ref n/\M[n]?=some (.lst Z)/\f n Z=.ok d M':=by
 cases o with
 |ref n =>
  simp only[MW.onL]at h;cases e:M[n]? with
  |none=>rw[e]at h;cases h
  |some o=>cases o with
   |lst Z=>rw[e]at h;exact⟨n,Z,rfl,e,h⟩|_=>rw[e]at h;cases h
 |_=>cases h
def Ky{Z:List Dv}(h:MW.Dm Z g=.ok d M'):∃x,Z=[x]/\g x=.ok d M':=by
 match Z,h with
 |[x],h=>exact⟨x,rfl,h⟩|[],h=>cases h|_::_::_,h=>cases h
def Qu{c:Prop}[Decidable c]{r:Res α}(h:(if c then r else .bad)=.ok d M'):c/\r=.ok d M':=by
 by_cases z:c
 .rw[bz z]at h;exact⟨z,h⟩
 .rw[bc z]at h;cases h
def ty_list{X:Cx}(S:j9 nm X.K U H M)(r:Rep X.K U H x v)(h:(MW.gn M x).isSome=true):tyV X.K "list" v H:=by obtain⟨ds,L⟩:=p8.mp h;obtain⟨p,Z,rfl,G,_⟩:=qm S r L;exact .inl ⟨rfl,Z,Ie.of G⟩
def aw1(e:MW.Qg .index x ds M=.ok d L):∃G Z j,ds=[G]/\MW.Bk M x=some Z/\MW.Wn M G Z=some j/\d=.int ((j:Nat):Int)/\L=M:=by obtain⟨G,rfl,e0⟩:=Ky e;obtain⟨e1,e2⟩:=xj e0;obtain⟨j,e3,e4⟩:=cz.mp e1;obtain⟨Z,e6,U⟩:=dw.mp e3;exact⟨G,Z,j,rfl,e6,U,e4.symm,e2⟩
def arc:MtR X "list.append" (rM nm X.K .append):=λZ s σ H v vs u us Q I ru O2 hh=>by
 obtain⟨ι,M,x,ds,d,M',S,r,rs,e,_,q⟩:=hh;obtain⟨n,xs,rfl,U,e1⟩:=ajq e;obtain⟨d0,rfl,e2⟩:=Ky e1;obtain⟨hl,e3⟩:=Qu e2;cases e3;cases r with
 |ref L =>
  obtain⟨ys,h3,G⟩:=S.obj n _ _ U L;cases rs with
  |cons hd ht =>
   cases ht;refine aaa Z s σ H _ _ u us Q I ru O2 ⟨_,ys,_,rfl,rfl,h3,by rw[<-G.length];exact Xw hl,?_⟩;obtain⟨S2,zb⟩:=S.put (u:=.lst (ys++[_])) (o:=.lst (xs++[_])) U L λle=>⟨_,wz,(G.mono le).append (.cons (hd.mono le) .nil)⟩
   exact q _ _ _ zb S2 .non
def ard:MtR X "list.extend" (rM nm X.K .extend):=λZ s σ H v vs u us Q I ru O2 hh=>by
 obtain⟨ι,M,x,ds,d,M',S,r,rs,e,_,q⟩:=hh;obtain⟨n,xs,rfl,L,e1⟩:=ajq e;obtain⟨y,rfl,U⟩:=Ky e1;cases y with
 |vl zs =>
  obtain⟨hl,e3⟩:=Qu U;cases e3;cases r with
  |ref ha =>
   obtain⟨ys,h3,G⟩:=S.obj n _ _ L ha;cases rs with
   |cons hd ht =>
    cases ht;cases hd with
    |@vl b _ us' h5 _ h6 =>
     refine al3 Z s σ H _ _ u _ Q I ru O2 ⟨_,b,ys,us',rfl,rfl,h3,h5,by rw[<-G.length,<-h6.length];exact yh (Xw hl),?_⟩;obtain⟨S2,zb⟩:=S.put (u:=.lst (ys++us')) (o:=.lst (xs++zs)) L ha λle=>⟨_,wz,(G.mono le).append (h6.mono le)⟩
     exact q _ _ _ zb S2 .non
 |_=>cases U
def Sv:∀{bs:List Bool}{j:Nat},bs.findIdx? id=some j->bs[j]?=some true/\∀m,m<j->bs[m]?=some false:=fun{bs j} h=>by obtain⟨Z,U,L⟩:=ug.mp h;refine⟨by rw[dz Z];simpa using U,λm G=>?_⟩;have:=L m G;rw[dz (d_ G Z)];simpa using this
def aw2(hr:zp 8 X.A):MtR X "list.index" (rM nm X.K .index):=λqv s σ H v vs u us Q I ru O2 hh=>by
 obtain⟨ι,M,x,ds,d,M',S,r,rs,e,nt,q⟩:=hh;obtain⟨d0,xs,j,rfl,e1,e2,rfl,rfl⟩:=aw1 e;cases rs with
 |cons hd ht =>
  cases ht;cases O2 with
  |cons hu qq =>
   cases qq;obtain⟨bs,e3,e4⟩:=dw.mp (show(MW.Qe M' d0 xs).bind (·.findIdx? id)=some j from e2);obtain⟨p,ys,rfl,G,rl⟩:=Oz S r e1;cases ru;rcases G with G|G
   .obtain⟨z,is,n,rv,hl,hg⟩:=I.al2 G
    obtain⟨f,g1,g2⟩:=V9 (A:=X.A.in1) I S ((hr.mono (by decide:7<=8)).in1) rl rv hd hu e3;obtain⟨f1,f2⟩:=Sv e4;have hb:=(Jz e3).1;have U:is.length=bs.length:=by rw[hb,rl.length,hl]
    have lj:j<is.length:=by rw[U];exact(ak.mp f1).1
    have fa:∀m (Z:m<is.length),bs[m]?=some (f is[m]):=λm Z=>g2 m _ (dz Z)
    have hT:s.TypeIs (.ref p) "list":= ⟨_,hg,rfl⟩;have qk:is.length<=sizeLine:=by rw[<-hl];exact z
    rw[jw]at qk;refine call_meetsIn F.slot_list_index hT F.entry_list_index (F.args_list_index_2 _ _) (λA R s h=>SeqAt.list_indexAt p is.toArray n none #[] _ f j (by simpa using lj) (by lia) ?_ ?_ _ _ A R s h) ⟨hg,g1,?_⟩
    .have:=fa j lj;rw[f1]at this;simpa using(ie this).symm
    .intro m Z L
     have Z:m<is.length:=by simpa using Z
     have:=fa m Z;rw[f2 m L]at this;simpa using(ie this).symm
    .exact⟨.int j,H,I.tok _,⟨_,rfl⟩,q ι H _ (Le.refl _ _) S (.int _)⟩
   .cases r with
    |tup e r=>exact absurd rfl (nt _ rfl)|vl e n r=>rw[G]at e;cases e|fz e r=>simp[MW.Bk,MW.gn]at e1
    |ref e =>
     obtain⟨u',q',mu⟩:=S.mem (az e);rw[G]at mu;exact mu.elim
end Sm
namespace Q6
open PySem L2
def SmK(k:List Key):Prop:=∃i j:Int,-1<=i/\i<9/\-1<=j/\j<9/\k=[.inl i,.inl j]
noncomputable def ajr(i j:Int):Int:=reduceHash (Builtin.Tuple.tupleHashOf [hashInt i,hashInt j])
noncomputable def rgI:List Int:=[-1,0,1,2,3,4,5,6,7,8]
def arf:(rgI.all λi=>rgI.all λj=>rgI.all λG=>rgI.all λZ=>(ajr i j != ajr G Z)||(i==G&&j==Z))=true:=by decide+kernel
def aca(Z:-1<=i)(G:i<9):i∈rgI:=by
 have:i=-1\/i=0\/i=1\/i=2\/i=3\/i=4\/i=5\/i=6\/i=7\/i=8:=by lia
 unfold rgI;simp only[cj,uo,or_false];exact this
def arh{P:Program}(h:SmK k)(h':SmK k')(e:tupleKeyHash (m8 P w) k=tupleKeyHash (m8 P w) k'):k=k':=by obtain⟨i,j,U,L,G,a4,rfl⟩:=h;obtain⟨Z,j',b1,b2,b3,b4,rfl⟩:=h';have e:ajr i j=ajr Z j':=e;have:=ik.mp (ik.mp (ik.mp (ik.mp arf i (aca U L)) j (aca G a4)) Z (aca b1 b2)) j' (aca b3 b4);rw[e]at this;simp at this;rw[this.1,this.2]
def ahs(Z:IsTupleKey (m8 prog w) s.heap G a)(h:Q false s):wpAny (model prog w) A (Builtin.Dict.quietEq (.ref a)) Q E s:=by
 unfold Builtin.Dict.quietEq;refine aa (o4 Z.typeIs v9.lookup ?_);refine aj ?_;have:(some (Value.builtin "tuple.__eq__")==some (Value.builtin "object.__eq__"))=false:=by decide
 rw[this];exact h
def ari{U:List (List Key×Addr×Value)}(hn:(U.map (·.1)).Nodup)(G:∀x∈U,SmK x.1)(L:x∈U) :
 ((U.map (entryOfKey (tupleKind (m8 prog w)))).filter (·.hash==tupleKeyHash (m8 prog w) x.1)).length<=1:=by
 induction U with
 |nil=>simp
 |cons y ys ih =>
  rw[dj,ju]at hn;rw[dj]
  by_cases hy:tupleKeyHash (m8 prog w) y.1=tupleKeyHash (m8 prog w) x.1
  .have e:=arh (G y dh) (G x L) hy
   have none:(ys.map (entryOfKey (tupleKind (m8 prog w)))).filter (·.hash==tupleKeyHash (m8 prog w) x.1)=[]:=by rw[List.filter_eq_nil_iff];intro z hz hq;obtain⟨z',Z,rfl⟩:=bf.mp hz;have hq:tupleKeyHash (m8 prog w) z'.1=tupleKeyHash (m8 prog w) x.1:=eq_of_beq (show(tupleKeyHash (m8 prog w) z'.1==tupleKeyHash (m8 prog w) x.1)=true from hq);have:=arh (G z' (bx _ Z)) (G x L) hq;exact hn.1 (bf.mpr ⟨z',Z,this.trans e.symm⟩)
   rw[List.filter_cons,none];split<;>simp
  .rw[List.filter_cons,bc (by show ¬((tupleKeyHash (m8 prog w) y.1==tupleKeyHash (m8 prog w) x.1)=true);simpa using hy)]
   rcases cj.mp L with rfl|L
   .exact absurd rfl hy
   .exact ih hn.2 (λz hz=>G z (bx _ hz)) L
def ae8{id:String}{G:List (List Key×Addr×Value)}(ho:s.heap.get? d=some o)(hd:o.data=.dict es ep)(U:es.toList=G.map (entryOfKey (tupleKind (m8 prog w))))(hk:∀x∈G,IsTupleKey (m8 prog w) s.heap x.1 x.2.1)(hn:(G.map (·.1)).Nodup)(hs:∀x∈G,SmK x.1)(h:Q es s) :
 wpAny (model prog w) A (Builtin.Dict.entriesForEmpty id d) Q E s:=by
 unfold Builtin.Dict.entriesForEmpty;refine aa (j6 ho hd ?_);refine aa ?_;rw[<-yw];refine jf _ (λZ _ s'=>s'=s/\∀e∈Z,∃x∈G,e=entryOfKey (tupleKind (m8 prog w)) x) _ ?_ ?_ _ _ ⟨rfl,λe hm=>?_⟩
 .rintro e Z r s' ⟨rfl,Dh⟩
  obtain⟨x,L,rfl⟩:=Dh e dh;show wpAny _ _ (Builtin.Dict.quietEq (.ref x.2.1)>>=_) _ _ _;refine aa (ahs (hk x L) ?_);simp only[uz,jg];have h1:=ari (prog:=prog) (w:=w) hn hs L;rw[bc (by
   intro hc;have:(es.filter (·.hash==(entryOfKey (tupleKind (m8 prog w)) x).hash)).size=((G.map (entryOfKey (tupleKind (m8 prog w)))).filter (·.hash==tupleKeyHash (m8 prog w) x.1)).length:=by rw[<-U,<-jr,Array.toList_filter];rfl
   exact l_ hc (a_ (f_ this) h1))]
  exact aj ⟨rfl,λe U=>Dh e (bx _ U)⟩
 .rintro b s' ⟨rfl,_⟩
  exact aj h
 .rw[U]at hm
  obtain⟨x,L,rfl⟩:=bf.mp hm;exact⟨x,L,rfl⟩
def bbz{prog:Program}{w:World}{h Z:Heap}{G:List Key}{p a:Addr}(x:IsTupleKey (m8 prog w) h G p)(U:∀b o,h.get? b=some o->Z.get? b=some o):IsTupleKey (m8 prog w) Z G p:=
 let ⟨o,items,n,ho,r⟩:=x;⟨o,items,n,U p o ho,r⟩
set_option tactic.hygienic true in
def bb0(q4:(d==sysModules)=false)(hd:s.heap.DictOfH (tupleKind (m8 prog w)) d u)(hs:∀x∈u,SmK x.1)(q5:u.length<=sizeLine)(h:∀h',h'.DictOfH (tupleKind (m8 prog w)) s.heap.objs.size u->(∀b o,s.heap.get? b=some o->h'.get? b=some o)->Q (.ref s.heap.objs.size) { s with heap:=h' }) :
 wpAny (model prog w) A (call (.type "dict") [.ref d]) Q E s:=by
 refine callType_codes (Q₁:=λobj R=>obj=.ref s.heap.objs.size/\R={ s with heap:=s.heap.push { cls:=.type "dict",data:=.dict #[] } }) F.kt_called_dict (F.kt_typeCall_dict_1 _) F.entry_dict_init (kt_code_dict_new _ ⟨rfl,rfl⟩) ?_;rintro obj R ⟨rfl,rfl⟩;have q7:=hd.typeIs;obtain⟨od,Y,q6,qq,q3,L,U,q0,S⟩:=hd;have keep:∀b o,s.heap.get? b=some o->(s.heap.push { cls:=.type "dict",data:=.dict #[] }).get? b=some o:=λb o e=>ao _ e
 have G:(s.heap.push { cls:=.type "dict",data:=.dict #[] }).get? s.heap.objs.size=some { cls:=.type "dict",data:=.dict #[] }:=bu _ rfl;have qv:Shared.TypeIs { s with heap:=s.heap.push { cls:=.type "dict",data:=.dict #[] } } (.ref s.heap.objs.size) "dict":= ⟨_,G,rfl⟩;have y:Shared.TypeIs { s with heap:=s.heap.push { cls:=.type "dict",data:=.dict #[] } } (.ref d) "dict":= ⟨od,keep _ _ qq,q3.1⟩;have C:=keep _ _ qq;have q1:s.heap.objs.size≠d:=λe=>absurd (aq qq) (by rw[e];exact qd _)
 have J:Y.size=u.length:=size_of_entries U;refine⟨qv,F.args_dict_init_2 _ _,?_⟩;unfold Builtin.«dict.__init__»;refine aa ?_;unfold Builtin.Dict.selfAndRest;refine aa (wpAny_notOrdered_dict qv ?_);show wpAny _ _ (pure (s.heap.objs.size,[Value.ref d])) _ _ _;refine aj ?_;show wpAny _ _ (Builtin.Dict.updateFrom "dict.__init__" s.heap.objs.size (.ref d) [] .none) _ _ _;unfold Builtin.Dict.updateFrom;refine aa (uf y ?_);rw[bc (by decide)];refine aa ?_;unfold Builtin.Dict.merge;refine aa ?_;unfold Builtin.Dict.readDirectly;refine aa (iu y isSubtype_dict_dict ?_);simp only[jc,bw,gm];refine aa (o4 y F.slot_dict_iter.lookup (aj ?_));simp only[zx,jg];refine aa (aj ?_);unfold Builtin.Dict.mergeDict;rw[bc (by simpa using q1)];unfold Builtin.Dict.showsAll;rw[bc (by rw[q4];exact ig)];refine aa (aj ?_);refine aa (j6 C L ?_);have kk:∀{h':Heap},(∀b o,s.heap.get? b=some o->h'.get? b=some o)->∀x∈u,(tupleKind (m8 prog w)).is h' x.1 x.2.1:=λhk x hx=>bbz (a:=d) (q0 x hx) hk
 have qk:Y=#[]->∀s',s'={ s with heap:=s.heap.push { cls:=.type "dict",data:=.dict #[] } }->wpAny (model prog w) A.in1.in1 (Builtin.Dict.addKeywords s.heap.objs.size []>>=λ_=>ret Value.none) (λfin s'=>match fin with|.done f=>wants (λr Z=>r=Value.none/\Q (.ref s.heap.objs.size) Z) E (.ok f) s'|.again c'=>c'.quiet=true/\codeAny (model prog w) A.in1 c' (wants (λr Z=>r=Value.none/\Q (.ref s.heap.objs.size) Z) E) s') (λe s'=>wants (λr Z=>r=Value.none/\Q (.ref s.heap.objs.size) Z) E (.error e) s') s':=λhe s' Lw=>by have q2:u=[]:=o7.mp (by rw[<-J,he];rfl);subst Lw;refine aa (aj (aj ⟨rfl,h _ ⟨_,#[],0,G,⟨rfl,rfl,rfl⟩,rfl,?_,kk keep,S⟩ keep⟩));rw[q2];rfl
 dsimp only;split
 .refine aa (j6 G rfl ?_)
  rw[bz (show(#[]:Array DictEntry).isEmpty=true from rfl)];refine aa (ae8 C L U (kk keep) S hs ?_);split
  .refine aa (wpAny_updateDictKeysTo G rfl (aj ?_) (by show Y.size<=_;exact a_ (f_ J) (a_ q5 x_)))
   have Px:∀b o,s.heap.get? b=some o->((s.heap.push { cls:=.type "dict",data:=.dict #[] }).update s.heap.objs.size (Obj.mapDictKeys λ_=>Y)).get? b=some o:=λb o e=>by rw[t7 _ _ (kj (dq (aq e)))];exact keep b o e
   refine aa (aj (aj ⟨rfl,h _ ⟨_,Y,0+1,jz _ G (Obj.isFreed_of_dict (Obj.data_mapDictKeys rfl _)),⟨rfl,rfl,rfl⟩,Obj.data_mapDictKeys rfl _,U,kk Px,S⟩ Px⟩))
  .rename_i Q3
   exact aj (qk (Array.isEmpty_iff.mp (by simpa using Q3)) _ rfl)
 .rename_i hf
  have he:Y=#[]:=by
   apply yx;intro Q3;have hx:u≠[]:=λe=>Q3 (Array.eq_empty_of_size_eq_zero (by rw[J,e];rfl))
   obtain⟨x,ys,rfl⟩:=List.exists_cons_of_ne_nil hx;have Dh:(Y.all λe=>(keyPart e.key).isSome)=true:=by simp only[Bool.not_eq_true',Bool.not_eq_false,au]at hf;exact hf.2
   rw[<-Array.all_toList,U,dj,List.all_cons,au]at Dh;exact Bool.noConfusion (Dh.1:(keyPart (.ref x.2.1)).isSome=true)
  refine aa (wpAny_dictEpoch C L ?_);refine aa (j6 C L ?_);refine aa ?_;rw[he,vz];simp only[Std.Legacy.Range.size,gf,Ba,Nat.sub_zero,rz,Nat.sub_self,Nat.div_one,List.range'_zero,List.forIn_nil];exact aj (aj (qk he _ rfl))
end Q6
namespace Sm
open PySem L2
open MW (Ex Cv OEx Ka Bx m5 Lv Tg Res di MO G9 Cp Op2 Blt Bm Kx Src)
set_option tactic.hygienic true in
def aw3(h:MW.agv l=true):∀k∈l.map (·.1),Q6.SmK k:=λk Y=>by
 obtain⟨p,Z,rfl⟩:=bf.mp Y;simp only[MW.agv,ik]at h;have:=h p Z;split at this
 .rename_i i j e
  simp only[au,cu]at this;exact⟨i,j,this.1.1.1,this.1.1.2,this.1.2,this.2,e⟩
 .cases this
def a5f{X:Cx}(S:j9 nm X.K Z H M)(G:H p=none)(r:t8 X.K Z H (λk U=>k=U) kvs l) :
 j9 nm X.K (Z.add p) (upd H p (.dT l)) (M++[.dT kvs])/\Le Z H (Z.add p) (upd H p (.dT l))/\Rep X.K (Z.add p) (upd H p (.dT l)) (.ref M.length) (.ref p):=by
 obtain⟨L,le⟩:=S.new (H':=upd H p (.dT l)) (o:=.dT kvs) G (λa u e=>by rw[j0 (mj e G)];exact e) λle=>⟨l,wz,r.mono le⟩
 exact⟨L,le,.ref (by show(Z.l++[p])[M.length]?=some p;rw[<-S.len];simp)⟩
set_option tactic.hygienic true in
def a5g:By X (.type "dict") (rB nm X.K .dict):=λC s σ H vs us Q I u hh=>by
 obtain⟨ι,M,ds,d,M',S,r,e,q⟩:=hh;cases r with
 |nil=>simp[MW.qy]at e
 |@cons x v _ _ h t =>
  cases t with
  |cons J t2=>cases x<;>simp[MW.qy]at e
  |nil =>
   cases u with
   |cons ru rn =>
    cases rn;cases h with
    |@ref n p hp =>
     cases ru;have e:(match M[n]? with|some (.dT Z)=>if MW.agv Z then MW.new (.dT Z) M else .bad|_=>.bad)=.ok d M':=e;split at e
     .rename_i Z hM
      split at e
      .rename_i hs
       cases e;obtain⟨l,h1,J⟩:=S.obj n _ p hM hp;obtain⟨z,G,U,rel,dd⟩:=aqe I.Ad h1;obtain⟨R,k2⟩:=ajn rel;have hl:U.length=l.length:=by have:=lg List.length R;simpa using this
       refine Q6.bb0 G dd (λx hx=>?_) (by rw[hl];exact z) λh' Y keep=>?_
       .refine aw3 hs x.1 ?_
        rw[<-Qt J,<-R];exact bf.mpr ⟨x,hx,rfl⟩
       .have L:H s.heap.objs.size=none:=I.Ad.fresh (cg _)
        obtain⟨S2,zb,r2⟩:=a5f (X:=X) S L J;refine⟨.ref s.heap.objs.size,upd H s.heap.objs.size (.dT l),I.laid (a:=s.heap.objs.size) (o:=.dT l) (t':=s.toks) keep (cg _) ?_,rfl,q _ _ _ zb S2 r2⟩;obtain⟨o,es,y,g1,g2,g3,g4,g5,g6⟩:=Y;exact⟨z,vq.mpr (kj (dq I.big)),U,rel.keeps (λb ys e=>by rw[j0 (mj e L)];exact e),o,es,y,g1,g2,g3,g4,g6⟩
      .cases e
     .cases e
    |_=>cases e
set_option tactic.hygienic true in
theorem ints_rep{y:Io}{H:Hp}{K:Fg}:∀{G:List Dv}{Y:List V}{is:Zl}{J:U1},nq K y H G Y->Vals Y is->MW.Ys G=some J->∃Z:Array (Int×Tok),is.toArray=intItems Z/\Z.toList.map (·.1)=J
 |_,_,_,_,.nil,.nil,h=>by cases h;exact⟨#[],by simp[intItems],rfl⟩
 |_,_,_,_,.cons r t,.cons rv tv,h=>by
  cases r<;>simp only[MW.Ys]at h<;>try cases h
  rename_i i;obtain⟨S,u,L⟩:=cz.mp h;obtain⟨Z,C,g2⟩:=ints_rep t tv u;obtain⟨R,rfl⟩:=rv;refine⟨#[(i,R)]++Z,?_,by simp[g2,L]⟩;have U:=lg Array.toList C;apply Array.toList_inj.mp;simp[intItems]at U⊢;exact U
theorem ae9:∀(l:U1)(z m:Int),(m=z\/m∈l)->z<=m->(∀a∈l,a<=m)->l.foldl (λm x=>if m<x then x else m) z=m
 |[],z,m,h,_,_=>by rcases h with h|h;exact h.symm;cases h
 |a::l,z,m,h,hz,Dh=>by
  rw[Ae];have U:=Dh a dh;refine ae9 l _ m ?_ (by split<;>lia) (λb G=>Dh b (bx _ G));rcases h with h|h
  .subst h;left;split<;>lia
  .rcases cj.mp h with h|h
   .subst h
    by_cases Z:z<m
    .left;rw[bz Z]
    .left;rw[bc Z];lia
   .exact .inr h
def aw4(e:MW.two ds f g M=.ok d Z):Z=M/\((∃i j,ds=[.int i,.int j]/\d=.int (f i j))\/∃x m,ds=[x]/\g x=some m/\d=.int m):=by
 cases ds with
 |nil=>cases e
 |cons x r=>cases r with
  |nil =>
   obtain⟨e1,U⟩:=xj (show Res.uy ((g x).map MW.D.int) M=.ok d Z from e);obtain⟨m,L,G⟩:=cz.mp e1;exact⟨U,.inr ⟨x,m,rfl,L,G.symm⟩⟩
  |cons y r=>cases r with
   |nil =>
    cases x<;>try cases e
    cases y<;>cases e;exact⟨rfl,.inl ⟨_,_,rfl,rfl⟩⟩
   |cons _ _=>cases e
def ark{h:List Int->Option Int}(e:MW.two ds f (λd=>((MW.gn M d).bind MW.Ys).bind h) M=.ok d M'):M'=M/\((∃i j,ds=[.int i,.int j]/\d=.int (f i j))\/∃x G n Z m,ds=[x]/\MW.gn M x=some G/\MW.Ys G=some (n::Z)/\h (n::Z)=some m/\d=.int m\/h []=some m):=by
 obtain⟨a,b|⟨x,m,h3,h4,h5⟩⟩:=aw4 e
 .exact⟨a,.inl b⟩
 .obtain⟨Z,L,U⟩:=dw.mp h4
  obtain⟨G,e7,e8⟩:=dw.mp L;cases Z with
  |nil=>exact⟨a,.inr ⟨x,G,0,[],m,.inr U⟩⟩|cons n Z=>exact⟨a,.inr ⟨x,G,n,Z,m,.inl ⟨h3,e7,e8,U,h5⟩⟩⟩
def Qv(h:Vals [v] Z):∃u,Z=[u]/\RelV v u:=L2.Vals.one h
def aak(h:i<Z.size):(Z.toList.map (·.1))[i]?=some (numAt Z i):=by simp[numAt,h]
def best{Z:Array (Int×Tok)}{R:Int->Int->Prop}(g2:Z.toList.map (·.1)=n::l)(h:b<Z.size)(b2:∀i,i<Z.size->R (numAt Z i) (numAt Z b)):(numAt Z b=n\/numAt Z b∈l)/\∀a∈n::l,R a (numAt Z b):=by
 constructor
 .have:=az (aak h)
  rw[g2]at this;exact cj.mp this
 .intro a L
  rw[<-g2]at L;obtain⟨i,G⟩:=v8.mp L;have U:i<Z.size:=by have:=(ak.mp G).1;simpa using this
  rw[aak U]at G;cases G;exact b2 i U
def aw5(r:nq K ι H [.int i,.int j] Z):Z=[.int i,.int j]:=by
 cases r with
 |cons G t1=>cases t1 with
  |cons U L=>cases L;cases G;cases U;rfl
def aw6(I:Inv X pins σ H s)(S:j9 nm X.K ι H M)(r:nq X.K ι H [x] L)(O2:Vals L us)(e1:MW.gn M x=some xs)(e2:MW.Ys xs=some (n::ns)):∃a Z,us=[.ref a]/\s.heap.IsList a (intItems Z)/\Z.toList.map (·.1)=n::ns/\0<Z.size:=by obtain⟨v,rfl,rv⟩:=Ca r rfl;obtain⟨u,rfl,ru⟩:=Qv O2;obtain⟨p,ws,rfl,hp,rl⟩:=qm S rv e1;cases ru;obtain⟨is,G,pl,_⟩:=I.list (Ie.of hp);obtain⟨Z,g1,U⟩:=ints_rep rl G e2;refine⟨_,Z,rfl,by rw[<-g1];exact pl.isList,U,?_⟩;have:=lg List.length U;simp at this;lia
def bb1(U:X.calm=true):By X (.builtin "max") (rB nm X.K .max):=λZ s σ H vs us Q I L hh=>by
 obtain⟨ι,M,ds,d,M',S,r,e,q⟩:=hh;obtain⟨rfl,⟨i,j,rfl,rfl⟩|⟨x,xs,n,l,m,⟨rfl,e1,e2,G,rfl⟩|G⟩⟩:=ark (h:=MW.a1d) e
 .cases aw5 r
  exact alu U Z s σ H _ us Q I L ⟨i,j,rfl,q ι H _ (Le.refl _ _) S (.int _)⟩
 .obtain⟨a,xa,rfl,pl,g2,Q3⟩:=aw6 I S r L e1 e2
  refine max_intList (I.ok.hd U) pl Q3 λw h' tk hw keep=>?_
  obtain⟨t,rfl⟩:=intItems_at hw;obtain⟨b1,b2⟩:=argBest_gt (numAt xa) (xa.size-1);obtain⟨c1,c2⟩:=best (R:=(·<=·)) g2 (by omega) λi hi=>b2 i (by lia)
  cases G;rw[ae9 l n _ c1 (c2 n dh) λa h=>c2 a (bx _ h)]at q;exact⟨.int _,H,I.kept keep,⟨t,rfl⟩,q ι H _ (Le.refl _ _) S (.int _)⟩
 .cases G
def afa(n d:Nat)(o:Option Int):HT.sIx n d o=MW.clip n d o:=by
 cases o with
 |none=>rfl
 |some i =>
  show(if i<0 then(i+(n:Int)).toNat else min i.toNat n)=(if 0<=i then min i.toNat n else(i+(n:Int)).toNat)
  by_cases h:i<0
  .rw[bz h,bc (by lia)]
  .rw[bc h,bz (by lia)]
def tO(nm:Nm)(W:G9)(K:Fg)(o:OEx):TO:=fun σ H Q=>∃U ρ M d L,j9 nm K U H M/\u5 K U H ρ σ/\o.den W ρ M=.ok d L/\∀Z G,Le U H Z G->j9 nm K Z G L->Q d G
def PO.weak(h:PO X e t)(w:∀G H Q,t' G H Q->t G H Q):PO X e t':=λZ s G H Q I q=>h Z s G H Q I (w G H Q q)
def PO.of(h:PO X e t)(w:∀σ H Q G L M d U,j9 nm X.K G H M->u5 X.K G H L σ->o'.den W L M=.ok d U->(∀Z H',Le G H Z H'->j9 nm X.K Z H' U->Q d H')->t σ H Q):PO X e (tO nm W X.K o'):=PO.weak h fun σ H Q z_=>by obtain⟨G,L,M,d,U,S,R,e,q⟩:=z_;exact w σ H Q G L M d U S R e q
def aw7:PO X none (tO nm W X.K .none):=PO.of awe λU H Q Z L M d G S R e q=>by rw[MW.ak8]at e;cases e;exact q Z H (Le.refl _ _) S
set_option tactic.hygienic true in
def aw8(J:PE X a (tE nm W X.K U)):PO X (some a) (tO nm W X.K (.some U)):=PO.of (awf J) fun σ H Q ι u M d y S R e q=>by rw[MW.ak9]at e;obtain⟨x,L,G,e⟩:=fj e;split at e<;>cases e;rename_i i;exact one S R G λZ C v le Y R1 r=>by cases r;exact⟨i,rfl,q Z C le Y⟩
set_option tactic.hygienic true in
def bb2(ha:PE X a (tE nm W X.K a'))(hl:PO X lo (tO nm W X.K J))(hh:PO X hi (tO nm W X.K Q7)):PE X (.Subscript a (.Slice lo hi none p2) pos) (tE nm W X.K (.cut a' J Q7)):=
 PE.of (aqi awh ha hl hh) fun σ H Q ι ρ M d M' S R e q=>by
  rw[MW.au4]at e;obtain⟨x,M1,e1,e⟩:=fj e;obtain⟨l,M2,e2,e⟩:=fj e;obtain⟨h,M3,e3,e⟩:=fj e;obtain⟨e4,e5⟩:=xj e;subst e5;refine one S R e1 λG H1 v le S1 R1 r=>⟨G,ρ,M1,l,M2,S1,R1,e2,λU H2 L S2=>⟨U,ρ,M2,h,_,S2,R1.mono L,e3,λu H3 Y S3=>?_⟩⟩
  have r3:=(r.mono L).mono Y;have fin:=λC H' w V7 S' r'=>q C H' w (((le.trans L).trans Y).trans V7) S' r'
  have lst:∀Z,MW.gn M' x=some Z->d=.vl (MW.agr Z l h)->baq X.K v l h H3 Q:=λZ hd ed=>by
   obtain⟨p,vs,rfl,hp,rl⟩:=qm S3 r3 hd;refine⟨p,vs,rfl,Ie.of hp,λp' y=>?_⟩;have:nq X.K u H3 (MW.agr Z l h) (al1 vs l h):=by unfold MW.agr al1;rw[afa,afa,<-rl.length];exact(rl.drop _).take _
   obtain⟨S4,qq,r4⟩:=Qs (X:=X) S3 y this;subst ed;exact fin _ _ _ qq S4 r4
  obtain⟨Z,hd,ed⟩:=cz.mp (show(MW.gn M' x).map (λZ=>MW.D.vl (MW.agr Z l h))=some d from e4);exact lst Z hd ed.symm
def afb(K:Fg)(T:String):PySem.W.kitOne K (.type T) (.type T)=some true:=by unfold PySem.W.kitOne;rw[bz (by simp)]
def bb3{bt bi:Option Bool}(ht:∀b,bt=some b->PySem.W.kitOne X.K (.type "tuple") (.type T)=some b)(hi:∀b,bi=some b->PySem.W.kitOne X.K (.type "int") (.type T)=some b)(hb:∀d M,MW.qy t [d] M=MW.isR bt bi M d)(hg:Gl X n)(hm:X.mg n=none)(hv:bootBuiltins n=some (.builtin "isinstance"))(hn:n≠"__name__")(Q4:(n==("__debug__": Str))=false)(q1:Gl X G)(qk:X.mg G=none)(qq:bootBuiltins G=some (.type T))(Yy:G≠"__name__")(qv:(G==("__debug__": Str))=false)(ha:PE X a (tE nm W X.K a'))(he:starEach [a,.Name G p'] X.env=(false,eval a X.env)::starEach [.Name G p'] X.env)(q0:starEach [.Name G p'] X.env=(false,eval (.Name G p') X.env)::starEach [] X.env)(Hz:(backTo pos (starEach [.Name G p'] X.env)).any (·.1)=false):PE X (.Call (.Name n p) [a,.Name G p'] [] pos) (tE nm W X.K (.blt t (.cons a' .nil))):=by
 intro L s σ H Q I hh;obtain⟨ι,ρ,M,d,M',S,R,e,q⟩:=hh;rw[MW.aa4]at e;obtain⟨ds,M1,e1,e⟩:=fj e;rw[MW.Hg]at e1;obtain⟨x,M2,e2,e1⟩:=fj e1;rw[MW.Mp]at e1;cases e1;refine jd (Cg I hg hm hv ?_ hn Q4);refine v5 (Q:=EP X L σ Q) ?_ he Hz;rw[he];show wpAny _ _ (spliced ((false,eval a X.env)::backTo pos (starEach [.Name G p'] X.env))) _ _ s;refine kh (Bf (ha L s σ H (λv U=>∃Z,Le ι H Z U/\j9 nm X.K Z U M1/\Rep X.K Z U x v) I ⟨ι,ρ,M,x,M1,S,R,e2,λZ U v le S1 r=>⟨Z,le,S1,r⟩⟩) λu s1 z_=>?_);obtain⟨v,U,I1,r1,Z,le,S1,r⟩:=z_;rw[q0];show wpAny _ _ (spliced ((false,eval (.Name G p') X.env)::backTo pos (starEach [] X.env))) _ _ s1;refine kh (Cg I1 q1 qk qq ?_ Yy qv);refine uv ?_;have e:MW.qy t [x] M1=.ok d M':=e;rw[hb]at e;obtain⟨e4,rfl⟩:=xj e;obtain⟨b,e3,rfl⟩:=cz.mp e4;cases r with
 |tup h r=>exact Z4 I1 r1 (.tup h) (ht b e3) λtk=>⟨.bl b,U,I1.tok _,rfl,q Z U _ le S1 (.bl b)⟩
 |int i=>exact Z4 I1 r1 (.int i) (hi b e3) λtk=>⟨.bl b,U,I1.tok _,rfl,q Z U _ le S1 (.bl b)⟩
 |_=>cases e3
end Sm
namespace Sm
open PySem L2
open MW (Ex Cv OEx Ka Bx m5 Lv Tg Res di MO G9 Cp Op2 Blt Bm Kx Src)
def Zd{n:Nat}(hh:A.handled=none)(hr:IsRange s.heap r a b c t u v)(X3:Builtin.Range.small a b c=true)(hn:Builtin.Range.rangeSize a b c=n)(qq:n<=2^24)(hQ:∀(Z:Heap) (G:Nat) (acc:Q1),(∀b o,s.heap.get? b=some o->Z.get? b=some o)->ItemsOf (λi v=>∃t,v=.int (a+i*c) t) acc n->Q acc.toList { s with heap:=Z,toks:=G }):wpAny (model prog w) A (collect (.ref r)) Q E s:=by
 unfold collect;refine aa (wpAny_runValue (jy F.entry_proto_collect ?_));rw[jm F.plain_proto_collect _];show wpAny _ A.in1 (newList []>>=λl=>again (.builtin "list.__iadd__" ⟨[l,.ref r],[]⟩)) _ _ s;refine aa (lz ?_);refine aj ⟨vm uw _,jy F.entry_list_iadd ?_⟩;rw[jm uw _];show wpAny _ A.in1 (Builtin.List.listExtendWith (.ref s.heap.objs.size) (.ref r) (.ref s.heap.objs.size)) _ _ _;have keep:∀b o,s.heap.get? b=some o->(s.heap.push { cls:=.type "list",data:=.seq ([]:Zl).toArray }).get? b=some o:=λb o e=>ao _ e
 have qk:(s.heap.push { cls:=.type "list",data:=.seq ([]:Zl).toArray }).get? s.heap.objs.size=some { cls:=.type "list",data:=.seq #[] 0 }:=bu _ rfl;have q0:=wpAny_extend_range (prog:=prog) (w:=w) (A:=A) (R:=λr' s'=>∃(Z:Heap)(G:Nat)(acc:Q1)(U:Nat),r'=.ok (.ret (.ref s.heap.objs.size))/\s'={ s with heap:=Z,toks:=G }/\(∀b o,s.heap.get? b=some o->Z.get? b=some o)
 /\Z.get? s.heap.objs.size=some { cls:=.type "list",dict:=none,data:=.seq acc U,slots:=#[] }/\ItemsOf (λi v=>∃t,v=.int (a+i*c) t) acc n)
  (s:={ s with heap:=s.heap.push { cls:=.type "list",data:=.seq ([]:Zl).toArray } }) hh (keep _ _ hr) X3 hn qq s.heap.objs.size (.ref s.heap.objs.size) 0 qk
  λZ G acc U hk hS Dc=>⟨Z,G,acc,U,rfl,rfl,λb o e=>hk b o (dq (aq e)) (keep b o e),hS,Dc⟩
 have L:∀{r':Result}{s':Shared},(∃(Z:Heap)(G:Nat)(acc:Q1)(U:Nat),r'=.ok (.ret (.ref s.heap.objs.size))/\s'={ s with heap:=Z,toks:=G }/\(∀b o,s.heap.get? b=some o->Z.get? b=some o)
 /\Z.get? s.heap.objs.size=some { cls:=.type "list",dict:=none,data:=.seq acc U,slots:=#[] }/\ItemsOf (λi v=>∃t,v=.int (a+i*c) t) acc n)->∃(Z:Heap)(G:Nat)(acc:Q1)(U:Nat),r'=.ok (.ret (.ref s.heap.objs.size))/\s'={ s with heap:=Z,toks:=G }/\Z.get? s.heap.objs.size=some { cls:=.type "list",dict:=none,data:=.seq acc U,slots:=#[] }/\Q acc.toList s':=λ⟨Z,G,acc,U,e1,e2,e3,e4,e5⟩=>⟨Z,G,acc,U,e1,e2,e4,by rw[e2];exact hQ Z G acc e3 e5⟩
 refine iz q0 (λfin s' hf=>?_) (λe s' he=>?_)
 .cases fin with
  |done f =>
   obtain⟨Z,G,acc,U,e1,rfl,e4,e5⟩:=L hf;cases e1;exact aa (wpAny_load e4 (aj e5))
  |again U =>
   refine⟨hf.1,ue hf.2 λr' q1 qv=>?_⟩;obtain⟨Z,G,acc,U,e1,rfl,e4,e5⟩:=L qv;subst e1;exact aa (wpAny_load e4 (aj e5))
 .obtain⟨_,_,_,_,e1,_⟩:=L he
  cases e1
def Ud{n:Nat}(hh:A.handled=none)(hr:IsRange s.heap r a b c t u v)(X3:Builtin.Range.small a b c=true)(hn:Builtin.Range.rangeSize a b c=n)(Z:n<=2^24)(h:∀(U:Heap) (L:Nat) (acc:Q1),(∀b o,s.heap.get? b=some o->U.get? b=some o)->ItemsOf (λi v=>∃t,v=.int (a+i*c) t) acc n->G (.ref U.objs.size) { s with heap:=U.push { cls:=.type "tuple",data:=.seq acc },toks:=L }) :
 codeAny (model prog w) A (.call (.builtin "tuple.__new__") ⟨[.type "tuple",.ref r],[]⟩) (wants G E) s:=by
 refine codeAny_of_tree ?_;show wpAny _ A.in1 (do checkBuiltinCall "tuple.__new__" ⟨[.type "tuple",.ref r],[]⟩;again (.builtin "tuple.__new__" ⟨[.type "tuple",.ref r],[]⟩)) _ _ s;refine aa (wpAny_of_eq (F.newCall_tuple_1 _) (aj ⟨vm F.plain_tuple_new _,jy F.entry_tuple_new ?_⟩));rw[jm F.plain_tuple_new _];have qv:=sub_tuple_self;have q0:=init_tuple_lookup;have qk:=madeHere_tuple;have qq:s.TypeIs (.ref r) "range":= ⟨_,hr,rfl⟩
 wp_walk using uf qq,Zd (A:=A.in1) hh hr X3 hn Z
 intro U L acc hk Dc;show wpAny _ _ (Builtin.Tuple.tupleExact acc.toList.toArray>>=λv=>ret v) _ _ _;unfold Builtin.Tuple.tupleExact;refine aa (lz ?_ (by show acc.toList.toArray.size<=sizeLine;simp only[Array.toArray_toList];rw[Dc.1,jw];exact Z));refine aj ?_;have e:acc.toList.toArray=acc:=by simp
 rw[e];exact h U L acc hk Dc
def Ue{n:Nat}(hh:A.handled=none)(hr:IsRange s.heap r a b c t u v)(X3:Builtin.Range.small a b c=true)(hn:Builtin.Range.rangeSize a b c=n)(U:n<=2^24)(hQ:∀(L:Heap) (tk:Nat) (acc:Q1),(∀b o,s.heap.get? b=some o->L.get? b=some o)->ItemsOf (λi v=>∃t,v=.int (a+i*c) t) acc n->Q (.ref L.objs.size) { s with heap:=L.push { cls:=.type "tuple",data:=.seq acc },toks:=tk }) :
 wpAny (model prog w) A (call (.type "tuple") [.ref r]) Q E s:=by
 refine callType_codes (Q₁:=λobj Z=>Z.TypeIs obj "tuple"/\Q obj Z) F.called_tuple (F.typeCall_tuple_1 _) F.entry_object_init
  (Ud (A:=A.in1) hh hr X3 hn U λL tk acc hk Dc=>⟨⟨_,bu _ rfl,rfl⟩,hQ L tk acc hk Dc⟩) λobj Z G=>?_
 exact⟨G.1,F.args_object_init_2 obj _,object_init_meets F.called_tuple.init.lookup F.called_tuple.made (by decide) prog w A.in1 _ Z ⟨G.1,rfl,G.2⟩⟩
def aht(h:ItemsOf (λi v=>∃t,v=.int (0+(i:Int)*1) t) acc n):Vals ((List.range n).map λ(k:Nat)=>V.int (k:Int)) acc.toList:=by
 have go:∀(l:Zl)(k:Nat),(∀(j:Nat)(v:Value),l[j]?=some v->∃t,v=Value.int ((k+j:Nat):Int) t)->Vals ((List.range' k l.length).map λ(k:Nat)=>V.int (k:Int)) l:=by
  intro l
  induction l with
  |nil=>intro k _;exact .nil
  |cons v l U =>
   intro k G;rw[gq,zu,dj];refine .cons ?_ (U (k+1) λj v Z=>?_)
   .exact G 0 v rfl
   .obtain⟨t,e⟩:=G (j+1) v (by simpa using Z)
    exact⟨t,by rw[e];congr 1;lia⟩
 have:=go acc.toList 0 (λj v Z=>by
  obtain⟨t,e⟩:=h.2 j v (by simpa using Z);exact⟨t,by rw[e];congr 1;lia⟩)
 rw[jr,h.1,<-List.range_eq_range']at this;exact this
def ahu(n:Nat):nq K G H ((List.range n).map λ(k:Nat)=>MW.D.int (k:Int)) ((List.range n).map λ(k:Nat)=>V.int (k:Int)):=by
 generalize List.range n=l
 induction l with
 |nil=>exact .nil|cons k l Z=>exact .cons (.int _) Z
set_option tactic.hygienic true in
def a5h(hr:zp 8 X.A)(hg:Gl X n)(hm:X.mg n=none)(hv:bootBuiltins n=some (.type "tuple"))(hn:n≠"__name__")(Q4:(n==("__debug__": Str))=false)(q3:Gl X G)(qk:X.mg G=none)(qq:bootBuiltins G=some (.type "range"))(Yy:G≠"__name__")(qv:(G==("__debug__": Str))=false)(ha:PA X [a] (Vu nm W X.K (.cons a' .nil)))(he:starEach [.Call (.Name G p') [a] [] L] X.env=(false,eval (.Call (.Name G p') [a] [] L) X.env)::starEach [] X.env)(Hz:(backTo q1 (starEach [] X.env)).any (·.1)=false)(q0:starEach [a] X.env=(false,eval a X.env)::starEach [] X.env)(q4:(backTo L (starEach [] X.env)).any (·.1)=false) :
 PE X (.Call (.Name n p) [.Call (.Name G p') [a] [] L] [] q1) (tE nm W X.K (.agp a')):=by
 intro Z s y H Q I hh;obtain⟨ι,ρ,M,d,M',S,R,e,q⟩:=hh;rw[MW.aoh]at e;obtain⟨x,M1,e1,e⟩:=fj e;split at e<;>try cases e
 rename_i i;split at e<;>cases e;rename_i hi;refine jd (Cg I hg hm hv ?_ hn Q4);refine jo (Q:=EP X Z y Q) ?_ he Hz;rw[he];show wpAny _ _ (spliced ((false,eval (.Call (.Name G p') [a] [] L) X.env)::backTo q1 (starEach [] X.env))) _ _ s;refine kh ?_;refine jd (Cg I q3 qk qq ?_ Yy qv);refine jo (Bf (ha L Z s y H (λvs J=>∃Y,vs=[.int i]/\Le ι H Y J/\j9 nm X.K Y J M') I ⟨ι,ρ,M,[.int i],M',S,R,by simp[e1,Res.bind],λY J vs le S1 r=>?_⟩) λus U ⟨vs,J,I1,r1,Y,ev,Vv,S1⟩=>?_) q0 q4
 .obtain⟨v,ev,rv⟩:=Ca r rfl
  cases rv;exact⟨Y,ev,le,S1⟩
 subst ev;obtain⟨u,rfl,ru⟩:=Qv r1;obtain⟨t,rfl⟩:=ru;refine call_range_1 ?_;show wpAny _ _ (spliced []) _ _ _;refine uv ?_;have keep:∀b o,U.heap.get? b=some o->(U.heap.push { cls:=.type "range",data:=.fields #[.int 0 U.toks,.int i t,.int 1 (U.toks+1)] }).get? b=some o:=λb o e=>ao _ e
 refine Ue (n:=i.toNat) hr.hd (bu _ rfl) (small_one (by lia) (by lia) (by lia) (by omega)) (by rw[rangeSize_one];split<;>lia) (by lia) λC tk acc hk Dc=>?_
 have I2:Inv X Z y J { U with heap:=C,toks:=tk }:=I1.kept λb o e=>hk b o (keep b o e)
 have hz:((List.range i.toNat).map λ(k:Nat)=>V.int (k:Int)).length<=sizeLine:=by simp[jw];omega
 have hf:J C.objs.size=none:=I2.Ad.fresh (cg _);have I3:Inv X Z y (upd J C.objs.size (.tup ((List.range i.toNat).map λ(k:Nat)=>V.int (k:Int)))) { U with heap:=C.push { cls:=.type "tuple",data:=.seq acc },toks:=tk }:=
  I2.laid (a:=C.objs.size) (t':=tk) (λb o e=>ao _ e) (cg _) (show zj X.prog X.w _ _ _ (.tup _)from⟨hz,acc.toList,aht Dc,by simpa using L2.Y6.new _ _⟩)
 obtain⟨S2,zb,r2⟩:=O1 (X:=X) S1 hf (ahu i.toNat);exact⟨.ref C.objs.size,_,I3,rfl,q Y _ _ (Vv.trans zb) S2 r2⟩
end Sm
namespace EnT
open PySem PySem.Spec
open AutoSeq1 (wpAny_loadPart')
set_option tactic.hygienic true in
def arl(a:s.heap.IsTupleIter it t i)(b:s.heap.IsTuple t L)(e:L[i]?=some x)(q:∀G,G.IsTupleIter it t (i+1)->Heap.SameBut it s.heap G->Q x { s with heap:=G }):wpAny (model prog w) A (Builtin.SmallTypes.nextOf (.ref it)) Q E s:=by obtain⟨o,Y,C,Z⟩:=id a;obtain⟨y,J,S,R,U⟩:=b;unfold Builtin.SmallTypes.nextOf;refine aa (ji (name:=Str.ofString "__next__") a.typeIs u0 (gh u0 a.typeIs F.entry_tuple_iterator_next ?_ (F.args_tuple_iterator_next_1 _)));show wpAny _ _ (field (.ref it) 0>>=_) _ _ s;refine aa (jh Y Z (x:=.ref t) rfl ?_);show wpAny _ _ (if(Value.ref t==Value.none)=true then _ else field (.ref it) 1>>=_) _ _ s;rw[bc (show ¬((Value.ref t==Value.none)=true)by exact ig)];refine aa (jh Y Z (x:=.int i 0) rfl (aa (m7 J U ?_)));simp only[u9,e];refine aa (wpAny_setField Y Z (by simp) (aj ⟨x,rfl,aj (q _ ⟨_,jz _ Y (Obj.isFreed_of_fields (Obj.data_mapFields Z _)),(Obj.cls_mapFields ..).trans C,?_⟩ (gr ..))⟩));rw[Obj.data_mapFields Z];simp[rawInt]
set_option tactic.hygienic true in
def aw9(L:A.handled=none)(a:s.heap.IsTupleIter it t i)(b:s.heap.IsTuple t C)(e:C[i]?=none)(q:∀Z x,Heap.ExtBut it s.heap Z->(∃o,Z.get? x=some o/\o.cls=.type "StopIteration")->E (.ref x) { s with heap:=Z }):wpAny (model prog w) A (Builtin.SmallTypes.nextOf (.ref it)) Q E s:=by obtain⟨o,Y,y,G⟩:=id a;obtain⟨u,J,S,R,U⟩:=b;unfold Builtin.SmallTypes.nextOf;refine aa (ji (name:=Str.ofString "__next__") a.typeIs u0 (gh u0 a.typeIs F.entry_tuple_iterator_next ?_ (F.args_tuple_iterator_next_1 _)));show wpAny _ _ (field (.ref it) 0>>=_) _ _ s;refine aa (jh Y G (x:=.ref t) rfl ?_);show wpAny _ _ (if(Value.ref t==Value.none)=true then _ else field (.ref it) 1>>=_) _ _ s;rw[bc (show ¬((Value.ref t==Value.none)=true)by exact ig)];refine aa (jh Y G (x:=.int i 0) rfl (aa (m7 J U ?_)));simp only[u9,e];refine aa (qx (aa (wpAny_setField Y G (by simp) ?_)));show wpAny _ _ (newExc (.type "StopIteration") []>>=raiseNew) _ _ _;exact Q6.aa0 L λZ x k e=>q Z x (λb o n z=>k b o ((gr ..).extBut b o n z)) e
def ItB(b:Bool)(h:Heap)(it a:Addr)(i:Nat):Prop:=cond b (h.IsTupleIter it a i) (h.IsListIter it a i)
def SqB(b:Bool)(h:Heap)(a:Addr)(Z:Q1):Prop:=cond b (h.IsTuple a Z) (h.IsList a Z)
def ItB.at(x:ItB b h it a i)(k:∀o,h.get? it=some o->Z.get? it=some o):ItB b Z it a i:=by
 cases b with
 |true=>obtain⟨o,e,r⟩:=x;exact⟨o,k o e,r⟩
 |false=>obtain⟨o,e,r⟩:=x;exact⟨o,k o e,r⟩
def ItB.obj(x:ItB b h it a i):∃o,h.get? it=some o/\∀v,o.data≠.cell v:=by
 cases b with
 |true=>obtain⟨o,e,c,d⟩:=x;exact⟨o,e,λv z=>by rw[d]at z;cases z⟩
 |false=>obtain⟨o,e,c,d⟩:=x;exact⟨o,e,λv z=>by rw[d]at z;cases z⟩
def afc(a:ItB b s.heap it t i)(c:SqB b s.heap t G)(e:G[i]?=some x)(q:∀Z,ItB b Z it t (i+1)->Heap.SameBut it s.heap Z->Q x { s with heap:=Z }):wpAny (model prog w) A (Builtin.SmallTypes.nextOf (.ref it)) Q E s:=by
 cases b with
 |true=>exact arl a c e q|false=>exact wpAny_nextOf_list_item a c e q
def ajs(G:A.handled=none)(a:ItB b s.heap it t i)(c:SqB b s.heap t U)(e:U[i]?=none)(q:∀Z x,Heap.ExtBut it s.heap Z->(∃o,Z.get? x=some o/\o.cls=.type "StopIteration")->E (.ref x) { s with heap:=Z }):wpAny (model prog w) A (Builtin.SmallTypes.nextOf (.ref it)) Q E s:=by
 cases b with
 |true=>exact aw9 G a c e q|false=>exact wpAny_nextOf_list_end G a c e q
def axa{i:Nat}{Q:Y3}(he:IsEnum s.heap e it i old)(a:ItB b s.heap it t i)(c:SqB b s.heap t xs)(ex:xs[i]?=some x)(ne:e≠it)(q:∀L,IsEnumOut L e it ((i:Int)+1) x s.heap.objs.size->ItB b L it t (i+1)->L.get? s.heap.objs.size=some { cls:=.type "tuple",data:=.seq #[.int i s.toks,x] }->L.objs.size=s.heap.objs.size+1 ->
 (∀y o,y≠e->y≠it->s.heap.get? y=some o->L.get? y=some o)->Q (.ref s.heap.objs.size) { s with heap:=L,toks:=s.toks+1 }) :
 wpAny (model prog w) A (Builtin.«enumerate.__next__» ⟨[.ref e],[]⟩) (λfin s'=>∃v,fin=.done (.ret v)/\Q v s') E s:=by
 obtain⟨G,g,d,tk,os⟩:=s;show wpAny _ _ (field (.ref e) 2>>=_) _ _ _;refine aa (jh he rfl (x:=.ref it) rfl (aa (afc a c ex λh1 a1 s1=>?_)));have s1:Heap.SameBut it G h1:=s1;have e1:IsEnum h1 e it i old:=(s1.2 e ne).trans he;refine aa (jh e1 rfl (x:=rawInt i) rfl (aa (jh e1 rfl (x:=.none) rfl (aa (wpAny_mkInt ?_)))));show wpAny _ _ (setField (.ref e) 3 (rawInt ((i:Int)+1))>>=_) _ _ ⟨h1,g,d,tk+1,os⟩;refine aa (je e1 (by simp) λh2 e2 s2=>?_);have s2:Heap.SameBut e h1 h2:=s2;have e2:IsEnum h2 e it ((i:Int)+1) old:=e2;refine aa (je e2 (by simp) λh3 e3 s3=>?_);have s3:Heap.SameBut e h2 h3:=s3;have e3:IsEnum h3 e it ((i:Int)+1) old:=e3;refine aa (wpAny_newTuple ?_);have n3:h3.objs.size=G.objs.size:=by rw[s3.1,s2.1,s1.1]
 obtain⟨Z,d4⟩:∃Z,Z=h3.push { cls:=.type "tuple",data:=.seq #[.int i tk,x] }:=⟨_,rfl⟩;have e4:IsEnum Z e it ((i:Int)+1) old:=by rw[d4];exact ao _ e3
 have t4:Z.get? G.objs.size=some { cls:=.type "tuple",data:=.seq #[.int i tk,x] }:=by rw[d4,<-n3];exact bu _ rfl
 have n4:Z.objs.size=G.objs.size+1:=by rw[d4,jt,n3]
 have k3:∀y o,y≠e->h1.get? y=some o->Z.get? y=some o:=λy o U z=>by rw[d4];exact ao _ (s3.extBut y o U (s2.extBut y o U z))
 have a4:ItB b Z it t (i+1):=a1.at λo z=>k3 it o (kj ne) z
 have lt:e<G.objs.size:=aq he
 show wpAny _ _ (Builtin.SmallTypes.ownedTupleIsFree (.ref e)>>=_) _ _ ⟨h3.push _,g,d,tk+1,os⟩;rw[n3,<-d4];refine aa ?_;unfold Builtin.SmallTypes.ownedTupleIsFree;refine aa (jh e4 rfl (x:=.none) rfl (aj ?_));simp only[jg];refine aa (qx (aa (jh e4 rfl (x:=old) rfl (aa (je e4 (by simp) λh5 e5 s5=>?_)))));have s5:Heap.SameBut e Z h5:=s5;have e5:IsEnum h5 e it ((i:Int)+1) x:=e5;refine aa ?_;unfold Builtin.SmallTypes.ownedTupleHandOut;refine aa (je e5 (by simp) λh6 e6 s6=>?_);have s6:Heap.SameBut e h5 h6:=s6;have e6:IsEnumOut h6 e it ((i:Int)+1) x G.objs.size:=e6;refine je e6 (by simp) λh7 e7 s7=>?_
 have s7:Heap.SameBut e h6 h7:=s7;have k7:∀y o,y≠e->Z.get? y=some o->h7.get? y=some o:=λy o U z=>s7.extBut y o U (s6.extBut y o U (s5.extBut y o U z))
 exact aa (wpAny_letGo (aj ⟨_,rfl,q h7 e7 (a4.at λo z=>k7 it o (kj ne) z) (k7 _ _ (ou lt) t4) (by rw[s7.1,s6.1,s5.1,n4]) λy o y1 y2 z=>k7 y o y1 (k3 y o y1 (s1.extBut y o y2 z))⟩))
set_option tactic.hygienic true in
def axb{i:Nat}(Y:IsEnum s.heap e it i old)(a:ItB b s.heap it t i)(c:SqB b s.heap t R)(S:R[i]?=some x)(J:e≠it)(q:∀Z,IsEnumOut Z e it ((i:Int)+1) x s.heap.objs.size->ItB b Z it t (i+1)->Z.get? s.heap.objs.size=some { cls:=.type "tuple",data:=.seq #[.int i s.toks,x] }->Z.objs.size=s.heap.objs.size+1 ->
 (∀y o,y≠e->y≠it->s.heap.get? y=some o->Z.get? y=some o)->Q (some (.ref s.heap.objs.size)) { s with heap:=Z,toks:=s.toks+1 }):wpAny (model prog w) A (pyNext (.ref e)) Q E s:=by
 have ty:s.TypeIs (.ref e) "enumerate":= ⟨_,Y,rfl⟩;unfold pyNext;refine aa (vo (ji (name:=Str.ofString "__next__") ty yl (gh yl ty F.entry_enumerate_next ?_ (F.args_enumerate_next_1 _))));exact axa Y a c S J λZ U G u C L=>aj (q Z U G u C L)
set_option tactic.hygienic true in
def axc{i:Nat}(L:A.handled=none)(Y:IsEnum s.heap e it i old)(a:ItB b s.heap it t i)(c:SqB b s.heap t U)(C:U[i]?=none)(q:∀Z,Heap.ExtBut it s.heap Z->Q none { s with heap:=Z }):wpAny (model prog w) A (pyNext (.ref e)) Q E s:=by have ty:s.TypeIs (.ref e) "enumerate":= ⟨_,Y,rfl⟩;unfold pyNext;refine aa (vo (ji (name:=Str.ofString "__next__") ty yl (gh yl ty F.entry_enumerate_next ?_ (F.args_enumerate_next_1 _))));show wpAny _ _ (field (.ref e) 2>>=_) _ _ _;refine aa (jh Y rfl (x:=.ref it) rfl (aa (ajs L a c C λZ z k z_=>?_)));obtain⟨o,G,J⟩:=z_;exact aa (iu (T :="StopIteration") (b:=true) ⟨o,G,J⟩ isSubtype_stop (aj (q _ k)))
set_option tactic.hygienic true in
def axd(t:Addr)(xs:Q1)(n:Nat)(Y:Option Addr)(L:Array (Option Value)) :
 Meets (Builtin.«enumerate.__new__» ⟨[.type "enumerate",.ref t],[]⟩) (λ_ R s=>s.heap.get? t=some { cls:=.type "tuple",dict:=Y,data:=.seq xs n,slots:=L } /\
  R (.ok (.ret (.ref (s.heap.push { cls:=.type "tuple_iterator",data:=.fields #[.ref t,.int 0 0] }).objs.size)))
   { s with heap:=(s.heap.push { cls:=.type "tuple_iterator",data:=.fields #[.ref t,.int 0 0] }).push { cls:=.type "enumerate",data:=.fields #[.none,.bool false,.ref s.heap.objs.size,rawInt 0,.none,.none] } }):=
 .of_wp λprog w A R s h=>by
  obtain⟨J,g,d,C,U⟩:=s;obtain⟨Z,h⟩:=h;have S:=sub_enumerate;have G:Heap.IsTuple (Shared.heap ⟨J,g,d,C,U⟩) t xs:=⟨_,Z,rfl,n,rfl⟩
  wp_walk using wpAny_loadPart' Z
  refine wpAny_stack_any λy=>aj ?_
  split
  .rename_i c _ _ _ _ _
   cases(c==Value.type "enumerate")<;>(wp_walk using wpAny_loadPart' Z,wu G)<;>exact⟨_,rfl,h⟩
  .wp_walk using wpAny_loadPart' Z,wu G
   exact⟨_,rfl,h⟩
def arn(c:s.heap.IsTuple t xs)(q:∀Z,IsEnum Z (s.heap.objs.size+1) s.heap.objs.size 0 .none->Z.IsTupleIter s.heap.objs.size t 0->Z.objs.size=s.heap.objs.size+2 ->
 (∀y o,s.heap.get? y=some o->Z.get? y=some o)->Q (.ref (s.heap.objs.size+1)) { s with heap:=Z }):wpAny (model prog w) A (call (.type "enumerate") [.ref t]) Q E s:=by
 obtain⟨⟨c0,qq,dt,sl⟩,hl,U,n,L⟩:=c;have U:c0=.type "tuple":= U;have L:dt=.seq xs n:=L;subst U L;have G:(s.heap.push { cls:=.type "tuple_iterator",data:=.fields #[.ref t,.int 0 0] }).objs.size=s.heap.objs.size+1:=jt ..;refine callType_new F.called_enumerate (by decide) (F.typeCall_enumerate_1 _) (F.newCall_enumerate_1 _) (λobj=>F.args_object_init_2 obj _) F.entry_enumerate_new (axd t xs n qq sl) ⟨hl,?_⟩;show _/\_;rw[G];have e1:IsEnum ((s.heap.push { cls:=.type "tuple_iterator",data:=.fields #[.ref t,.int 0 0] }).push { cls:=.type "enumerate",data:=.fields #[.none,.bool false,.ref s.heap.objs.size,rawInt 0,.none,.none] }) (s.heap.objs.size+1) s.heap.objs.size 0 .none:=by rw[<-G];exact bu _ rfl
 exact⟨⟨_,e1,rfl⟩,q _ e1 ⟨_,ao _ (bu _ rfl),rfl,rfl⟩ (by rw[jt,G]) λy o z=>ao _ (ao _ z)⟩
end EnT
namespace L2
open PySem PySem.Spec EnT
def Inv.aam{ch:Xt}(I:Inv X pins σ H s)(G:∀b∈ch,Vr X pins H b)(k:∀b o,b∉ch->s.heap.get? b=some o->h'.get? b=some o)(hn:s.heap.objs.size<=n)(new:zj X.prog X.w (upd H n (.tup vs)) h' n (.tup vs)):Inv X pins σ (upd H n (.tup vs)) { s with heap:=h',toks:=t' }:=by
 have U:H n=none:=I.Ad.fresh hn;have L:∀b u,H b=some u->b∉ch:=λb u e z=>by rw[(G b z).1]at e;cases e
 have qq:∀b o,s.heap.get? b=some o->b≠n:=λb o e=>dq (il (aq e) hn)
 refine I.step (g':=s.gens) (d':=s.drawn) (ch:=ch) (λb hb=>⟨(G b hb).2.2.2.1,(G b hb).2.1,(G b hb).2.2.2.2.1,(G b hb).2.2.2.2.2⟩) (λb o _ _ Z e _=>k b o Z e) (λb o _ _ Z e _=>⟨o.slots,k b o Z e⟩) (λb o _ e n0=>by rw[j0 (qq b o e)];exact n0)
  (λb o Z e=>⟨o,k b o Z e⟩) (λb xs e=>by rw[j0 (mj e U)];exact e) (λb o u e=>by rw[j0 (mj e U)];exact e) (λb ps e=>⟨#[],by rw[j0 (mj e U),e];simp⟩) (λm hm=>?_) (λb u e=>?_) I.bare
 .obtain⟨o,es,ep,ho,r⟩:=hm
  exact⟨o,es,ep,k _ o (λz=>(G _ z).2.1 rfl) ho,r⟩
 .by_cases z:b=n
  .subst z;rw[wz]at e;cases e;exact new
  .rw[j0 z]at e
   refine(I.Ad b u e).stay (λc v Z q=>k c v ?_ q) (λc q=>by rw[j0 (mj q U)];exact q) λc xs q=>by rw[j0 (mj q U)];exact q
   rcases Z with y|y
   .rw[y];exact L b u e
   .exact L c _ y
def Inv.ajt{ch:Xt}(I:Inv X pins σ H s)(G:∀b∈ch,Vr X pins H b)(k:∀b o,b∉ch->s.heap.get? b=some o->h'.get? b=some o):Inv X pins σ H { s with heap:=h',toks:=t' }:=by
 have U:∀b u,H b=some u->b∉ch:=λb u e z=>by rw[(G b z).1]at e;cases e
 refine I.step (g':=s.gens) (d':=s.drawn) (ch:=ch) (λb L=>⟨(G b L).2.2.2.1,(G b L).2.1,(G b L).2.2.2.2.1,(G b L).2.2.2.2.2⟩) (λb o _ _ Z e _=>k b o Z e) (λb o _ _ Z e _=>⟨o.slots,k b o Z e⟩) (λb o _ e n0=>n0)
  (λb o Z e=>⟨o,k b o Z e⟩) (λb xs e=>e) (λb o u e=>e) (λb ps e=>⟨#[],by rw[e];simp⟩) (λm hm=>?_) (λb u e=>?_) I.bare
 .obtain⟨o,es,ep,ho,r⟩:=hm
  exact⟨o,es,ep,k _ o (λz=>(G _ z).2.1 rfl) ho,r⟩
 .refine(I.Ad b u e).stay (λc v Z q=>k c v ?_ q) (λ_ q=>q) λ_ _ q=>q
  rcases Z with y|y
  .rw[y];exact U b u e
  .exact U c _ y
def SqX(b:Bool)(K:Fg)(H:Hp)(a:Addr)(Z:List V):Prop:=cond b (Lq K H a Z) (Ie K H a Z)
def Inv.amg(I:Inv X pins σ H s)(h:SqX b X.K H a U):∃Z,Vals U Z/\SqB b s.heap a Z.toArray:=by
 cases b with
 |true=>obtain⟨Z,G,p,L⟩:=I.tuple h;exact⟨Z,G,show s.heap.IsTuple a Z.toArray from p⟩
 |false=>obtain⟨Z,G,p,L⟩:=I.list h;exact⟨Z,G,p.isList⟩
def Inv.afd(I:Inv X pins σ H s)(h:SqX b X.K H a Z)(g:SqX b X.K H a ys):Z=ys:=by
 cases b with
 |true=>exact I.Z3 h g|false=>exact I.aee h g
def Ien(b:Bool)(K:Fg)(a:Addr):It:=
 ⟨λi H=>∃Z x,SqX b K H a Z/\Z[i]?=some x,λi H v G=>∃p x,v=.ref p/\H p=none/\G=upd H p (.tup [.int (i:Nat),x])/\∀Z,SqX b K H a Z->Z[i]?=some x,λi H=>∃Z,SqX b K H a Z/\Z.length<=i⟩
set_option tactic.hygienic true in
theorem axe(a e it:Addr)(ne:e≠it):Turn P w K (.Tuple ts k0 pt) (Ien b K a) [e,it] e (λi h=>(∃Z,IsEnum h e it ((i:Nat):Int) Z)/\ItB b h it a i)where
 mem:=by simp
 obj:=λi h U c Y=>by
  obtain⟨⟨Z,G⟩,J⟩:=U;rcases cj.mp Y with z|z
  .subst z;exact⟨_,G,λv z=>by cases z⟩
  .have z:c=it:=by simpa using z
   subst z;exact J.obj
 keep:=λi h h' U k=>by obtain⟨⟨Z,G⟩,J⟩:=U;exact⟨⟨Z,k e (by simp) _ G⟩,J.at λo z=>k it (by simp) o z⟩
 item:=by
  intro X hP hw hK Y i C s σ H E I S U hg;subst hP hw hK;obtain⟨xs,x,hq,R⟩:=hg;obtain⟨xq,rv,p⟩:=I.amg hq;obtain⟨u,hu,ru⟩:=rv.get R;obtain⟨⟨Z,G⟩,J⟩:=U;have lt:e<s.heap.objs.size:=aq G
  refine axb G J p (x:=u) (by simpa using hu) ne λh1 o1 a1 t1 n1 k1=>⟨_,rfl,?_⟩
  refine wpAny_letOwnedTupleGo_enum o1 λh2 o2 L=>?_
  have L:Heap.SameBut e h1 h2:=L;have t2:h2.get? s.heap.objs.size=some { cls:=.type "tuple",data:=.seq #[.int i s.toks,u] }:=(L.2 _ (ou lt)).trans t1;refine⟨.ref s.heap.objs.size,upd H s.heap.objs.size (.tup [.int (i:Nat),x]),I.aam (t':=s.toks+1) S (λc o Y z=>?_) (cg _) ⟨by show 2<=sizeLine;decide,[.int i s.toks,u],.cons ⟨s.toks,rfl⟩ (.cons ru .nil),⟨_,t2,rfl,_,rfl,rfl⟩⟩,rfl,
   ⟨_,x,rfl,I.Ad.fresh (cg _),rfl,λys hy=>by rw[I.afd hy hq];exact R⟩,⟨⟨u,?_⟩,a1.at λo z=>L.extBut it o (kj ne) z⟩,λc Y=>?_⟩
  .have c1:c≠e:=λz=>Y (by simp[z])
   have c2:c≠it:=λz=>Y (by simp[z])
   exact L.extBut c o c1 (k1 c o c1 c2 z)
  .have q:((i+1:Nat):Int)=(i:Int)+1:=by push_cast;rfl
   rw[q];exact o2
  .have qq:c<s.heap.objs.size:=by
    rcases cj.mp Y with z|z
    .rw[z];exact lt
    .have z:c=it:=by simpa using z
     obtain⟨o,z2,_⟩:=J.obj;rw[z];exact aq z2
   rw[j0 (dq qq)];exact(S c Y).1
 done:=by intro X hP hw hK Y i C s σ H E I S U hg;subst hP hw hK;obtain⟨xs,hq,R⟩:=hg;obtain⟨xq,rv,p⟩:=I.amg hq;obtain⟨⟨Z,G⟩,J⟩:=U;have hl:=rv.length;refine axc (I.ok.hd Y) G J p (by simp;exact a_ (g_ hl) R) λh' eb=>⟨rfl,I.ajt (t':=s.toks) S λc o Y z=>eb c o (λy=>Y (by simp[y])) z⟩
 self:=λ_ _ _ _ _ U h=>by obtain⟨⟨Z,G⟩,J⟩:=U;exact wpAny_pyIter_enum G h
def bb5(hg:Gl X "enumerate")(hm:X.mg "enumerate"= none)(ha:PA X [a] ta)(hs:starEach [a] X.env=[(false,eval a X.env)]) :
 PI X (.Tuple ts k0 pt) (.Call (.Name "enumerate" p) [a] [] pos) (fun σ H R=>ta σ H λvs H1=>∃b q,vs=[.ref q]/\(∃xs,SqX b X.K H1 q xs)/\R (Ien b X.K q) H1):=by
 intro U s σ H R I h;refine PyProof.Rows.Call_ (Cg I hg hm (show bootBuiltins "enumerate"= some (.type "enumerate")by decide+kernel) (jo (Bf (ha pos U s σ H _ I h) λus Z ⟨vs,H1,I1,r1,q1⟩=>?_) hs rfl));obtain⟨b,q,rfl,⟨xs,hq⟩,hR⟩:=q1;cases r1 with
 |cons r rr =>
  cases rr;cases r;obtain⟨xq,rv,p⟩:=I1.amg hq;have fin:∀G,IsEnum G (Z.heap.objs.size+1) Z.heap.objs.size 0 .none->ItB b G Z.heap.objs.size q 0->(∀y o,Z.heap.get? y=some o->G.get? y=some o) ->
   wpAny (model X.prog X.w) X.A (pyIter (.ref (Z.heap.objs.size+1))) (PIE X U σ (.Tuple ts k0 pt) R) X.xe { Z with heap:=G }:=λG L e2 kk=>by
   refine wpAny_pyIter_enum L ?_;refine⟨Z.heap.objs.size+1,[Z.heap.objs.size+1,Z.heap.objs.size],_,_,H1,rfl,I1.kept (t':=Z.toks) kk,axe (b:=b) q _ _ (Nat.succ_ne_self _),⟨⟨.none,L⟩,e2⟩,λc hc=>?_,hR⟩;have qq:Z.heap.objs.size<=c:=by
    rcases cj.mp hc with z|z
    .rw[z];exact ur _
    .have z:c=Z.heap.objs.size:=by simpa using z
     rw[z];exact cg _
   exact I1.ap1 qq (I1.Ad.fresh qq)
  cases b with
  |true=>exact arn p λG L e2 _ kk=>fin G L e2 kk
  |false=>exact call_enumerate_list p λG L e2 _ kk=>fin G L e2 kk
end L2
namespace EnT
open PySem PySem.Spec
noncomputable def tpN(Z:Zl):Obj:={ cls:=.type "tuple",data:=.seq Z.toArray }
structure ZN(b:Nat->Bool)(h0:Heap)(n:Nat)(ls:Yf)(f0:Value)(ov:Zl)(k d:Nat)(g:Heap):Prop where
 z:IsZip g (n+ls.length+2) (n+ls.length) (n+ls.length+1) f0
 o:g.get? (n+ls.length+1)=some (tpN ov)
 a:∀(j:Nat) l,ls[j]?=some l->ItB (b l) g (n+j) l (if j<d then k+1 else k)
 low:∀c o,(c<n\/c=n+ls.length\/n+ls.length+2<c)->h0.get? c=some o->g.get? c=some o
def SqB.lt(x:SqB b h a Z):a<h.objs.size:=by
 cases b with
 |true=>obtain⟨o,c,_⟩:=x;exact aq c
 |false=>obtain⟨o,c,_⟩:=x;exact aq c
def SqB.at(x:SqB b h a xs)(e:∀o,h.get? a=some o->Z.get? a=some o):SqB b Z a xs:=by
 cases b with
 |true=>obtain⟨o,c,d⟩:=x;exact⟨o,e o c,d⟩
 |false=>obtain⟨o,c,d⟩:=x;exact⟨o,e o c,d⟩
def afg{Z:Yf}{j:Nat}(h:Z[j]?=some l):j<Z.length:=(ak.mp h).1
def ZN.sz(H:ZN b h0 n ls f0 G k d g)(e:Heap.ExtBut (n+ls.length+2) g g')(z:IsZip g' (n+ls.length+2) (n+ls.length) (n+ls.length+1) f1):ZN b h0 n ls f1 G k d g':=
 ⟨z,e _ _ (by lia) H.o,λj l h=>(H.a j l h).at λo=>e _ o (by have:=afg h;lia),λc o Z z=>e _ _ (by lia) (H.low c o Z z)⟩
def ZN.so(H:ZN b h0 n ls f0 U k d g)(e:Heap.ExtBut (n+ls.length+1) g g')(z:g'.get? (n+ls.length+1)=some (tpN G)):ZN b h0 n ls f0 G k d g':=
 ⟨e _ _ (by lia) H.z,z,λj l h=>(H.a j l h).at λo=>e _ o (by have:=afg h;lia),λc o Z z=>e _ _ (by lia) (H.low c o Z z)⟩
def ZN.sa(H:ZN b h0 n ls f0 G k d g)(U:d<ls.length)(e:Heap.ExtBut (n+d) g g')(z:∀l,ls[d]?=some l->ItB (b l) g' (n+d) l (k+1)):ZN b h0 n ls f0 G k (d+1) g':=
 ⟨e _ _ (by lia) H.z,e _ _ (by lia) H.o,λj l h=>by
  by_cases c:j=d
  .subst c;rw[bz (by lia)];exact z l h
  .have:=H.a j l h
   have i:(if j<d+1 then k+1 else k)=if j<d then k+1 else k:=by
    by_cases q:j<d
    .rw[bz q,bz (by lia)]
    .rw[bc q,bc (by lia)]
   rw[i];exact this.at λo=>e _ o (by lia),λc o Z z=>e _ _ (by lia) (H.low c o Z z)⟩
def ZN.up(H:ZN b h0 n ls f0 G k d g)(e:∀c o,g.get? c=some o->g'.get? c=some o):ZN b h0 n ls f0 G k d g':=
 ⟨e _ _ H.z,e _ _ H.o,λj l h=>(H.a j l h).at (e _),λc o Z z=>e _ _ (H.low c o Z z)⟩
def ZN.nx(H:ZN b h0 n ls f0 Z k ls.length g):ZN b h0 n ls f0 Z (k+1) 0 g:=
 ⟨H.z,H.o,λj l h=>by have:=H.a j l h;rw[bz (afg h)]at this;exact this,H.low⟩
def axf{T:Addr}{Q:Unit->Shared->Prop}(G:L.length<=3)(U:s.heap.get? T=some (tpN L))(h:∀Z,Z.get? T=some (tpN (L.set k x))->Heap.ExtBut T s.heap Z->Z.objs.size=s.heap.objs.size->Q () { s with heap:=Z }) :
 wpAny (model prog w) A (updateSeq T (·.setIfInBounds k x)) Q E s:=by
 have sb:Heap.SameBut T s.heap (s.heap.update T (Obj.mapSeq (·.setIfInBounds k x))):=gr ..;refine wpAny_updateSeq U rfl (h _ ?_ sb.extBut sb.1) (hz:=gb (by simpa using G) (show 3<=sizeLine by decide)) (_hz':=gb (by simpa using G) (show 3<=sizeLine+1 by decide));rw[jz _ U rfl];simp[Obj.mapSeq,tpN]
noncomputable def Fj(n m:Nat):List Value:=(List.range m).map λj=>.ref (n+j)
def aju(n m:Nat):(Fj n m).zipIdx=(List.range' 0 m).map λj=>(Value.ref (n+j),j):=by
 apply su;intro i;rw[zc]
 by_cases h:i<m
 .simp[Fj,h]
 .simp[Fj,h]
def At(b:Nat->Bool)(h:Heap)(U:Yf)(k:Nat)(Z:Zl):Prop:=Z.length=U.length/\∀(j:Nat) l,U[j]?=some l->∃G x,SqB (b l) h l G/\G[k]?=some x/\Z[j]?=some x
def axg{n k:Nat}{Q:Y3}(Q3:ls≠[])(h3:ls.length<=3)(H:ZN b s.heap n ls .none Z k 0 s.heap)(ho:Z.length=ls.length)(hI:s.heap.get? (n+ls.length)=some (tpN (Fj n ls.length)))(hl:∀l∈ls,l<n)(ha:At b s.heap ls k vs)
 (hq:∀h',ZN b s.heap n ls (rawInt s.heap.objs.size) vs (k+1) 0 h'->h'.get? s.heap.objs.size=some (tpN vs)->Q (.ref s.heap.objs.size) { s with heap:=h' }) :
 wpAny (model prog w) A (Builtin.«zip.__next__» ⟨[.ref (n+ls.length+2)],[]⟩) (λfin s'=>∃v,fin=.done (.ret v)/\Q v s') E s:=by
 have hz:=H.z;have ne:(Fj n ls.length).toArray.isEmpty=false:=by cases ls with|nil=>exact absurd rfl Q3|cons a l=>simp[Fj]
 show wpAny _ _ (field (.ref (n+ls.length+2)) 2>>=_) _ _ _;refine aa (jh hz rfl (x:=.bool false) rfl (aa (jh hz rfl (x:=.ref (n+ls.length)) rfl (aa (m7 hI rfl ?_)))));simp only[ne,bw,gm];unfold Builtin.SmallTypes.ownedTupleIsFree;refine aa (aa (jh hz rfl (x:=.none) rfl (aj ?_)));simp only[jg];refine aa (qx (aa (jh hz rfl (x:=.ref (n+ls.length+1)) rfl (aa (je hz (by simp) λg1 z1 s1=>?_)))));have H1:=H.sz s1.extBut (f1:=.ellipsis) z1;refine aa (jf _ (λG bb s'=>bb=(none,())/\∃d Z g,G=((List.range' d (ls.length-d)).map λj=>(Value.ref (n+j),j))/\d<=ls.length/\s'={ s with heap:=g }/\ZN b s.heap n ls .ellipsis Z k d g/\Z.length=ls.length/\(∀i,i<d->Z[i]?=vs[i]?)/\g.objs.size=s.heap.objs.size) _ (λx G bb s' hI=>?_) (λbb s' hI=>?_) _ _ ⟨rfl,0,Z,g1,?_,iy _,rfl,H1,ho,λi hi=>absurd hi (Bb _),s1.1⟩)
 .obtain⟨rfl,d,Z,g,e,U,rfl,L,o2,v2,n2⟩:=hI
  have U:d<ls.length:=by
   rcases uq d ls.length with h|h
   .exact h
   .rw[Nat.sub_eq_zero_of_le h]at e;cases e
  obtain⟨c,hc⟩:∃c,ls.length-d=c+1:=⟨ls.length-d-1,by lia⟩;rw[hc,zu,dj]at e;injection e with e1 e2
  subst e1 e2;obtain⟨l,el⟩:∃l,ls[d]?=some l:=⟨ls[d],by simp[U]⟩;obtain⟨xs,x,t1,t2,t3⟩:=ha.2 d l el;have i0:=L.a d l el;rw[bc (qd _)]at i0;have ll:=hl l (az el);refine aa (wpAny_onRaise (aa (afc (s:={ s with heap:=g }) i0 (t1.at λo=>L.low _ o (by lia)) t2 λg2 i2 s2=>aj ?_)));have H3:=L.sa U s2.extBut λl' h=>by rw[el]at h;cases h;exact i2
  refine aa (m7 H3.o rfl (aa (axf (by rw[o2];exact h3) H3.o λg3 o3 s3 n3=>?_)));have H4:=H3.so s3 o3;refine aa (wpAny_letGo (aj ⟨rfl,d+1,Z.set d x,g3,by rw[show ls.length-(d+1)=c by lia],U,rfl,H4,by rw[List.length_set,o2],λi hi=>?_,by rw[n3,show g2.objs.size=g.objs.size from s2.1,n2]⟩))
  by_cases z:i=d
  .subst z
   rw[z6 (by lia),t3]
  .rw[xf (kj z)];exact v2 i (by lia)
 .obtain⟨rfl,d,Z,g,e,U,rfl,L,o2,v2,n2⟩:=hI
  have U:d=ls.length:=by
   rcases uq d ls.length with h|h
   .obtain⟨c,hc⟩:∃c,ls.length-d=c+1:=⟨ls.length-d-1,by lia⟩
    rw[hc,zu]at e;cases e
   .exact Nat.le_antisymm U h
  subst U;obtain rfl:Z=vs:=by
   apply su;intro i;rcases uq i ls.length with h|h
   .exact v2 i h
   .rw[j5 (by lia),j5 (by rw[ha.1];exact h)]
  refine aa (m7 L.o rfl (aa (wpAny_newTuple ?_)));have H8:=L.nx.up (g':=g.push (tpN Z)) λc o e=>ao _ e
  refine aa ?_;unfold Builtin.SmallTypes.ownedTupleHandOut;refine aa (je H8.z (by simp) λg9 z9 s9=>?_);have H9:=H8.sz s9.extBut (f1:=rawInt g.objs.size) z9;refine je H9.z (by simp) λqk q1 qv=>?_
  have q0:=H9.sz qv.extBut (f1:=rawInt g.objs.size) q1;have zl:n+ls.length+2<g.objs.size:=aq L.z
  have qq:qk.get? g.objs.size=some (tpN Z):=qv.extBut _ _ (ou zl) (s9.extBut _ _ (ou zl) (bu _ rfl));refine aj ⟨_,rfl,?_⟩;show Q (.ref g.objs.size) _;rw[n2]at q0 qq⊢;exact hq qk q0 qq
 .show(Fj n ls.length).zipIdx=_
  rw[aju];rfl
def a5i{n k:Nat}{Z:Yf}(hd:A.handled=none)(h0:Z[0]?=some l)(H:ZN b s.heap n Z .none ov k 0 s.heap)(hI:s.heap.get? (n+Z.length)=some (tpN (Fj n Z.length)))(hl:l<n)(c1:SqB (b l) s.heap l xs)(e1:xs[k]?=none)
 (hE:∀h' e,(∀c o,(c<n\/n+Z.length+2<c)->s.heap.get? c=some o->h'.get? c=some o)->(∃o,h'.get? e=some o/\o.cls=.type "StopIteration")->E (.ref e) { s with heap:=h' }) :
 wpAny (model prog w) A (Builtin.«zip.__next__» ⟨[.ref (n+Z.length+2)],[]⟩) Q E s:=by
 have G:=H.z;obtain⟨c,hc⟩:∃c,Z.length=c+1:=⟨Z.length-1,by have:=afg h0;lia⟩;have U:(Fj n Z.length).toArray.isEmpty=false:=by rw[hc];simp[Fj]
 show wpAny _ _ (field (.ref (n+Z.length+2)) 2>>=_) _ _ _;refine aa (jh G rfl (x:=.bool false) rfl (aa (jh G rfl (x:=.ref (n+Z.length)) rfl (aa (m7 hI rfl ?_)))));simp only[U,bw,gm];unfold Builtin.SmallTypes.ownedTupleIsFree;refine aa (aa (jh G rfl (x:=.none) rfl (aj ?_)));simp only[jg];refine aa (qx (aa (jh G rfl (x:=.ref (n+Z.length+1)) rfl (aa (je G (by simp) λg1 z1 s1=>?_)))));have L:=H.sz s1.extBut (f1:=.ellipsis) z1;have i1:ItB (b l) g1 n l k:=L.a 0 l h0;have er:(Fj n Z.length).zipIdx=(Value.ref n,0)::(List.range' 1 c).map λj=>(Value.ref (n+j),j):=by rw[aju,hc];rfl
 rw[er,List.forIn_cons];refine aa (aa (aa (wpAny_onRaise (aa (ajs (s:={ s with heap:=g1 }) hd i1 (c1.at λo=>L.low _ o (by lia)) e1 λg2 x s2 z_=>?_)))));obtain⟨o,o1,o2⟩:=z_;have z2:IsZip g2 (n+Z.length+2) (n+Z.length) (n+Z.length+1) .ellipsis:=s2 _ _ (by lia) L.z;have U:x≠n+Z.length+2:=λy=>by subst y;rw[z2]at o1;cases o1;simp at o2
 exact je z2 (by simp) λg3 _ s3=>hE g3 x (λc o y1 e=>s3.extBut _ _ (by lia) (s2 _ _ (by lia) (s1.extBut _ _ (by lia) e))) ⟨o,s3.extBut _ _ U o1,o2⟩
noncomputable def zI(b:Bool)(a:Addr):Obj:={ cls:=.type (cond b "tuple_iterator" "list_iterator"),data:=.fields #[.ref a,.int 0 0] }
def pI(b:Nat->Bool)(h:Heap)(Z:Yf):Heap:=Z.foldl (λh l=>h.push (zI (b l) l)) h
theorem acb:∀(Z:Yf)(h:Heap),(pI b h Z).objs.size=h.objs.size+Z.length
 |[],h=>rfl
 |l::Z,h=>by
  have:=acb (b:=b) Z (h.push (zI (b l) l));rw[jt]at this;rw[gq,<-Ax,Nat.add_right_comm];exact this
theorem ajv:∀{ls:Yf}{h:Heap},h.get? c=some o->(pI b h ls).get? c=some o
 |[],_,e=>e|x::ls,h,e=>ajv (ls:=ls) (h:=h.push (zI (b x) x)) (ao _ e)
theorem aro:∀{ls:Yf}{h:Heap}{j:Nat},ls[j]?=some l->(pI b h ls).get? (h.objs.size+j)=some (zI (b l) l)
 |x::ls,h,0,e=>by cases e;exact ajv (ls:=ls) (h:=h.push (zI (b l) l)) (bu _ rfl)
 |x::ls,h,j+1,e=>by
  have:=aro (b:=b) (h:=h.push (zI (b x) x)) (ls:=ls) (j:=j) e;rw[jt]at this;rw[<-Ax,Nat.add_right_comm];exact this
def bb6(h:g.get? i=some (zI b l)):ItB b g i l 0:=by
 cases b with
 |true=>exact⟨_,h,rfl,rfl⟩|false=>exact⟨_,h,rfl,rfl⟩
def a5j{Q:Y3}(h:SqB b s.heap a Z)(q:Q (.ref s.heap.objs.size) { s with heap:=s.heap.push (zI b a) }):wpAny (model prog w) A (pyIter (.ref a)) Q E s:=by
 cases b with
 |true=>exact wu h q|false=>exact wpAny_pyIter_list h q
def axh{Q:List Value->Shared->Prop}(ht:∀l∈ls,∃L,SqB (b l) s.heap l L)(q:Q (Fj s.heap.objs.size ls.length) { s with heap:=pI b s.heap ls }):wpAny (model prog w) A (Builtin.SmallTypes.iterAll (ls.map .ref)) Q E s:=by
 unfold Builtin.SmallTypes.iterAll;refine aa (jf _ (λG xq U=>∃d,d<=ls.length/\G=(ls.drop d).map .ref/\xq=(Fj s.heap.objs.size d).toArray/\U={ s with heap:=pI b s.heap (ls.take d) }) _ (λx G bb U hI=>?_) (λbb U hI=>?_) _ _ ⟨0,iy _,rfl,rfl,rfl⟩)
 .obtain⟨d,Z,e,rfl,rfl⟩:=hI
  have Z:d<ls.length:=by
   rcases uq d ls.length with h|h
   .exact h
   .rw[List.drop_of_length_le h]at e;cases e
  rw[List.drop_eq_getElem_cons Z,dj]at e;injection e with e1 e2
  subst e1 e2;obtain⟨L,hx⟩:=ht ls[d] (ph Z);refine aa (fu (a5j (hx.at λo e=>ajv e) (aj ⟨d+1,Z,rfl,?_,?_⟩)))
  .rw[acb,Ao,Nat.min_eq_left (yh Z)]
   simp[Fj,vf]
  .have:pI b s.heap (ls.take (d+1))=(pI b s.heap (ls.take d)).push (zI (b ls[d]) ls[d]):=by
    rw[List.take_succ,dz Z,pI,List.foldl_append];rfl
   rw[this]
 .obtain⟨d,Z,e,rfl,rfl⟩:=hI
  have Z:d=ls.length:=by
   rcases uq d ls.length with h|h
   .rw[List.drop_eq_getElem_cons h]at e;cases e
   .exact Nat.le_antisymm Z h
  subst Z;rw[qu];exact aj (by simpa using q)
def zB(b:Nat->Bool)(h:Heap)(Z:Yf):Heap:=(pI b h Z).push (tpN (Fj h.objs.size Z.length))
def zC(b:Nat->Bool)(h:Heap)(Z:Yf):Heap:=(zB b h Z).push (tpN ((Fj h.objs.size Z.length).map λ_=>.none))
def zD(b:Nat->Bool)(h:Heap)(Z:Yf):Heap:=(zC b h Z).push { cls:=.type "zip",data:=.fields #[.none,.bool false,.bool false,.ref (pI b h Z).objs.size,.ref (zB b h Z).objs.size] }
def arp(h3:ls.length<=3) :
 Meets (Builtin.«zip.__new__» ⟨.type "zip"::ls.map .ref,[]⟩) (λ_ R s=>(∀l∈ls,∃L,SqB (b l) s.heap l L)/\R (.ok (.ret (.ref (zC b s.heap ls).objs.size))) { s with heap:=zD b s.heap ls }):=
 .of_wp λprog w A R s h=>by
  obtain⟨Z,g,d,U,G⟩:=s;obtain⟨ht,h⟩:=h;have qq:=sub_zip;have f1:∀{Q:List Value->Shared->Prop}{A E},Q (Fj Z.objs.size ls.length) ⟨pI b Z ls,g,d,U,G⟩->wpAny (model prog w) A (Builtin.SmallTypes.iterAll (ls.map .ref)) Q E ⟨Z,g,d,U,G⟩:=λq=>axh ht q
  have sz:∀(L:Zl),L.length<=3->L.toArray.size<=sizeLine:=λL h=>gb (by simpa using h) (show 3<=sizeLine by decide)
  have f2:∀{Q:Y3}{A E}{h:Heap},Q (.ref h.objs.size) ⟨h.push (tpN (Fj Z.objs.size ls.length)),g,d,U,G⟩->wpAny (model prog w) A (newTuple (Fj Z.objs.size ls.length)) Q E ⟨h,g,d,U,G⟩:=λq=>wpAny_newTuple q (sz _ (by simpa[Fj]using h3))
  have f3:∀{Q:Y3}{A E}{h:Heap},Q (.ref h.objs.size) ⟨h.push (tpN ((Fj Z.objs.size ls.length).map λ_=>.none)),g,d,U,G⟩->wpAny (model prog w) A (newTuple ((Fj Z.objs.size ls.length).map λ_=>.none)) Q E ⟨h,g,d,U,G⟩:=λq=>wpAny_newTuple q (sz _ (by simpa[Fj]using h3))
  wp_walk using f1,f2,f3
  exact⟨_,rfl,h⟩
def axi{n:Nat}(h3:ls.length<=3)(G:s.heap.objs.size=n)(ct:checkTypeCall "zip" ⟨ls.map .ref,[]⟩=pure ())(cb:checkBuiltinCall "zip.__new__" ⟨.type "zip"::ls.map .ref,[]⟩=pure ())(ca:∀obj,argsOk "object.__init__" ⟨obj::ls.map .ref,[]⟩)(ht:∀l∈ls,∃xs,SqB (b l) s.heap l xs)
 (h:∀Z,ZN b Z n ls .none ((Fj n ls.length).map λ_=>.none) 0 0 Z->Z.get? (n+ls.length)=some (tpN (Fj n ls.length))->(∀c o,s.heap.get? c=some o->Z.get? c=some o)->Q (.ref (n+ls.length+2)) { s with heap:=Z }):wpAny (model prog w) A (call (.type "zip") (ls.map .ref)) Q E s:=by
 refine callType_new F.called_zip (by decide) ct cb ca F.entry_zip_new (arp h3) ⟨ht,?_⟩;have L:(pI b s.heap ls).objs.size=n+ls.length:=by rw[acb,G]
 have U:(zB b s.heap ls).objs.size=n+ls.length+1:=by unfold zB;rw[jt,L]
 have z5:(zC b s.heap ls).objs.size=n+ls.length+2:=by unfold zC;rw[jt,U]
 have up:∀{h:Heap}{o':Obj}{c:Addr}{o:Obj},h.get? c=some o->(h.push o').get? c=some o:=λe=>ao _ e
 have g6:(zD b s.heap ls).get? (zC b s.heap ls).objs.size=some _:=bu _ rfl;have g5:(zD b s.heap ls).get? (zB b s.heap ls).objs.size=some _:=up (bu _ rfl);have g4:(zD b s.heap ls).get? (pI b s.heap ls).objs.size=some _:=up (up (bu _ rfl));rw[L,U,z5]at g6;rw[U,G]at g5;rw[L,G]at g4;show _/\_;rw[z5];exact⟨⟨_,g6,rfl⟩,h _ ⟨g6,g5,λj l e=>bb6 (up (up (up (by rw[<-G];exact aro e)))),λ_ _ _ e=>e⟩ g4 λc o e=>up (up (up (ajv e)))⟩
theorem amh:∀Z:List Value,Z.length=2->checkTypeCall "zip" ⟨Z,[]⟩=pure ()/\checkBuiltinCall "zip.__new__" ⟨.type "zip"::Z,[]⟩=pure ()/\∀obj,argsOk "object.__init__" ⟨obj::Z,[]⟩
 |[a,b],_=>⟨F.typeCall_zip_2 _ _,F.newCall_zip_2 _ _,λobj=>F.args_object_init_3 obj _ _⟩
end EnT
namespace L2
open PySem PySem.Spec EnT
def IzN(b:Nat->Bool)(K:Fg)(U:Xt):It:=
 ⟨λi H=>∃G:List V,G.length=U.length/\∀(j:Nat) a,U[j]?=some a->∃Z x,SqX (b a) K H a Z/\Z[i]?=some x/\G[j]?=some x,
  λi H v L=>∃p G,v=.ref p/\H p=none/\L=upd H p (.tup G)/\G.length=U.length/\∀(j:Nat) a Z,U[j]?=some a->SqX (b a) K H a Z->G[j]?=Z[i]?,
  λi H=>∃a Z,U[0]?=some a/\SqX (b a) K H a Z/\Z.length<=i⟩
def TN(b:Nat->Bool)(n:Nat)(Z:Xt)(i:Nat)(h:Heap):Prop:=(∃G,ZN b h n Z .none G i 0 h/\G.length=Z.length)/\h.get? (n+Z.length)=some (tpN (Fj n Z.length))
noncomputable def FN(n m:Nat):List Addr:=List.range' n (m+3)
def FN.mem{n m c:Nat}:c∈FN n m↔n<=c/\c<n+m+3:=List.mem_range'_1
theorem at_of(I:Inv X pins σ H s):∀{as:Xt}{vs:List V},vs.length=as.length->(∀(j:Nat) a,as[j]?=some a->∃G x,SqX (b a) X.K H a G/\G[i]?=some x/\vs[j]?=some x)->∃Z,Vals vs Z/\At b s.heap as i Z
 |[],[],_,_=>⟨[],.nil,rfl,λj l h=>by simp at h⟩
 |a::as,v::vs,l,h=>by
  obtain⟨Z,r,e,q⟩:=at_of I (as:=as) (vs:=vs) (by simpa using l) (λj a e=>h (j+1) a e);obtain⟨G,x,q1,x1,hv⟩:=h 0 a rfl;cases hv;obtain⟨i1,r1,p1⟩:=I.amg q1;obtain⟨L,u1,w1⟩:=r1.get x1;refine⟨L::Z,.cons w1 r,by simp[e],λj l U=>?_⟩;cases j with
  |zero=>cases U;exact⟨i1.toArray,L,p1,by simpa using u1,rfl⟩|succ j=>exact q j l U
theorem axj{n:Nat}(h3:G.length<=3)(Q3:G≠[])(hl:∀a∈G,a<n):Turn P w K (.Tuple ts k0 pt) (IzN b K G) (FN n G.length) (n+G.length+2) (TN b n G)where
 mem:=FN.mem.mpr (by lia)
 obj:=λi h L e U=>by
  obtain⟨⟨ov,H,_⟩,hI⟩:=L;obtain⟨c1,c2⟩:=FN.mem.mp U
  by_cases z:e<n+G.length
  .have q:e-n<G.length:=by lia
   have z:=(H.a (e-n) G[e-n] (by simp[q])).obj;rw[show n+(e-n)=e by lia]at z;exact z
  .rcases(show e=n+G.length\/e=n+G.length+1\/e=n+G.length+2 by lia)with rfl|rfl|rfl
   .exact⟨_,hI,λv z=>by cases z⟩
   .exact⟨_,H.o,λv z=>by cases z⟩
   .exact⟨_,H.z,λv z=>by cases z⟩
 keep:=λi h h' L k=>by
  obtain⟨⟨ov,H,l⟩,hI⟩:=L;have kk:∀d o,n<=d->d<n+G.length+3->h.get? d=some o->h'.get? d=some o:=λd o h1 h2=>k d (FN.mem.mpr ⟨h1,h2⟩) o
  exact⟨⟨ov,⟨kk _ _ (by lia) (by lia) H.z,kk _ _ (by lia) (by lia) H.o,λj l h=>(H.a j l h).at λo=>kk _ o (by lia) (by have:=afg h;lia),λ_ _ _ e=>e⟩,l⟩,kk _ _ (by lia) (by lia) hI⟩
 item:=by
  intro X hP hw hK U i qq s σ H E I hf L hg;subst hP hw hK;obtain⟨⟨ov,Z,lo⟩,hI⟩:=L;have lt:n+G.length+2<s.heap.objs.size:=aq Z.z
  obtain⟨vs,lv,hg⟩:=hg;obtain⟨us,r,ha⟩:=at_of I lv hg;have ty:s.TypeIs (.ref (n+G.length+2)) "zip":= ⟨_,Z.z,rfl⟩;unfold pyNext;refine aa (vo (ji (name:=Str.ofString "__next__") ty F.slot_zip_next (gh F.slot_zip_next ty F.entry_zip_next ?_ (F.args_zip_next_1 _))));refine axg Q3 h3 Z lo hI hl ha λh1 Z1 t1=>aj ⟨_,rfl,?_⟩
  refine wpAny_letOwnedTupleGo_zip Z1.z λh2 z2 s2=>?_
  have s2:Heap.SameBut (n+G.length+2) h1 h2:=s2;have Z2:=Z1.sz s2.extBut (f1:=.none) z2;have t2:h2.get? s.heap.objs.size=some (tpN us):=s2.extBut _ _ (ou lt) t1;refine⟨.ref s.heap.objs.size,upd H s.heap.objs.size (.tup vs),I.aam (t':=s.toks) hf (λc o U zz=>Z2.low c o (by rw[FN.mem]at U;lia) zz) (cg _) ⟨by rw[lv];exact gb h3 (show 3<=sizeLine by decide),us,r,⟨_,t2,rfl,_,rfl,rfl⟩⟩,rfl,
   ⟨_,vs,rfl,I.Ad.fresh (cg _),rfl,lv,λj a ys ja hy=>?_⟩,⟨⟨us,⟨Z2.z,Z2.o,Z2.a,λ_ _ _ e=>e⟩,ha.1⟩,Z2.low _ _ (by lia) hI⟩,λc U=>?_⟩
  .obtain⟨xs,x,q1,q2,q3⟩:=hg j a ja
   rw[I.afd hy q1,q2,q3]
  .rw[FN.mem]at U
   rw[j0 (by lia)];exact(hf c (FN.mem.mpr U)).1
 done:=by
  intro X hP hw hK U i qq s σ H E I hf L hg;subst hP hw hK;obtain⟨⟨ov,Z,lo⟩,hI⟩:=L;obtain⟨a,xs,a0,q1,x1⟩:=hg;obtain⟨i1,r1,p1⟩:=I.amg q1;have qk:=r1.length;have ty:s.TypeIs (.ref (n+G.length+2)) "zip":= ⟨_,Z.z,rfl⟩;unfold pyNext;refine aa (vo (ji (name:=Str.ofString "__next__") ty F.slot_zip_next (gh F.slot_zip_next ty F.entry_zip_next ?_ (F.args_zip_next_1 _))));refine a5i (I.ok.hd U) a0 Z hI (hl a (az a0)) (xs:=i1.toArray) p1 (by simp;lia) λh' e k z_=>?_
  obtain⟨o,o1,o2⟩:=z_;exact aa (iu (T :="StopIteration") (b:=true) ⟨o,o1,o2⟩ isSubtype_stop (aj ⟨rfl,I.ajt (t':=s.toks) hf λc o U zz=>k c o (by rw[FN.mem]at U;lia) zz⟩))
 self:=λ_ _ _ _ _ L h=>by obtain⟨⟨ov,Z,_⟩,_⟩:=L;exact wpAny_pyIter_zip Z.z h
theorem aan:∀{Z:Xt}{G:Zl},Vals (Z.map V.ref) G->G=Z.map Value.ref
 |[],_,h=>by cases h;rfl|_::_,_,h=>by cases h with|cons r t=>cases r;rw[aan t];rfl
def bb7(hg:Gl X "zip")(hm:X.mg "zip"= none)(ha:PA X (a::es) ta)(hs:starEach (a::es) X.env=(false,eval a X.env)::starEach es X.env)(Hz:(backTo pos (starEach es X.env)).any (·.1)=false) :
 PI X (.Tuple ts k0 pt) (.Call (.Name "zip" p) (a::es) [] pos) (fun σ H R=>ta σ H λvs H1=>∃(b:Nat->Bool)(G:Xt),vs=G.map V.ref/\G.length=2/\(∀q∈G,∃xs,SqX (b q) X.K H1 q xs)/\R (IzN b X.K G) H1):=by
 intro U s σ H R I h;refine PyProof.Rows.Call_ (Cg I hg hm (show bootBuiltins "zip"= some (.type "zip")by decide+kernel) (jo (Bf (ha pos U s σ H _ I h) λus s1 z=>?_) hs Hz));obtain⟨vs,H1,I1,r1,b,G,rfl,l,ht,hR⟩:=z;cases aan r1;obtain⟨c1,c2,c3⟩:=amh (G.map Value.ref) (by simpa using l);have h3:G.length<=3:=by lia
 have tp:∀q∈G,∃xs,SqB (b q) s1.heap q xs:=λq hq=>by obtain⟨xs,hx⟩:=ht q hq;obtain⟨i1,_,p1⟩:=I1.amg hx;exact⟨_,p1⟩
 refine axi h3 rfl c1 c2 c3 tp λh' Z hI kk=>wpAny_pyIter_zip Z.z ?_
 refine⟨s1.heap.objs.size+G.length+2,_,_,_,H1,rfl,I1.kept (t':=s1.toks) kk,axj h3 (λz=>by subst z;simp at l) λq hq=>by obtain⟨xs,e⟩:=tp q hq;exact e.lt,⟨⟨_,Z,by simp[Fj]⟩,hI⟩,λc hc=>?_,hR⟩;have L:=(FN.mem.mp hc).1;exact I1.ap1 L (I1.Ad.fresh L)
end L2
namespace Sm
open PySem L2
open MW (Ex Cv OEx Ka Bx m5 Lv Tg Res di MO G9 Cp Op2 Blt Bm Kx Src)
def ami{i:Nat}(h:(MW.Am ds 0)[i]?=some d):∃z,ds[i]?=some z/\d=.tup [.int (i:Nat),z]:=by
 unfold MW.Am at h;rw[dm,zc]at h;cases e:ds[i]? with
 |none=>rw[e]at h;simp at h|some z=>rw[e]at h;simp at h;exact⟨z,rfl,h.symm⟩
def axk{X:Cx}(r:nq X.K ι H ds U)(L:∀Z G,LeX ι H Z G->SqX bb X.K G q U):aqw nm X.K ι H (.con (MW.Am ds 0)) (Ien bb X.K q):=λZ G M1 le S1=>by
 refine⟨λi d hi hd=>?_,λ_=>⟨U,L Z G le,?_⟩⟩
 .obtain⟨z,e1,rfl⟩:=ami (show(MW.Am ds 0)[i]?=some d from hd)
  obtain⟨v,g1,g2⟩:=(r.Iw le).get e1;refine⟨⟨U,v,L Z G le,g1⟩,λu H2 ⟨p,x,e2,e3,e4,e5⟩=>?_⟩;have ex:x=v:=by have:=e5 U (L Z G le);rw[g1]at this;cases this;rfl
  subst ex e2 e4;obtain⟨S2,zb,r2⟩:=O1 (X:=X) S1 e3 (.cons (.int _) (.cons g2 .nil));exact⟨zb,S2,r2⟩
 .show U.length<=(MW.Am ds 0).length
  rw[<-r.length];simp[MW.Am]
def bb8(hg:Gl X "enumerate")(hm:X.mg "enumerate"= none)(ha:PE X a (tE nm W X.K L))(Yx:noStar a=true):PI X (.Tuple ts k0 pt) (.Call (.Name "enumerate" pr) [a] [] pos) (tI nm W X.K (.enm L)):=by
 intro G s0 σ H R' I hh;obtain⟨ι,ρ,M,s,M',S,R,e,q⟩:=hh;rw[MW.Vz]at e;obtain⟨x,M1,e1,e⟩:=fj e;refine PI.weak (bb5 (ts:=ts) (k0:=k0) (pt:=pt) (p:=pr) (pos:=pos) hg hm (Oi ha Vh (km Yx _ _)) (km Yx _ _)) (wi':=λZ H0 R0=>Z=σ/\H0=H/\R0=R') (λZ H0 R0 ⟨z1,z2,z3⟩=>?_) G s0 σ H R' I ⟨rfl,rfl,rfl⟩;subst z1 z2 z3;refine Xq (es':=.cons L .nil) (ds:=[x]) (M1:=M1) S R (by rw[MW.Hg,e1];simp) λU H1 vs le S1 R1 r=>?_
 cases r with
 |cons r1 r2 =>
  cases r2;cases r1 with
  |@tup p ds us h1 rr =>
   cases e;exact⟨true,p,rfl,⟨us,Lq.of h1⟩,q U H1 _ le S1 (axk rr λqq H2 zb=>Lq.of (zb.tup _ _ h1))⟩
  |_=>cases e
set_option tactic.hygienic true in
def a5k:Cy X (binaryOp .Add) (rOp nm X.K (MW.Eg .ak2)):=
 Cy.of aql λv u H Q ι M x y d M' S rv ru e q=>by
  have e:MW.agt x y M=.ok d M':=e;unfold MW.agt at e;split at e<;>try cases e
  rename_i G C h1 h2
  by_cases Z:G.length+C.length<=100000
  case neg=>rw[bc Z]at e;cases e
  rw[bz Z]at e;obtain⟨p,L,rfl,g1,U⟩:=qm S rv h1;obtain⟨R,Y,rfl,g2,J⟩:=qm S ru h2;refine⟨p,R,L,Y,rfl,rfl,g1,g2,by rw[<-U.length,<-J.length];exact gb Z Oh,λp3 h3=>?_⟩;have e:Res.ok (MW.D.ref M.length) (M++[.lst (G++C)])=.ok d M':=e;cases e;obtain⟨z1,z2,z3⟩:=ajj S h3 (U.append J);exact q _ _ _ z2 z1 z3
def axl{L:Nm}{W:G9}{X:Cx}{o:Expr}{o':Ex}{pos Z:Pos}{k f:Nat}{fa C:Addr}{fd:FuncData}{ps:X9}{m:Str}{mi ci:Nat}{cl:MW.Cl}{pl:Sem Bool}(ho:PE X o (tE L W X.K o'))(c0:Cls X.K C)(qk:Meth X.K C m fa)(F:Ff X.prog X.w X.K X.mg X.base CX0 k fa fd ps (spF L W X.K 1 f))(hr:zp k X.A)(hb:Binds X.K fd ps [])
 (qv:∀c' Zc,W.cls[c']?=some Zc->∀g,Zc.meths.lookup mi=some g->L.cls c'=some C/\g=f) (q0:∀i,L.fld i≠m)
 (ht:eval (.Call (.Attribute o m Z) [] [] pos) X.env=(do
  let ov<-eval o X.env
  standAt Z.atName
  let (f,first) <-holding [ov] (getMethod ov m pl)
  callWith pos f first (backTo pos (starEach [] X.env)) (backToKw pos (keywordEach [] X.env)))) :
 PE X (.Call (.Attribute o m Z) [] [] pos) (tE L W X.K (.meth o' mi .nil)):=
 PE.of (aqa (E:=E0) ho c0 qk F hr hb .nil ajf ht) fun σ H Q ι ρ M d M' S R e q=>by
  rw[MW.Hi]at e;obtain⟨x,G,e1,e⟩:=fj e;rw[MW.Mp]at e;refine one S R e1 λU H1 v le S1 R1 r=>?_
  obtain⟨j,hx⟩:∃j,x=.ref j:=by cases x<;>first|exact⟨_,rfl⟩|cases e
  subst hx;obtain⟨p,rfl,hp⟩:∃p,v=.ref p/\U.l[j]?=some p:=by cases r with|ref z=>exact⟨_,rfl,z⟩
  have e:(match G[j]? with
   | some (.ins c _)=>(match(W.cls[c]?).bind λC=>C.meths.lookup mi with
    | some f=>W.call f [.ref j] G|none=>.bad)
   | _=>.bad)=Res.ok d M':=e
  cases hM:G[j]? with
  |none=>rw[hM]at e;cases e
  |some ob =>
   rw[hM]at e;cases ob with
   |ins ci fs =>
    have e:(match(W.cls[ci]?).bind λC=>C.meths.lookup mi with|some f=>W.call f [.ref j] G|none=>.bad)=Res.ok d M':=e;cases hL:(W.cls[ci]?).bind λC=>C.meths.lookup mi with
    |none=>rw[hL]at e;cases e
    |some g =>
     rw[hL]at e;have e:W.call g [.ref j] G=.ok d M':=e;obtain⟨Zc,h1,h2⟩:=dw.mp hL;obtain⟨h3,rfl⟩:=qv ci Zc h1 g h2;obtain⟨C',dx,l,g1,g2,g3⟩:=S1.obj j _ p hM hp;rw[h3]at g1;cases g1;exact⟨p,dx,l,rfl,g2,Xv q0 g3,U,G,[.ref j],d,M',S1,.cons r .nil,rfl,e,λqq H' v V7 S' r'=>q qq H' v (le.trans V7) S' r'⟩
   |_=>cases e
def axm:PS X st (tS nm W X.K .raise):=λZ s σ H D I G=>by obtain⟨ι,ρ,M,fl,U,L,S,R,e,q⟩:=G;rw[MW.aoi]at e;cases e
def az9(h:PE X a t):PE X (.BoolOp op [a] pos) t:=λZ s G H Q I q=>PyProof.Rows.BoolOp_one (h Z s G H Q I q)
noncomputable def bt(H:Hp)(a:Addr):Bool:=match H a with|some (.tup _)=>true|_=>false
def afh(h:MW.Wo d=some l)(r:Rep K U H d v):∃p us,v=.ref p/\nq K U H l us/\∀Z G,LeX U H Z G->SqX (bt H p) K G p us:=by
 cases r with
 |tup e r=>cases h;exact⟨_,_,rfl,r,λZ G le=>by simp only[bt,e];exact Lq.of (le.tup _ _ e)⟩
 |vl e n r=>cases h;exact⟨_,_,rfl,r,λZ G le=>by simp only[bt,e];exact Ie.of (le.lst _ _ n.1 e)⟩
 |_=>cases h
def afi{X:Cx}{s:Src}(h:∀Z U M1,LeX ι H Z U->j9 nm X.K Z U M1->(∀i d,s.item i M1=some d->∃x y G L u v,d=.tup [x,y]/\SqX (b p) X.K U p G/\SqX (b q) X.K U q L/\G[i]?=some u/\L[i]?=some v/\Rep X.K Z U x u/\Rep X.K Z U y v)/\(s.fin M1=true->∃G,SqX (b p) X.K U p G/\G.length<=s.len)) :
 aqw nm X.K ι H s (IzN b X.K [p,q]):=λZ U M1 le S1=>by
 obtain⟨h1,h2⟩:=h Z U M1 le S1;refine⟨λi d hi hd=>?_,λhf=>?_⟩
 .obtain⟨x,y,G,L,u,v,rfl,e1,e2,e3,e4,r1,r2⟩:=h1 i d hd
  refine⟨⟨[u,v],rfl,λj a hj=>?_⟩,λu' H2 z=>?_⟩
  .match j,hj with
   |0,hj=>cases hj;exact⟨G,u,e1,e3,rfl⟩|1,hj=>cases hj;exact⟨L,v,e2,e4,rfl⟩
  .obtain⟨t,ws,rfl,e6,rfl,e8,e9⟩:=z
   have a1:=e9 0 p G rfl e1;have a2:=e9 1 q L rfl e2
   match ws,e8,a1,a2 with
   |[w1,w2],_,a1,a2 =>
    rw[e3]at a1;rw[e4]at a2;cases a1;cases a2;obtain⟨S2,zb,r3⟩:=O1 (X:=X) S1 e6 (.cons r1 (.cons r2 .nil));exact⟨zb,S2,r3⟩
 .obtain⟨G,e1,e2⟩:=h2 hf
  exact⟨p,G,rfl,e1,e2⟩
def axn(e:MW.ak6 [x,y] M=.ok s M'):M'=M/\∃Z,MW.Wo y=some Z/\((∃G,MW.Wo x=some G/\G.length=Z.length/\s=.con (MW.Ke [G,Z] Z.length))\/∃n G,x=.ref n/\M[n]?=some (.lst G)/\G.length=Z.length/\s=.zl n Z):=by
 have e:(match MW.Wo y with|some Z=>MW.agw x Z M|none=>.bad)=Res.ok s M':=e;cases hy:MW.Wo y with
 |none=>rw[hy]at e;cases e
 |some Z =>
  rw[hy]at e;have e:MW.agw x Z M=.ok s M':=e;unfold MW.agw at e;cases hx:MW.Wo x with
  |some G =>
   rw[hx]at e;obtain⟨U,L⟩:=Qu e;cases L;exact⟨rfl,Z,rfl,.inl ⟨G,rfl,U,rfl⟩⟩
  |none =>
   rw[hx]at e;cases x with
   |ref n =>
    cases hM:M[n]? with
    |none=>simp only[hM]at e;cases e
    |some o=>cases o with
     |lst G =>
      simp only[hM]at e;obtain⟨U,L⟩:=Qu e;cases L;exact⟨rfl,Z,rfl,.inr ⟨n,G,rfl,hM,U,rfl⟩⟩
     |_=>simp only[hM]at e;cases e
   |_=>cases e
def bb9(hg:Gl X "zip")(hm:X.mg "zip"= none)(ha:PA X (a::es) (Vu nm W X.K qv))(hs:starEach (a::es) X.env=(false,eval a X.env)::starEach es X.env)(Hz:(backTo pos (starEach es X.env)).any (·.1)=false)(h2:Cv.len qv=2) :
 PI X (.Tuple ts k0 pt) (.Call (.Name "zip" pr) (a::es) [] pos) (tI nm W X.K (.zip qv)):=by
 intro q1 s0 σ H R' I hh;obtain⟨ι,ρ,M,s,M',S,R,e,q⟩:=hh;rw[MW.au6]at e;obtain⟨ds,N1,e1,e⟩:=fj e;have Z:=Gb e1;rw[h2]at Z
 match ds,Z,e1,e with
 |[x,y],_,e1,e =>
  obtain⟨rfl,ys,hy,hx⟩:=axn e;refine PI.weak (bb7 (ts:=ts) (k0:=k0) (pt:=pt) (p:=pr) (pos:=pos) hg hm ha hs Hz) (wi':=λqk H0 R0=>qk=σ/\H0=H/\R0=R') (λqk H0 R0 z=>?_) q1 s0 σ H R' I ⟨rfl,rfl,rfl⟩;obtain⟨rfl,rfl,rfl⟩:=z;refine Xq S R e1 λL H1 vs le S1 R1 rr=>?_
  cases rr with
  |cons r1 rr=>cases rr with
   |cons r2 rr =>
    cases rr;obtain⟨p2,q0,rfl,l2,k2⟩:=afh hy r2;have x0:=(Le.refl L H1).toX;rcases hx with⟨xs,hx,hl,rfl⟩|⟨n,xs,rfl,hn,hl,rfl⟩
    .obtain⟨p1,qq,rfl,l1,k1⟩:=afh hx r1
     refine⟨bt H1,[p1,p2],rfl,rfl,λa ha=>?_,q L H1 _ le S1 (afi λG H2 M2 U S2=>⟨λi d Z=>?_,λ_=>⟨qq,k1 _ _ U,?_⟩⟩)⟩
     .simp only[cj,uo,or_false]at ha
      rcases ha with rfl|rfl
      .exact⟨_,k1 _ _ x0⟩
      .exact⟨_,k2 _ _ x0⟩
     .have Z:(MW.Ke [xs,ys] ys.length)[i]?=some d:=Z
      have hi:i<ys.length:=by simpa[MW.Ke]using(ak.mp Z).1
      have q2:i<xs.length:=b_ hi (g_ hl)
      obtain⟨u,g1,g2⟩:=(l1.Iw U).get (dz q2);obtain⟨v,g3,g4⟩:=(l2.Iw U).get (dz hi);refine⟨xs[i],ys[i],qq,q0,u,v,?_,k1 _ _ U,k2 _ _ U,g1,g3,g2,g4⟩;rw[MW.Ke,dm,lq hi]at Z;cases Z;simp[hi,q2]
     .show qq.length<=(MW.Ke [xs,ys] ys.length).length
      rw[<-l1.length];simp[MW.Ke,hl]
    .cases r1 with
     |@ref _ p1 h1 =>
      have get:∀{G H2 M2 zs},LeX L H1 G H2->j9 nm X.K G H2 M2->M2[n]?=some (.lst zs)->∃us,SqX (bt H1 p1) X.K H2 p1 us/\nq X.K G H2 zs us:=fun{G H2 M2 zs} U S2 hz=>by obtain⟨ws,w1,_⟩:=S1.obj n _ p1 hn h1;obtain⟨us,k1,k3⟩:=S2.obj n _ p1 hz (U.get h1);exact⟨us,by simp only[bt,w1];exact Ie.of k1,k3⟩
      refine⟨bt H1,[p1,p2],rfl,rfl,λa ha=>?_,q L H1 _ le S1 (afi λG H2 M2 U S2=>⟨λi d Z=>?_,λhf=>?_⟩)⟩
      .simp only[cj,uo,or_false]at ha
       rcases ha with rfl|rfl
       .obtain⟨us,k,_⟩:=get x0 S1 hn
        exact⟨_,k⟩
       .exact⟨_,k2 _ _ x0⟩
      .cases hM:M2[n]? with
       |none=>simp only[Src.item,hM]at Z;cases Z
       |some o=>cases o with
        |lst zs =>
         simp only[Src.item,hM]at Z
         by_cases hz:zs.length=ys.length
         .rw[bz hz]at Z
          obtain⟨x,a1,Z⟩:=dw.mp Z;obtain⟨y,a2,rfl⟩:=cz.mp Z;obtain⟨us,k1,l1⟩:=get U S2 hM;obtain⟨u,g1,g2⟩:=l1.get a1;obtain⟨v,g3,g4⟩:=(l2.Iw U).get a2;exact⟨x,y,us,q0,u,v,rfl,k1,k2 _ _ U,g1,g3,g2,g4⟩
         .rw[bc hz]at Z;cases Z
        |_=>simp only[Src.item,hM]at Z;cases Z
      .cases hM:M2[n]? with
       |none=>simp only[Src.fin,hM]at hf;cases hf
       |some o=>cases o with
        |lst zs =>
         simp only[Src.fin,hM]at hf;obtain⟨us,k1,l1⟩:=get U S2 hM;exact⟨us,k1,by rw[<-l1.length];exact f_ (show zs.length=ys.length by simpa using hf)⟩
        |_=>simp only[Src.fin,hM]at hf;cases hf
theorem afj:∀{Z:List Dv}{b:Bool},MW.allB Z=some b->∃bs:List Bool,Z=bs.map MW.D.bl/\b=bs.all id
 |[],b,e=>by cases e;exact⟨[],rfl,rfl⟩
 |.bl k::r,b,e=>by
  obtain⟨c,G,rfl⟩:=cz.mp (show(MW.allB r).map (k&&·)=some b from e);obtain⟨bs,rfl,rfl⟩:=afj G;exact⟨k::bs,rfl,by simp⟩
theorem aao{L:Io}{H:Hp}{K:Fg}:∀{bs:List Bool}{Z:List V}{is:Zl},nq K L H (bs.map MW.D.bl) Z->Vals Z is->is=bs.map Value.bool
 |[],_,_,r,h=>by cases r;cases h;rfl
 |k::bs,_,_,r,h=>by
  cases r with
  |cons U r2 =>
   cases h with
   |cons G h2 =>
    cases U;cases G;rw[aao r2 h2];rfl
def bca(hc:X.calm=true):By X (.builtin "all") (rB nm X.K .all):=λqk s σ H vs us Q I O2 hh=>by
 obtain⟨ι,M,ds,d,M',S,r,e,q⟩:=hh;obtain⟨x,rfl,e⟩:∃x,ds=[x]/\Res.uy (((MW.gn M x).bind MW.allB).map MW.D.bl) M=.ok d M':=by
  cases ds with
  |nil=>cases e
  |cons x l=>cases l with
   |nil=>exact⟨x,rfl,e⟩|cons _ _=>cases e
 obtain⟨e1,rfl⟩:=xj e;obtain⟨b,e2,rfl⟩:=cz.mp e1;obtain⟨xs,e3,e4⟩:=dw.mp e2;obtain⟨bs,rfl,rfl⟩:=afj e4;obtain⟨v,rfl,rv⟩:=Ca r rfl;obtain⟨u,rfl,ru⟩:=Qv O2;obtain⟨p,ws,rfl,hp,rl⟩:=qm S rv e3;cases ru;obtain⟨is,qq,pl,_⟩:=I.list (Ie.of hp);have Z:=aao rl qq;have G5:p<s.heap.objs.size:=by obtain⟨_,e,_⟩:=pl.isList;exact aq e
 refine call_all_walk (wpAny_pyIter_list pl.isList ?_);refine⟨_,_,_,_,_,_,λi=>bs.getD i true,rfl,Walks.list (A:=X.A.in1) (I.ok.hd hc) s.heap.objs.size p (dq G5) is.toArray,⟨⟨_,bu _ rfl,rfl,rfl⟩,pl.isList.push _⟩,λi v s Q E hP U=>?_,λh' tk G=>?_⟩
 .have hv:is[i]?=some v:=by simpa using hP
  rw[Z,dm]at hv;obtain⟨k,G,rfl⟩:=cz.mp hv;refine jn ?_;have U:Q (bs.getD i true) s:=U;rw[gw,G]at U;exact U
 .have ha:(List.range is.toArray.size).all (λi=>bs.getD i true)=bs.all id:=by
   rw[Z];simp only[gf,dg];rw[qe,ik,ik];constructor
   .intro h k G
    obtain⟨i,L,rfl⟩:=pq G;have:=h i (iw.mpr L);simpa[gw,L]using this
   .intro h i L
    have Q7:=iw.mp L;have:=h bs[i] (ph Q7);simpa[gw,Q7]using this
  rw[ha];exact⟨.bl _,H,I.kept (t':=tk) (old_kept G),rfl,q ι H _ (Le.refl _ _) S (.bl _)⟩
def axo(hT:PySem.W.kitAny X.K (.type "tuple") [.type "tuple",.type "list"]=some true)(q2:PySem.W.kitAny X.K (.type "int") [.type "tuple",.type "list"]=some false)(hg:Gl X n)(hm:X.mg n=none)(hv:bootBuiltins n=some (.builtin "isinstance"))(hn:n≠"__name__")(Q4:(n==("__debug__": Str))=false)(q0:Gl X "tuple")(q1:X.mg "tuple"= none)(qv:Gl X "list")(qk:X.mg "list"= none)(ha:PE X a (tE nm W X.K a'))(he:starEach [a,.Tuple [.Name "tuple" p1,.Name "list" p2] k pt] X.env=(false,eval a X.env)::starEach [.Tuple [.Name "tuple" p1,.Name "list" p2] k pt] X.env)(Hz:(backTo pos (starEach [.Tuple [.Name "tuple" p1,.Name "list" p2] k pt] X.env)).any (·.1)=false):PE X (.Call (.Name n p) [a,.Tuple [.Name "tuple" p1,.Name "list" p2] k pt] [] pos) (tE nm W X.K (.blt .isSeq (.cons a' .nil))):=by
 intro G s σ H Q I hh;obtain⟨ι,ρ,M,d,M',S,R,e,q⟩:=hh;rw[MW.aa4]at e;obtain⟨ds,M1,e1,e⟩:=fj e;rw[MW.Hg]at e1;obtain⟨x,M2,e2,e1⟩:=fj e1;rw[MW.Mp]at e1;cases e1;refine jd (Cg I hg hm hv ?_ hn Q4);refine v5 (Q:=EP X G σ Q) ?_ he Hz;rw[he];show wpAny _ _ (spliced ((false,eval a X.env)::backTo pos (starEach [.Tuple [.Name "tuple" p1,.Name "list" p2] k pt] X.env))) _ _ s;refine kh (Bf (ha G s σ H (λv L=>∃Z,Le ι H Z L/\j9 nm X.K Z L M1/\Rep X.K Z L x v) I ⟨ι,ρ,M,x,M1,S,R,e2,λZ L v le S1 r=>⟨Z,le,S1,r⟩⟩) λu U z_=>?_);obtain⟨v,L,I1,r1,Z,le,S1,r⟩:=z_;show wpAny _ _ (spliced ((false,eval (.Tuple [.Name "tuple" p1,.Name "list" p2] k pt) X.env)::backTo pos (starEach [] X.env))) _ _ U;refine kh (wpAny_Tuple ?_);show wpAny _ _ (spliced ((false,eval (.Name "tuple" p1) X.env)::backTo pt (starEach [.Name "list" p2] X.env))) _ _ U;refine kh (Cg I1 q0 q1 (show bootBuiltins "tuple"= some (.type "tuple")by decide+kernel) ?_ (by decide+kernel) (by decide+kernel));show wpAny _ _ (spliced ((false,eval (.Name "list" p2) X.env)::backTo pt (starEach [] X.env))) _ _ U;refine kh (Cg I1 qv qk (show bootBuiltins "list"= some (.type "list")by decide+kernel) ?_ (by decide+kernel) (by decide+kernel));refine uv ⟨by show 2<=sizeLine;decide,?_⟩;refine uv ?_;have I2:Inv X G σ L { U with heap:=U.heap.push { cls:=.type "tuple",data:=.seq #[.type "tuple",.type "list"] } }:=I1.kept (t':=U.toks) λb u e=>ao _ e
 have qq:(U.heap.push { cls:=.type "tuple",data:=.seq #[.type "tuple",.type "list"] }).get? U.heap.objs.size=some { cls:=.type "tuple",data:=.seq #[.type "tuple",.type "list"] }:=bu _ rfl;have e:Res.uy ((MW.isX (some true) (some false) x).map MW.D.bl) M1=.ok d M':=e;obtain⟨e4,e5⟩:=xj e;subst e5;obtain⟨b,e3,rfl⟩:=cz.mp e4;have fin:∀tk,EP X G σ Q (.bool b) { U with heap:=U.heap.push { cls:=.type "tuple",data:=.seq #[.type "tuple",.type "list"] },toks:=tk }:=λtk=>⟨.bl b,L,I2.tok _,rfl,q Z L _ le S1 (.bl b)⟩
 cases r with
 |int i=>cases e3;obtain⟨t,q⟩:=(show ∃t,u=Value.int i t from r1);cases q;exact PySem.W.kia_tup PySem.W.kitx_int I2.T8 True.intro qq q2 (λz=>nomatch z) fin
 |@tup p ds us h1 rr =>
  cases e3;cases(show u=Value.ref p from r1);obtain⟨_,_,_,h1⟩:=(show zj X.prog X.w L _ p (.tup us)from I2.Ad p _ h1);obtain⟨o,g1,g2,_⟩:=h1;exact PySem.W.kia_tup PySem.W.kitx_tuple I2.T8 ⟨o,g1,g2⟩ qq hT (λz=>nomatch z) fin
 |_=>cases e3
end Sm
namespace Sm
open PySem L2
open MW (Ex Cv OEx Ka Bx m5 Lv Tg Res di MO G9 Cp Op2 Blt Bm Kx Src)
def tup_is(I:Inv X pins σ H s)(r:RelV (.ref p) v)(h:H p=some (.tup U)):s.TypeIs v "tuple"/\∀a,v=.ref a->∃G,s.heap.get? a=some G/\G.dict=none:=by cases r;obtain⟨_,_,_,o,Z,h2,_,_,L⟩:=(show zj X.prog X.w H s.heap p (.tup U)from I.Ad p _ h);exact⟨⟨o,Z,h2⟩,λa e=>by cases e;exact⟨o,Z,L⟩⟩
set_option tactic.hygienic true in
theorem bcb{id:String}(hT:∀x M,MW.Vp m x M=true->∃u,x=.tup u)(hi:m≠.index)(pa:PlainAttrs "tuple")(y:Slot "tuple" name id)(q0:typeOf (.builtin id)=pure (.type "method_descriptor"))(hm:MtR X id (rM nm X.K m))(ho:PE X o (tE nm W X.K o'))(ha:PA X (e::J) (Vu nm W X.K C))(q3:attributeBase o name X.env (eval o X.env)=eval o X.env)(q5:((backTo U (starEach (e::J) X.env)).all (λx=>!x.1)&&(backToKw U (keywordEach [] X.env)).all (λx=>x.1.isSome)
&&decide ((e::J).length+([]:List Keyword).length+(if([]:List Keyword).isEmpty then 0 else 1)<30))=true)(q4:(apos.endLine==U.line)=true)(hs:starEach (e::J) X.env=(false,eval e X.env)::starEach J X.env)(Xk:(backTo U (starEach J X.env)).any (·.1)=false) :
 PE X (.Call (.Attribute o name apos) (e::J) [] U) (tE nm W X.K (.bm m o' C)):=by
 intro Z s σ H Q I hh;obtain⟨ι,ρ,M,d,M',S,R,Y,q⟩:=hh;rw[MW.aog]at Y;obtain⟨x,M1,e1,Y⟩:=fj Y;split at Y
 .rename_i ht
  obtain⟨u,M2,e2,Y⟩:=fj Y;obtain⟨ts,rfl⟩:=hT _ _ ht;refine wpAny_Call_method_late q3 q5 q4 rfl (Bf (ho Z s σ H (λv L=>(∃p G,v=.ref p/\L p=some (.tup G))/\Vu nm W X.K C σ L λG H2=>rM nm X.K m v G H2 Q) I (one S R e1 λqq L v le S1 R1 r=>?_)) λv s1 ⟨xv,L,I1,r1,⟨p,G,ev,hp⟩,q1⟩=>?_)
  .refine⟨?_,qq,ρ,M1,u,M2,S1,R1,e2,λqk H2 G zb S2 rs=>⟨qk,M2,.tup ts,u,d,M',S2,r.mono zb,rs,Y,λ_ _=>hi,λqv H' w V7 S' r'=>q qv H' w ((le.trans zb).trans V7) S' r'⟩⟩
   cases r with
   |tup h1 h2=>exact⟨_,_,rfl,h1⟩
  .subst ev
   obtain⟨h1,h2⟩:=tup_is I1 r1 hp;refine⟨"tuple",id,pa,y,q0,h1,h2,?_⟩;have hA:=ha U Z s1 σ L _ I1 q1;rw[hs]at hA⊢;refine Calls.callWith_builtin (by show(false||(backTo U (starEach J X.env)).any (·.1))=false;rw[Xk]<;>rfl) (Calls.evalArgs_plain ?_);exact Bf hA λus s2 ⟨G,H2,I2,r2,q2⟩=>hm Z s2 σ H2 _ G v us Q I2 r1 r2 q2
 .cases Y
end Sm
namespace PySem.SeqAt
open AutoSeq1 (wpAny_loadPart')
open MeetsSeq MeetsSeq2 MeetsSeq3 SeqRoads2
def arq(I:Nat->β->Shared->Prop)(L:∀i c s,i<b->I i c s->wpAny M A (f i c) (λr s'=>match r with|.yield U=>I (i+1) U s'|.done U=>Q U s') E s)(fin:∀c s,I b c s->Q c s)(G:I 0 c s):wpAny M A (forIn [:b] c f) Q E s:=by
 rw[vz];have qq:([:b]:Std.Legacy.Range).size=b:=by simp[Std.Legacy.Range.size]
 show wpAny M A (forIn (List.range' 0 ([:b]:Std.Legacy.Range).size 1) c f) Q E s;rw[qq];refine jf f (λl c s=>∃i,i<=b/\l=List.range' i (b-i) 1/\I i c s) Q ?_ ?_ _ c ⟨0,iy _,by simp,G⟩
 .rintro x qk c s ⟨i,hi,Z,h⟩
  have G5:i<b:=by
   rcases uq i b with z|z
   .exact z
   .rw[show b-i=0 by lia]at Z;simp at Z
  obtain⟨n,hn⟩:∃n,b-i=n+1:=⟨b-i-1,by lia⟩;rw[hn,zu]at Z;obtain⟨rfl,rfl⟩:=List.cons.inj Z;refine iz (L x c s G5 h) (λr s' h'=>?_) λ_ _ z=>z
  cases r with
  |done U=>exact h'|yield U=>exact⟨x+1,G5,by congr 1;lia,h'⟩
 .rintro c s ⟨i,hi,Z,h⟩
  have:i=b:=by
   rcases uq i b with z|z
   .obtain⟨n,hn⟩:∃n,b-i=n+1:=⟨b-i-1,by lia⟩
    rw[hn,zu]at Z;simp at Z
   .exact u_ hi z
  subst this;exact fin _ _ h
def Ze(l:Addr)(Z:Q1)(n:Nat)(dd:Option Addr)(sl:Array (Option Value))(x:Value)(e:Value->Bool)(j:Nat)(hj:j<Z.size)
 (qk:e Z[j]=true) (qq:∀m (hm:m<Z.size),m<j->e Z[m]=false) :
 Meets (Builtin.«tuple.index» ⟨[.ref l,x],[]⟩)
  (λA R s=>s.heap.get? l=some { cls:=.type "tuple",dict:=dd,data:=.seq Z n,slots:=sl }/\(∀y,y∈Z->EqAt A.in1 s y x (e y))/\R (.ok (.ret (.int j s.toks))) { s with toks:=s.toks+1 }):=
 .of_wp λprog w A R s h=>by
  obtain⟨hp,g,d,tk,os⟩:=s;obtain⟨hl,he,h⟩:=h
  wp_walk using wpAny_loadPart' hl,arq (λi b U=>b.1=none/\U=⟨hp,g,d,tk,os⟩/\i<=j)
  ·
   rintro i b U hi ⟨hb,rfl,G⟩;have L:i<Z.size:=c_ G hj
   rw[show Z[i]?=some Z[i]from Array.getElem?_eq_getElem L];refine aa (he _ (Array.getElem_mem L) prog w _ _ ?_);rcases uq i j with z|z
   .rw[qq i L z]
    wp_walk
    exact⟨rfl,rfl,z⟩
   .obtain rfl:i=j:=u_ G z
    rw[qk]
    wp_walk
    exact⟨_,rfl,h⟩
  ·
   rintro b U ⟨hb,rfl,G⟩
   lia
  .exact⟨rfl,rfl,iy _⟩
end PySem.SeqAt
namespace Sm
open PySem L2
open MW (Ex Cv OEx Ka Bx m5 Lv Tg Res di MO G9 Cp Op2 Blt Bm Kx Src)
def ars(e:MW.Qg .J9 x ds M=.ok d U):∃G Z j,ds=[G]/\x=.tup Z/\MW.Wn M G Z=some j/\d=.int ((j:Nat):Int)/\U=M:=by
 cases x with
 |tup Z =>
  obtain⟨G,rfl,e0⟩:=Ky e;obtain⟨e1,L⟩:=xj e0;obtain⟨j,e3,e4⟩:=cz.mp e1;exact⟨G,Z,j,rfl,rfl,e3,e4.symm,L⟩
 |_=>cases e
def art(hr:zp 8 X.A):MtR X "tuple.index" (rM nm X.K .J9):=λqv s σ H v vs u us Q I ru O2 hh=>by
 obtain⟨ι,M,x,ds,d,M',S,r,rs,e,nt,q⟩:=hh;obtain⟨d0,xs,j,rfl,rfl,e2,rfl,rfl⟩:=ars e;cases rs with
 |cons hd ht =>
  cases ht;cases O2 with
  |cons hu qq =>
   cases qq;obtain⟨bs,e3,e4⟩:=dw.mp (show(MW.Qe M' d0 xs).bind (·.findIdx? id)=some j from e2);cases r with
   |tup hp rl =>
    cases ru;obtain⟨z,is,rv,⟨q0,dd,qk,sl⟩,hg,hc,n,G,q1⟩:=(show zj X.prog X.w H s.heap _ (.tup _)from I.Ad _ _ hp);simp only at hc G;subst hc G;obtain⟨f,g1,g2⟩:=V9 (A:=X.A.in1) I S ((hr.mono (by decide:7<=8)).in1) rl rv hd hu e3;obtain⟨f1,f2⟩:=Sv e4;have U:is.length=bs.length:=by rw[(Jz e3).1,rl.length,rv.length]
    have lj:j<is.length:=by rw[U];exact(ak.mp f1).1
    have fa:∀m (Z:m<is.length),bs[m]?=some (f is[m]):=λm Z=>g2 m _ (dz Z)
    refine call_meetsIn F.slot_tuple_index ⟨_,hg,rfl⟩ F.entry_tuple_index (F.args_tuple_index_2 _ _) (λA R s h=>SeqAt.Ze _ is.toArray n dd sl _ f j (by simpa using lj) ?_ ?_ _ _ A R s h) ⟨hg,g1,?_⟩
    .have:=fa j lj;rw[f1]at this;simpa using(ie this).symm
    .intro m Z L
     have Z:m<is.length:=by simpa using Z
     have:=fa m Z;rw[f2 m L]at this;simpa using(ie this).symm
    .exact⟨.int j,H,I.tok _,⟨_,rfl⟩,q ι H _ (Le.refl _ _) S (.int _)⟩
end Sm
namespace Sm
open PySem L2
open MW (Ex Cv OEx Ka Bx m5 Lv Tg Res di MO G9 Cp Op2 Blt Bm Kx Src)
theorem X4{ι:Io}{H:Hp}{K:Fg}:∀{G:List Dv}{Z:List V}{is:Zl}{U:U1},nq K ι H G Z->Vals Z is->MW.Ys G=some U->PyProof.Rows.IntsAre is U
 |_,_,_,_,.nil,.nil,h=>by cases h;exact .nil
 |_,_,_,_,.cons r t,.cons rv tv,h=>by
  cases r<;>simp only[MW.Ys]at h<;>try cases h
  obtain⟨qq,e1,L⟩:=cz.mp h;subst L;obtain⟨tk,rfl⟩:=rv;exact .cons _ _ (X4 t tv e1)
theorem X5:∀{is:Zl}{Z:U1},PyProof.Rows.IntsAre is Z->Vals (Z.map V.int) is
 |_,_,.nil=>.nil|_,_,.cons n t h=>.cons ⟨t,rfl⟩ (X5 h)
theorem Ug{G:Io}{H:Hp}{K:Fg}:∀Z:List Int,nq K G H (Z.map MW.D.int) (Z.map V.int)
 |[]=>.nil|n::Z=>.cons (.int n) (Ug Z)
def aru(hr:zp 8 X.A)(I:Inv X pins σ H s)(rx:Rep X.K ι H x v)(ru:RelV v u)(U:MW.toI x=some ns)(hl:(MW.Bt ns).length<31)(h:∀Z tk L,(∀b o,s.heap.get? b=some o->Z.get? b=some o)->Q6.za X.w Z s.heap.objs.size (λk=>k∈ns) L->L<=(MW.Bt ns).length->Q (.ref s.heap.objs.size) { s with heap:=Z,toks:=tk }) :
 wpAny (model X.prog X.w) X.A (call (.type "set") [u]) Q X.xe s:=by
 cases rx with
 |tup hp rl =>
  cases ru;obtain⟨is,G,pl,_⟩:=I.tuple (Lq.of hp);exact Q6.ak0 hr.hd pl (by simpa using X4 rl G U) (λk hk=>(MW.Tw k ns).mpr hk) hl h
 |_=>cases U
def amj(hr:zp 8 X.A)(I1:Inv X pins σ H1 s1)(S1:j9 nm X.K qq H1 M')(hS:Q6.za X.w h' a (λk=>k∈ns) n')(ha:s1.heap.objs.size<=a)(keep:∀b o,s1.heap.get? b=some o->h'.get? b=some o)(hn:n'<31)(q:∀Z L v,Le qq H1 Z L->j9 nm X.K Z L M'->Rep X.K Z L (.vl ((MW.sortI (MW.Bt ns)).map MW.D.int)) v->Q v L) :
 wpAny (model X.prog X.w) X.A (call (.builtin "sorted") [.ref a]) (EP X pins σ Q) X.xe { s1 with heap:=h',toks:=tk }:=by
 refine Q6.ada (s:={ s1 with heap:=h',toks:=tk }) hr.hd hS hn λh2 G p2 out ms Px q1 q0 so nd mem z_=>?_
 obtain⟨c,g⟩:=z_;have qk:(MW.Bt ns).length<=n':=by
  obtain⟨xs,o,es,ep,t,X,hm,rfl,_⟩:=hS;have:=Q6.agk (MW.aa6 ns) λk hk=>(hm k).mp ((MW.Tw k ns).mp hk)
  rw[dg]at this;exact this
 obtain rfl:=MW.aij so nd mem;obtain⟨o9,_,_,_,g9,_⟩:=hS.get;have U:s1.heap.objs.size<=p2:=gb (gb ha (yh (aq g9))) q1
 have hf:H1 p2=none:=I1.Ad.fresh U;have qv:((MW.sortI (MW.Bt ns)).map V.int).length<=sizeLine:=by rw[dg,(MW.Cm _).length_eq,jw];exact e_ (c_ qk (b_ hn (by decide)))
 have I3:Inv X pins σ (upd H1 p2 (.lst ((MW.sortI (MW.Bt ns)).map V.int))) { s1 with heap:=h2,toks:=G }:=
  I1.laid (a:=p2) (t':=G) (λb o e=>Px b o (keep b o e)) U (show zj X.prog X.w _ _ _ (.lst _)from⟨qv,out.toList,c,X5 q0,by simpa using g⟩)
 obtain⟨S2,zb,r2⟩:=Qs (X:=X) S1 hf (Ug _);exact⟨.ref p2,_,I3,rfl,q _ _ _ zb S2 r2⟩
def a5l{U L:U1}(hS:Q6.za w s.heap a (λk=>k∈U) n)(hT:Q6.za w s.heap b (λk=>k∈L) m)(hn:n+m<31)(ne:b≠a)(h:∀Z G,(∀c o,s.heap.get? c=some o->Z.get? c=some o)->Q6.za w Z s.heap.objs.size (λk=>k∈U++L) G->G<31->Q (.ref s.heap.objs.size) { s with heap:=Z }) :
 wpAny (model prog w) A (binaryOp .BitOr (.ref a) (.ref b)) Q E s:=
 Q6.a1b hS hT hn ne λZ G k Mf=>h Z G k (Mf.congr λk=>by simp)
def axp{W:G9}{L:MW.Env}(e:(Ex.Mh a b).den W L M=.ok d M'):∃x U Z y G,a.den W L M=.ok x U/\MW.toI x=some Z/\b.den W L U=.ok y M'/\MW.toI y=some G/\Z.length+G.length<31/\d=.vl ((MW.sortI (MW.Bt (Z++G))).map MW.D.int):=by
 rw[MW.Wq]at e;obtain⟨x,U,e1,e⟩:=fj e;cases hk1:MW.toI x with
 |none=>rw[hk1]at e;cases e
 |some Z =>
  rw[hk1]at e;obtain⟨_,e⟩:=Qu e;obtain⟨y,M2,e2,e⟩:=fj e;cases hk2:MW.toI y with
  |none=>rw[hk2]at e;cases e
  |some G =>
   rw[hk2]at e;obtain⟨c2,e⟩:=Qu e;cases e;exact⟨x,U,Z,y,G,e1,hk1,e2,hk2,c2,rfl⟩
def arv(hr:zp 8 X.A)(hg:Gl X n)(hm:X.mg n=none)(hv:bootBuiltins n=some (.builtin "sorted"))(hn:n≠"__name__")(Q4:(n==("__debug__": Str))=false)(qv:Gl X L)(q6:X.mg L=none)(q3:bootBuiltins L=some (.type "set"))(Yy:L≠"__name__")(q7:(L==("__debug__": Str))=false)(ha:PA X [a] (Vu nm W X.K (.cons a' .nil)))(hb:PA X [b] (Vu nm W X.K (.cons b' .nil)))(he:starEach [.BinOp (.Call (.Name L p1) [a] [] q1) .BitOr (.Call (.Name L p2) [b] [] q2) q0] X.env=(false,eval (.BinOp (.Call (.Name L p1) [a] [] q1) .BitOr (.Call (.Name L p2) [b] [] q2) q0) X.env)::starEach [] X.env)(Hz:(backTo q (starEach [] X.env)).any (·.1)=false)(z5:starEach [a] X.env=(false,eval a X.env)::starEach [] X.env)(zw:(backTo q1 (starEach [] X.env)).any (·.1)=false)(q8:starEach [b] X.env=(false,eval b X.env)::starEach [] X.env)(z0:(backTo q2 (starEach [] X.env)).any (·.1)=false) :
 PE X (.Call (.Name n p) [.BinOp (.Call (.Name L p1) [a] [] q1) .BitOr (.Call (.Name L p2) [b] [] q2) q0] [] q) (tE nm W X.K (.Mh a' b')):=by
 intro G s σ H Q I hh;obtain⟨ι,ρ,M,d,M',S,R,e,qq⟩:=hh;obtain⟨x,M1,ns,y,ms,e1,g1,e2,g2,hl,rfl⟩:=axp e;have d1:=MW.ag0 ns;have d2:=MW.ag0 ms;refine jd (Cg I hg hm hv ?_ hn Q4);refine v5 (Q:=EP X G σ Q) ?_ he Hz;rw[he];show wpAny _ _ (spliced ((false,eval (.BinOp (.Call (.Name L p1) [a] [] q1) .BitOr (.Call (.Name L p2) [b] [] q2) q0) X.env)::backTo q (starEach [] X.env))) _ _ s;refine kh (wpAny_BinOp ?_);refine jd (Cg I qv q6 q3 ?_ Yy q7);refine jo (Bf (ha q1 G s σ H (λvs H1=>∃Z v,vs=[v]/\Le ι H Z H1/\j9 nm X.K Z H1 M1/\Rep X.K Z H1 x v) I ⟨ι,ρ,M,[x],M1,S,R,by simp[e1,Res.bind],λZ H1 vs le S1 r=>?_⟩) λus s1 z_=>?_) z5 zw
 .obtain⟨v,ev,rv⟩:=Ca r rfl
  exact⟨Z,v,ev,le,S1,rv⟩
 obtain⟨vs,H1,I1,r1,Z,v1,ev,Vv,S1,rx⟩:=z_;subst ev;obtain⟨u,rfl,ru⟩:=Qv r1;refine aru hr I1 rx ru g1 (by lia) λh' tk n1 keep hS yy=>?_
 obtain⟨o,es,ep,t,qk,z9,zv,_⟩:=hS.get;have J:Inv X G σ H1 { s1 with heap:=h',toks:=tk }:=I1.kept keep;have J2:Inv X ((s1.heap.objs.size,o)::G) σ H1 { s1 with heap:=h',toks:=tk }:=J.Ha λz hz=>by
  rcases cj.mp hz with rfl|hz
  .exact⟨qk,I1.Ad.fresh (cg _),ou I1.lt,I1.apt (cg _),λv hv=>by rw[show o.data=_ from zv]at hv;cases hv⟩
  .exact J.pin z (fc _ hz)
 refine jd (Cg J2 qv q6 q3 ?_ Yy q7);refine jo (Bf (hb q2 _ _ σ H1 (λvs H2=>∃U v,vs=[v]/\Le Z H1 U H2/\j9 nm X.K U H2 M'/\Rep X.K U H2 y v) J2 ⟨Z,ρ,M1,[y],M',S1,R.mono Vv,by simp[e2,Res.bind],λU H2 vs le S2 r=>?_⟩) λus s3 z_=>?_) q8 z0
 .obtain⟨v,ev,rv⟩:=Ca r rfl
  exact⟨U,v,ev,le,S2,rv⟩
 obtain⟨vs,H2,I3,r2,U,v2,zk,zb,S2,ry⟩:=z_;subst zk;obtain⟨u2,rfl,z1⟩:=Qv r2;have hp:=(I3.pin (s1.heap.objs.size,o) (fc _ dh)).1;have I4:Inv X G σ H2 s3:=I3.Ha λz hz=>I3.pin z (fc _ (bx _ hz))
 refine aru hr I3 ry z1 g2 (by lia) λh2 q4 n2 Px q5 Yy=>?_
 have Mf:Q6.za X.w h2 s1.heap.objs.size (λk=>k∈ns) n1:=hS.moved λo' Tf=>by rw[show o'=o from ie (Tf.symm.trans qk)];exact Px _ _ hp
 have ne:s3.heap.objs.size≠s1.heap.objs.size:=ou (aq hp);refine a5l (s:={ s3 with heap:=h2,toks:=q4 }) Mf q5 (by lia) ne λh4 n4 z2 z4 z3=>?_
 show wpAny _ _ (spliced []) _ _ _;refine uv ?_;obtain⟨o9,_,_,_,g9,_⟩:=q5.get;exact amj (s1:=s3) (h':=h4) (tk:=q4) hr I4 S2 z4 (yh (aq g9)) (λb o e=>z2 b o (Px b o e)) z3 λzz H' w le=>qq zz H' w ((Vv.trans zb).trans le)
section
variable{prog:Program}{w:World}{A:Around}{E:Y3}{s:Shared}{it d:Addr}{i ep:Nat}{o:Obj}{es:Array DictEntry}{Q:Option Value->Shared->Prop}
def arw{Q:Y3}(Z:s.heap.get? d=some o)(L:o.ExactDict)(G:o.data=.dict es ep)(U:(d==sysModules)=false)
 (h:Q (.ref s.heap.objs.size) { s with heap:=s.heap.push { cls:=.type "dict_keyiterator",data:=.fields #[.ref d,.int 0 0,.int es.size 0,.int ep 0] } }):wpAny (model prog w) A (pyIter (.ref d)) Q E s:=by
 have T:s.TypeIs (.ref d) "dict":= ⟨o,Z,L.1⟩;refine wpAny_pyIter_slot T PySem.F.slot_dict_iter (gh PySem.F.slot_dict_iter T PySem.F.entry_dict_iter ?_ (PySem.F.args_dict_iter_1 _));unfold Builtin.«dict.__iter__» Builtin.Dict.dictSlotNone;refine aa (aa (wpAny_notOrdered_dict T ?_));refine aj (?_:wpAny _ _ (Builtin.Dict.showsAll d>>=_) _ _ s);unfold Builtin.Dict.showsAll;rw[U];refine aa (aj (aa (j6 Z G (aa (wpAny_dictEpoch Z G ?_)))));exact aa (lz (aj ⟨_,rfl,"dict_keyiterator",_,⟨_,bu _ rfl,rfl⟩,yj.lookup,h⟩))
def afk(qq:s.heap.IsKeyIter it d i es.size ep)(ho:s.heap.get? d=some o)(hd:o.data=.dict es ep)
 (h1:∀G:i<es.size,∀Z,Z.IsKeyIter it d (i+1) es.size ep->Heap.SameBut it s.heap Z->Q (some es[i].key) { s with heap:=Z })
 (hh:A.handled=none) (h2:es.size<=i->∀Z,Heap.ExtBut it s.heap Z->Q none { s with heap:=Z }):wpAny (model prog w) A (pyNext (.ref it)) Q E s:=by
 have T:=qq.typeIs;obtain⟨oi,hi,hc,U⟩:=id qq;unfold pyNext;refine aa (vo (ji (name:=Str.ofString "__next__") T yj (gh yj T PySem.F.entry_dict_keyiterator_next ?_ (PySem.F.args_dict_keyiterator_next_1 _))));refine aa (aj (aa (aa (aa (yd T (aj (aa (wpAny_fieldsOf hi U ?_))))))));rw[show Builtin.Dict_items.ownsTuple "dict_keyiterator"= false by decide];show wpAny _ _ (if(Value.ref d==Value.none)=true then _ else _) _ _ s;rw[bc (show ¬((Value.ref d==Value.none)=true)from ig)];refine aa (aj (aa (j6 ho hd ?_)));rw[bc (by simp)];refine aa (aj (aa (wpAny_dictEpoch ho hd ?_)));rw[bc (by simp)];refine aj ?_;rcases uq i es.size with G|G
 .have L:(s.heap.update it (Obj.mapFields (·.setIfInBounds 1 (rawInt ((i:Int)+1))))).IsKeyIter it d (i+1) es.size ep:=
   ⟨_,jz _ hi (Obj.isFreed_of_fields (Obj.data_mapFields U _)),(Obj.cls_mapFields ..).trans hc,by rw[Obj.data_mapFields U];simp[rawInt]⟩
  simp only[show ¬((i:Int)<0)by lia,gm,u9,Array.getElem?_eq_getElem G];refine aa (aa (yd T (aj (aa (wpAny_isOneOf_keyiter T ?_)))));refine(?_:wpAny _ _ (setField (.ref it) 1 (rawInt ((i:Int)+1))>>=_) _ _ s);refine aa (wpAny_setField hi U (by simp) (aa (fu (aa (wpAny_isOneOf_keyiter (s:={ s with heap:=_ }) L.typeIs ?_)))));exact aj (aj ⟨_,rfl,aj (h1 G _ L (gr ..))⟩)
 .simp only[show ¬((i:Int)<0)by lia,gm,u9,Array.getElem?_eq_none G]
  refine aa (aa (yd T (aj ?_)));refine(?_:wpAny _ _ (setField (.ref it) 0 .none>>=_) _ _ s);refine aa (wpAny_setField hi U (by simp) ?_);refine Q6.aa0 (show A.in1.handled=none from hh) λZ x k z_=>?_
  obtain⟨o,e1,e2⟩:=z_;exact aa (iu (T :="StopIteration") (b:=true) ⟨o,e1,e2⟩ isSubtype_stop (aj (h2 G _ λb o n z=>k b o ((gr ..).extBut b o n z))))
theorem amk{I:Addr}(hh:A.handled=none)(hd:o.data=.dict es ep)(Q3:d≠I):Walks prog w A I [I,d] [I] es.size (λi v=>∃e,es[i]?=some e/\v=e.key) (λi h=>h.IsKeyIter I d i es.size ep/\h.get? d=some o)where
 sub:=λb G=>by simp at G;simp[G]
 frame:=λ_ _ _ Z hk=>⟨Z.1.at λo e=>hk _ (by simp) o e,hk d (by simp) o Z.2⟩
 item:=λi U Q E hi Z hQ=>afk Z.1 Z.2 hd (λL h' qq sb=>hQ _ h' U.toks ⟨_,Array.getElem?_eq_getElem L,rfl⟩ ⟨qq,(sb.2 d Q3).trans Z.2⟩ λb o G e=>(sb.2 b (λz=>G (by simp[z]))).trans e) hh λz=>absurd hi (by lia)
 done:=λU Q E Z hQ=>afk Z.1 Z.2 hd (λL=>absurd L (by lia)) hh λ_ h' eb=>hQ h' U.toks λb o G e=>eb b o (λz=>G (by simp[z])) e
 self:=λ_ _ _ _ Z h=>wpAny_pyIter_keyiter Z.1 h
theorem afl(G:o.ExactDict)(U:o.data=.dict es ep)(L:(d==sysModules)=false):PySem.W.KdlSrc prog w "dict" d d es.size (λi v=>∃e,es[i]?=some e/\v=e.key) (λh=>h.get? d=some o)where
 type:=λ_ h=>⟨o,h,G.1⟩
 there:=λ_ h=>⟨aq h,aq h⟩
 keep:=λ_ _ h hk=>hk d (.inl rfl) o h
 notList:=by decide
 notTuple:=by decide
 hint:=λ_ _ _ _ h Z=>PySem.W.kdl_hint_dict ⟨o,h,G.1⟩ Z
 iter:=λA s hh h=>⟨_,_,(λ_ _ Z=>arw h G U L Z),amk hh U (dq (aq h)),⟨_,bu _ rfl,rfl,rfl⟩,ao _ h⟩
end
theorem ajw{K:Fg}{U:Io}{H:Hp}:∀{G:List Dv}{Z:List V},G.length=Z.length->(∀(i:Nat) d v,G[i]?=some d->Z[i]?=some v->Rep K U H d v)->nq K U H G Z
 |[],[],_,_=>.nil|d::G,v::Z,hl,h=>.cons (h 0 d v rfl rfl) (ajw (by simpa using hl) λi d v a b=>h (i+1) d v a b)
theorem ajx:∀{Z:List V}{G:Zl},Z.length=G.length->(∀(i:Nat) v u,Z[i]?=some v->G[i]?=some u->RelV v u)->Vals Z G
 |[],[],_,_=>.nil|v::Z,u::G,hl,h=>.cons (h 0 v u rfl rfl) (ajx (by simpa using hl) λi d v a b=>h (i+1) d v a b)
section
variable{prog:Program}{w:World}{A:Around}{E:Y3}{s:Shared}{T:String}{r d:Addr}{n:Nat}{P:Nat->Value->Prop}{OK:Heap->Prop}
def afm{R:List Value->Shared->Prop}(K:PySem.W.KdlSrc prog w T r d n P OK)(hh:A.handled=none)(Ad:OK s.heap)(hn:n<=sizeLine)
 (h:∀(G:Heap)(U:Nat)(acc:Q1),(∀b o,s.heap.get? b=some o->G.get? b=some o)->s.heap.objs.size<G.objs.size->ItemsOf P acc n->R acc.toList { s with heap:=G,toks:=U }):wpAny (model prog w) A (collect (.ref r)) R E s:=by
 have lt:=K.there _ Ad;have hS:(s.heap.push { cls:=.type "list",data:=.seq ([]:Zl).toArray }).get? s.heap.objs.size=some { cls:=.type "list",data:=.seq #[] }:=bu _ rfl;have key:=PySem.W.kdl_extend (A:=A) (s:={ s with heap:=s.heap.push { cls:=.type "list",data:=.seq ([]:Zl).toArray } })
  (R:=λ(q:Result) (s':Shared)=>∃(G:Heap)(U:Nat)(Z:Q1)(c':Nat),q=.ok (.ret (.ref s.heap.objs.size))/\s'={ s with heap:=G,toks:=U }/\(∀b o,s.heap.get? b=some o->G.get? b=some o)/\G.get? s.heap.objs.size=some { cls:=.type "list",dict:=none,data:=.seq Z c',slots:=#[] }/\ItemsOf P Z n)
  K hh (K.keep _ _ Ad λb _ o e=>ao _ e) s.heap.objs.size (ou lt.1) (ou lt.2) (.ref s.heap.objs.size) 0 hS
  (λG U Z c' hk L ha=>⟨G,U,Z,c',rfl,rfl,λb o e=>hk b o (dq (aq e)) (ao _ e),L,ha⟩) hn
 unfold collect;refine aa (wpAny_runValue (jy PyProof.Rows.entry_proto_collect' ?_));rw[jm PySem.F.plain_proto_collect _];show wpAny _ A.in1 (newList []>>=λl=>again (.builtin "list.__iadd__" ⟨[l,.ref r],[]⟩)) _ _ s;refine aa (lz (aj ⟨vm uw _,jy PyProof.Rows.entry_list_iadd' ?_⟩));rw[jm uw _];show wpAny _ A.in1 (Builtin.List.listExtendWith (.ref s.heap.objs.size) (.ref r) (.ref s.heap.objs.size)) _ _ _;refine iz key (λf s' x=>?_) λe s' x=>by obtain⟨_,_,_,_,z,_⟩:=x;cases z
 cases f with
 |done f =>
  obtain⟨G,U,Z,c',e,rfl,hk,L,ha⟩:=x;cases e;exact aa (wpAny_load L (aj (h G U Z hk (aq L) ha)))
 |again qk =>
  refine⟨x.1,ue x.2 λq qq y=>?_⟩;obtain⟨G,U,Z,c',rfl,rfl,hk,L,ha⟩:=y;exact aa (wpAny_load L (aj (h G U Z hk (aq L) ha)))
end
theorem afn{f:Nat->V}{g:Nat->Value}:∀l:List Nat,(∀i∈l,RelV (f i) (g i))->Vals (l.map f) (l.map g)
 |[],_=>.nil|i::l,h=>.cons (h i dh) (afn l λj Z=>h j (bx _ Z))
theorem afo{K:Fg}{Z:Io}{H:Hp}{f:Nat->Dv}{g:Nat->V}:∀l:List Nat,(∀i∈l,Rep K Z H (f i) (g i))->nq K Z H (l.map f) (l.map g)
 |[],_=>.nil|i::l,h=>.cons (h i dh) (afo l λj G=>h j (bx _ G))
def ajy(h:MW.onN o M f=.ok d M'):∃n Z,o=.ref n/\M[n]?=some (.dN Z)/\f Z=.ok d M':=by
 cases o with
 |ref n =>
  simp only[MW.onN]at h;cases e:M[n]? with
  |none=>rw[e]at h;cases h
  |some o=>cases o with
   |dN G=>rw[e]at h;exact⟨n,G,rfl,e,h⟩|_=>rw[e]at h;cases h
 |_=>cases h
def ajz{α:Type}[Inhabited α]{At:Heap->Value->α->Prop}{lt:α->α->Bool}{κ:PyProof.Rows.SortKind}{Z:Zl}{G:List α}{f:α->Dv}{h':Heap}{tk:Nat}(K:So.Kd X.prog X.w X.A.in1.in1 lt At κ Z G)(I:Inv X pins σ H s)(S:j9 nm X.K ι H M)
 (kp:∀b o,s.heap.get? b=some o->h'.get? b=some o) (qq:s.heap.objs.size<=h'.objs.size) (qk:So.Ht At h' Z G) (nd:G.Nodup) (q0:Z.length<64)
 (q2:∀i,i<G.length->∃b:Addr,Z.getD i Value.none=.ref b/\Rep X.K ι H (f (So.key G i)) (.ref b))
 (q:∀U H' v,Le ι H U H'->j9 nm X.K U H' M->Rep X.K U H' (.vl ((MW.O6 lt G).map f)) v->Q v H') :
 wpAny (model X.prog X.w) X.A.in1 (call (.builtin "list.sort") [.ref h'.objs.size]) (λ_ s'=>EP X pins σ Q (.ref h'.objs.size) s') E { s with heap:=h'.push { cls:=.type "list",data:=.seq Z.toArray },toks:=tk }:=by
 have qv:(h'.push { cls:=.type "list",data:=.seq Z.toArray }).get? h'.objs.size=some { cls:=.type "list",data:=.seq Z.toArray }:=bu _ rfl;have Px:∀b o,h'.get? b=some o->(h'.push { cls:=.type "list",data:=.seq Z.toArray }).get? b=some o:=λb o e=>ao _ e
 refine gh PyProof.Rows.slot_list_sort ⟨_,qv,rfl⟩ PyProof.Rows.entry_list_sort (So.alk (n:=0) qv K (qk.keep K λa o _ e=>Px a o e) nd q0 λq3 c pp q4 hD rs=>⟨_,rfl,?_⟩) (PyProof.Rows.args_list_sort _);have G5:∀i∈pp.toList,i<G.length:=λi L=>by have:=rs.1.mem_iff.mp L;exact iw.mp this
 have q1:=I.Ad.fresh qq;have ex:∃g:Nat->V,∀i,i<G.length->RelV (g i) (Z.getD i Value.none)/\Rep X.K ι H (f (So.key G i)) (g i):=
  ⟨λi=>match Z.getD i Value.none with|.ref b=>.ref b|_=>.non,λi L=>by
   obtain⟨b,e1,e2⟩:=q2 i L;simp only[e1];exact⟨rfl,e2⟩⟩
 obtain⟨g,hg⟩:=ex;have rl:nq X.K ι H ((MW.O6 lt G).map f) (pp.toList.map g):=by rw[<-So.apm K.tot rs,n8];exact afo _ λi L=>(hg i (G5 i L)).2
 obtain⟨S2,zb,r2⟩:=Qs S q1 rl;refine⟨.ref h'.objs.size,_,I.laid (t':=tk) (λb o e=>q4 b o (dq (aq (kp b o e))) (Px b o (kp b o e))) qq (show zj X.prog X.w _ q3 _ (.lst (pp.toList.map g))from⟨?_,_,c,afn _ λi L=>(hg i (G5 i L)).1,hD⟩),rfl,q _ _ _ zb S2 r2⟩;have:=qk.1;rw[dg,jr,rs.1.size,jw];lia
def aj0{X:Cx}{xs:List (List (List Int)×Addr)}(I:Inv X pins σ H s)(h3:∀x∈xs,Rep X.K ι H (MW.tN x.1) (.ref x.2)){Z:Array DictEntry}(U:Z.toList=xs.map (λx=>(⟨So.hN x.1,.ref x.2,.bool true⟩:DictEntry))){acc:Q1}(G:ItemsOf (λi v=>∃e,Z[i]?=some e/\v=e.key) acc Z.size) :
 acc.toList.length=xs.length/\∀(i:Nat)(u:Value),acc.toList[i]?=some u->∃x,xs[i]?=some x/\u=.ref x.2/\x∈xs:=by
 have hz:Z.size=xs.length:=by rw[<-jr,U,dg]
 refine⟨by rw[jr,G.1,hz],λi u hu=>?_⟩;obtain⟨e0,L,q2⟩:=G.2 i u (by rw[<-ir];exact hu);rw[<-ir,U,dm]at L;obtain⟨x,hx,rfl⟩:=cz.mp L;exact⟨x,hx,q2,az hx⟩
def axq(hr:zp 8 X.A)(hc:X.calm=true):By X (.builtin "sorted") (rB nm X.K .Wj):=λq0 s σ H vs us Q I O2 hh=>by
 obtain⟨ι,M,ds,d,M',S,r,e,q⟩:=hh;obtain⟨x,rfl,e1⟩:=Ky e;obtain⟨n,ks,rfl,hn,e2⟩:=ajy e1;obtain⟨⟨hl,Q3,nd⟩,e3⟩:=Qu e2;cases e3;obtain⟨v,rfl,h⟩:=Ca r rfl;cases h with
 |@ref _ p hp =>
  obtain⟨Z,h1,rfl,h3⟩:=S.obj n _ p hn hp;obtain⟨⟨qv,z,o,es,ep,g1,g2,g3,g4,g5⟩,_⟩:=(show zj X.prog X.w H s.heap p (.ext (DN p Z))from I.Ad p _ h1);obtain⟨u,rfl,rx⟩:=vals1 O2;cases rx;have hz:es.size=Z.length:=by rw[<-jr,g4,dg]
  have hl:Z.length<64:=by simpa using hl
  refine vh PyProof.Rows.kind_sorted PyProof.Rows.plain_sorted PyProof.Rows.entry_sorted (PyProof.Rows.args_sorted1 _) ?_;unfold Builtin.«sorted»;refine aa (m:=checkCount "sorted" 1 1 _) (aj ?_);refine aa (afm (A:=X.A.in1) (afl g2 g3 qv) (show X.A.in1.handled=none from I.ok.hd hc) g1 (by rw[hz];exact z) λh' tk acc kp qq Dc=>?_);obtain⟨al,U⟩:=aj0 I h3 g4 Dc;have hu:X.A.in1.in1.units<cLine:=Ai (aac hr.in1.in1)
  have kk:∀i,i<Z.length->So.key (Z.map (·.1)) i=(Z[i]!).1:=λi G=>by simp[So.key,G]
  have qk:So.Ht (So.AtN X.prog X.w) h' acc.toList (Z.map (·.1)):=⟨by rw[al,dg],λi u pr hu L=>by
   obtain⟨x,hx,rfl,mx⟩:=U i u hu;rw[dm,hx]at L;cases L;exact(So.a9j (vs:=[]) (ps:=[]) ‹_›).keep (λb o _ e=>kp b o e) ⟨x.2,rfl,ajm I (h3 x mx),λz=>Q3 (bf.mpr ⟨x,mx,z⟩)⟩⟩
  refine aa (wpAny_newList ?_ (by rw[al];exact z));refine aa (fu (iz (ajz (s:=s) (h':=h') (f:=MW.tN) (tk:=tk) (So.a9j hu) I S kp (yh qq) qk nd (by rw[al];exact hl) (λi G=>?_) q) (λ_ s' hq=>?_) λ_ _ e=>e))
  .have G:i<Z.length:=by simpa using G
   have Q7:i<acc.toList.length:=by rw[al];exact G
   obtain⟨x,hx,e1,mx⟩:=U i _ (dz Q7);have ek:So.key (Z.map (·.1)) i=x.1:=by have:=So.Ks (ps:=Z.map (·.1)) (i:=i) (by simpa using G);rw[dm,hx]at this;exact(ie this).symm
   exact⟨x.2,by rw[gw,dz Q7,e1];rfl,by rw[ek];exact h3 x mx⟩
  .exact aj ⟨_,rfl,hq⟩
def axr(hc:X.calm=true):By X (.type "list") (rB nm X.K .Wk):=λqv s σ H vs us Q I O2 hh=>by
 obtain⟨ι,M,ds,d,M',S,r,e,q⟩:=hh;obtain⟨x,rfl,e1⟩:=Ky e;obtain⟨n,ks,rfl,hn,e2⟩:=ajy e1;cases e2;obtain⟨v,rfl,h⟩:=Ca r rfl;cases h with
 |@ref _ p hp =>
  obtain⟨Z,h1,rfl,h3⟩:=S.obj n _ p hn hp;obtain⟨⟨L,z,o,es,ep,g1,g2,g3,g4,g5⟩,_⟩:=(show zj X.prog X.w H s.heap p (.ext (DN p Z))from I.Ad p _ h1);obtain⟨u,rfl,rx⟩:=vals1 O2;cases rx;have hz:es.size=Z.length:=by rw[<-jr,g4,dg]
  refine PySem.W.kdl_call (afl g2 g3 L) (I.ok.hd hc) g1 (by rw[hz];exact z) λh' tk acc c' kp hD Dc=>?_
  obtain⟨al,qq⟩:=aj0 I h3 g4 Dc;have vl:Vals (Z.map λx=>V.ref x.2) acc.toList:=ajx (by rw[dg,al]) λi k u G hu=>by obtain⟨x,U,rfl,_⟩:=qq i u hu;rw[dm,U]at G;cases G;rfl
  have rl:nq X.K ι H ((Z.map (·.1)).map MW.tN) (Z.map λx=>V.ref x.2):=ajw (by simp) λi d k hd G=>by rw[n8,dm]at hd;obtain⟨x,U,rfl⟩:=cz.mp hd;rw[dm,U]at G;cases G;exact h3 x (az U)
  have qk:=I.Ad.fresh (cg s.heap.objs.size);obtain⟨S2,zb,r2⟩:=Qs S qk rl;exact⟨.ref s.heap.objs.size,_,I.laid (t':=tk) kp (cg _) (show zj X.prog X.w _ h' _ (.lst _)from⟨by rw[dg];exact z,acc.toList,c',vl,by simpa using hD⟩),rfl,q _ _ _ zb S2 r2⟩
def axs(hr:zp 8 X.A):By X (.builtin "sorted") (rB nm X.K .Uv):=λq0 s σ H vs us Q I O2 hh=>by
 obtain⟨ι,M,ds,d,M',S,r,e,q⟩:=hh;obtain⟨x,rfl,e1⟩:=Ky e;obtain⟨e2,rfl⟩:=xj e1;obtain⟨ks,e3,e4⟩:=dw.mp e2;obtain⟨xs,e5,e6⟩:=dw.mp e3
 by_cases hc:ks.length<64/\[]∈ks/\ks.Nodup
 .rw[bz hc]at e4
  cases e4;obtain⟨hl,hm,nd⟩:=hc;obtain⟨v,rfl,rv⟩:=Ca r rfl;obtain⟨u,rfl,ru⟩:=Qv O2;obtain⟨p,ws,rfl,hp,rl⟩:=qm S rv e5;cases ru;obtain⟨Z,U,pl,_⟩:=I.list (Ie.of hp);rw[ab6 e6]at rl;have L:Z.length=ks.length:=by rw[<-U.length,<-rl.length,dg]
  have G:∀(i:Nat)(u:Value)(k:U1),Z[i]?=some u->ks[i]?=some k->∃b:Addr,u=.ref b/\Rep X.K ι H (MW.tI k) (.ref b):=λi u k hu hk=>by
   obtain⟨v,h1,h2⟩:=rl.get (i:=i) (d:=MW.tI k) (by rw[dm,hk];rfl);obtain⟨u',h3,h4⟩:=U.get h1;rw[hu]at h3;cases h3;obtain⟨b,rfl⟩:∃b,v=.ref b:=by cases h2 with|tup _ _=>exact⟨_,rfl⟩
   cases h4;exact⟨b,rfl,h2⟩
  have hu:X.A.in1.in1.units<cLine:=Ai (aac hr.in1.in1)
  refine vh PyProof.Rows.kind_sorted PyProof.Rows.plain_sorted PyProof.Rows.entry_sorted (PyProof.Rows.args_sorted1 _) ?_;unfold Builtin.«sorted»;refine aa (m:=checkCount "sorted" 1 1 _) (aj ?_);have z:Z.length<=sizeLine:=by rw[L,jw];lia
  refine aa (PyProof.Rows.collect_list pl.isList ?_ (by simpa using z));have qv:((s.heap.push (PyProof.Rows.seqObj "list" #[] 0)).update s.heap.objs.size (Obj.mapSeq (·++Z.toArray))).objs.size=s.heap.objs.size+1:=by rw[Heap.size_update,PyProof.Rows.size_push']
  have kp:∀b o,s.heap.get? b=some o->((s.heap.push (PyProof.Rows.seqObj "list" #[] 0)).update s.heap.objs.size (Obj.mapSeq (·++Z.toArray))).get? b=some o:=λb o q=>by
   have G5:b<s.heap.objs.size:=aq q
   rw[Heap.get?_update_ne _ _ _ _ (dq G5),Heap.get?_push_ne _ _ _ (dq G5)];exact q
  refine aa (wpAny_newList ?_ (by simpa using z));have qq:So.Ht (So.AtT X.prog X.w) ((s.heap.push (PyProof.Rows.seqObj "list" #[] 0)).update s.heap.objs.size (Obj.mapSeq (·++Z.toArray))) Z ks:=⟨L,λi u k qk hk=>by
   obtain⟨b,rfl,rb⟩:=G i u k qk hk;exact(So.a9i (vs:=[]) hu hm).keep (λb o _ e=>kp b o e) ⟨b,rfl,az4 I rb⟩⟩
  refine aa (fu (iz (ajz (s:=s) (h':=(s.heap.push (PyProof.Rows.seqObj "list" #[] 0)).update s.heap.objs.size (Obj.mapSeq (·++Z.toArray))) (f:=MW.tI) (tk:=s.toks) (So.a9i hu hm) I S kp (by rw[qv];exact ur _) qq nd (by rw[L];exact hl) (λi hi=>?_) q) (λ_ s' hq=>?_) λ_ _ e=>e))
  .have Q7:i<Z.length:=by rw[L];exact hi
   obtain⟨b,e1,rb⟩:=G i _ _ (dz Q7) (So.Ks hi);exact⟨b,by rw[gw,dz Q7,e1];rfl,rb⟩
  .exact aj ⟨_,rfl,hq⟩
 .rw[bc hc]at e4;cases e4
def axt:By X (.builtin "sorted") (rB nm X.K .sortI):=λG s σ H vs us Q I O2 hh=>by
 obtain⟨ι,M,ds,d,M',S,r,e,q⟩:=hh;obtain⟨x,rfl,e1⟩:=Ky e;obtain⟨e2,rfl⟩:=xj e1;obtain⟨is,e3,L⟩:=dw.mp e2;obtain⟨xs,e5,e6⟩:=dw.mp e3
 by_cases Z:is.length<31/\is.Nodup
 .rw[bz Z]at L
  cases L;obtain⟨v,rfl,rv⟩:=Ca r rfl;obtain⟨u,rfl,ru⟩:=Qv O2;obtain⟨p,ws,rfl,hp,rl⟩:=qm S rv e5;cases ru;obtain⟨xq,qv,pl,_⟩:=I.list (Ie.of hp);have hI:=X4 rl qv e6;have U:xq.length=is.length:=hI.length;refine PyProof.Rows.sorted_ints pl.isList hI (by rw[U];exact Nat.lt_trans Z.1 (by decide)) λout qq a1 a2 a3=>?_
  obtain rfl:qq=MW.sortI is:=MW.aii a3 (MW.V0 _) (a2.nodup_iff.mpr Z.2) ((MW.Cm _).nodup_iff.mpr Z.2) λk=>by rw[a2.mem_iff,(MW.Cm _).mem_iff]
  obtain⟨c,g⟩:=PyProof.Rows.sortedAll_at s.heap xq out;have hf:H (s.heap.objs.size+1)=none:=I.Ad.fresh x_;have qk:((MW.sortI is).map V.int).length<=sizeLine:=by rw[dg,(MW.Cm _).length_eq,jw];exact e_ (Nat.lt_trans Z.1 (by decide))
  have I3:Inv X G σ (upd H (s.heap.objs.size+1) (.lst ((MW.sortI is).map V.int))) { s with heap:=PyProof.Rows.sortedAll s.heap xq out,toks:=s.toks }:=
   I.laid (a:=s.heap.objs.size+1) (t':=s.toks) (λb o e=>PyProof.Rows.sortedAll_old e) x_ (show zj X.prog X.w _ _ _ (.lst _)from⟨qk,out.toList,c,X5 a1,by simpa using g⟩)
  obtain⟨S2,zb,r2⟩:=Qs (X:=X) S hf (Ug _);exact⟨.ref (s.heap.objs.size+1),_,I3,rfl,q _ _ _ zb S2 r2⟩
 .rw[bc Z]at L;cases L
def axu(e:MW.qy .len ds M=.ok d M'):∃x,ds=[x]/\M'=M/\((∃n U,x=.ref n/\M[n]?=some (.dN U)/\d=.int U.length)\/(∃G,x=.fz G/\d=.int G.length)\/∃G,MW.Bk M x=some G/\d=.int G.length):=by
 obtain⟨x,rfl,Z⟩:=Ky e;refine⟨x,rfl,?_⟩;cases x with
 |ref n =>
  simp only[MW.Ml]at Z;cases hn:M[n]? with
  |none=>rw[hn]at Z;cases Z
  |some L =>
   rw[hn]at Z;cases L with
   |lst l=>cases Z;exact⟨rfl,.inr (.inr ⟨l,by simp[MW.Bk,MW.gn,hn],rfl⟩)⟩|dN U=>cases Z;exact⟨rfl,.inl ⟨n,U,rfl,hn,rfl⟩⟩|_=>cases Z
 |fz l=>cases Z;exact⟨rfl,.inr (.inl ⟨l,rfl,rfl⟩)⟩|tup l=>cases Z;exact⟨rfl,.inr (.inr ⟨l,rfl,rfl⟩)⟩|vl l=>cases Z;exact⟨rfl,.inr (.inr ⟨l,rfl,rfl⟩)⟩|_=>cases Z
def amm{prog:Program}{w:World}{o:Obj}{Z:Array DictEntry}(U:(d==sysModules)=false)(G:o.data=.dict Z L) :
 MeetsIn prog w (Builtin.«dict.__len__» ⟨[.ref d],[]⟩) (λ_ R s=>s.heap.get? d=some o/\R (.ok (.ret (.int Z.size s.toks))) { s with toks:=s.toks+1 }):=
 .of_wp λA R s ⟨ho,h⟩=>by show wpAny _ _ (dictSize d>>=_) _ _ s;unfold dictSize;refine aa (aa (j6 ho G (aj ?_)));show wpAny _ _ (Builtin.Dict.pendingCount d>>=_) _ _ s;refine aa (wpAny_pendingCount_other U ?_);refine wpAny_ret_mkInt ?_;rw[Nat.add_zero];exact h
def a5m{o:Obj}{Z:Array DictEntry}{Q:Y3}(U:(d==sysModules)=false)(G:s.heap.get? d=some o)(hx:o.ExactDict)(hd:o.data=.dict Z ep)(L:(Z.size:Int)<2^63)
 (h:Q (.int Z.size (s.toks+1)) { s with toks:=s.toks+1+1 }):wpAny (model prog w) A (call (.builtin "len") [.ref d]) Q E s:=by
 have T:s.TypeIs (.ref d) "dict":= ⟨o,G,hx.1⟩;refine vh kind_len plain_len entry_len (args_len1 _) ?_;unfold Builtin.«len»;refine aa (m:=oneArg "len" _) (aj ?_);refine aa (m:=callSpecial? (.ref d) (Str.ofString "__len__")) (ji (name:=Str.ofString "__len__") T PySem.F.slot_dict_len
  (call_meetsIn PySem.F.slot_dict_len T PySem.F.entry_dict_len (PySem.F.args_dict_len_1 _) (amm U hd) ⟨G,?_⟩))
 show wpAny _ _ _ _ _ { s with toks:=s.toks+1 };refine aa (fu (aj ?_));refine aa (wpAny_letGo ?_);show wpAny _ _ (if((Z.size:Nat):Int)<0 then _ else _) _ _ _;rw[bc (by lia)];show wpAny _ _ (if((Z.size:Nat):Int) >= 2^63 then _ else _) _ _ _;rw[bc (by lia)];exact aa (wpAny_mkInt (aj ⟨_,rfl,h⟩))
def bcf:By X (.builtin "len") (rB nm X.K .len):=λZ s σ H vs us Q I U hh=>by
 obtain⟨ι,M,ds,d,M',S,r,e,q⟩:=hh;obtain⟨x,rfl,rfl,⟨n,ks,rfl,hn,rfl⟩|⟨G,rfl,rfl⟩|⟨G,e3,rfl⟩⟩:=axu e
 .obtain⟨v,rfl,h⟩:=Ca r rfl
  cases h with
  |@ref _ p L =>
   obtain⟨G,h1,rfl,h3⟩:=S.obj n _ p hn L;obtain⟨⟨qq,z,o,es,ep,g1,g2,g3,g4,g5⟩,_⟩:=(show zj X.prog X.w H s.heap p (.ext (DN p G))from I.Ad p _ h1);obtain⟨u,rfl,rx⟩:=vals1 U;cases rx;have hz:es.size=G.length:=by rw[<-jr,g4,dg]
   refine a5m qq g1 g2 g3 (by rw[hz];rw[jw]at z;lia) ⟨.int es.size,H,I.tok _,⟨_,rfl⟩,?_⟩;rw[hz];have:=q ι H (.int G.length) (Le.refl _ _) S (by rw[dg];exact .int _);exact this
 .obtain⟨v,rfl,h⟩:=Ca r rfl
  cases h with
  |fz e1 r1=>exact Sq Z s σ H _ us Q I U ⟨_,_,rfl,.inl e1.sq,by rw[<-r1.length];exact q ι H _ (Le.refl _ _) S (.int _)⟩
 .obtain⟨v,rfl,h⟩:=Ca r rfl
  obtain⟨p,qk,rfl,L,ru⟩:=Oz S h e3;exact Sq Z s σ H _ us Q I U ⟨p,qk,rfl,L.imp Ie.of Lq.of,by rw[<-ru.length];exact q ι H _ (Le.refl _ _) S (.int _)⟩
def axv{X:Cx}(I0:Inv X pins qk H0 s0)(I:Inv X ((s0.heap.objs.size,o)::pins) σ H s)(hs:Heap.SameBut s0.heap.objs.size s.heap h')(new:zj X.prog X.w (upd H s0.heap.objs.size u) h' s0.heap.objs.size u):Inv X pins σ (upd H s0.heap.objs.size u) { s with heap:=h',toks:=t' }:=by
 obtain⟨e,hn,nl,nf,nc⟩:=I.pin (s0.heap.objs.size,o) (fc _ dh);have I':Inv X pins σ H s:=I.Ha λz hz=>I.pin z (fc _ (bx _ hz))
 have U:∀b v,H b=some v->b≠s0.heap.objs.size:=λb v q z=>by rw[z,hn]at q;cases q
 refine I'.step (g':=s.gens) (d':=s.drawn) (ch:=[s0.heap.objs.size]) (λb G=>?_) (λb o _ _ Z e _=>(hs.2 b (λz=>Z (by simp[z]))).trans e) (λb o _ _ Z e _=>⟨o.slots,(hs.2 b (λz=>Z (by simp[z]))).trans e⟩) (λb o Z _ n=>by rw[j0 (λz=>Z (by simp[z]))];exact n)
  (λb o Z e=>⟨o,(hs.2 b (λz=>Z (by simp[z]))).trans e⟩) (λb xs q=>by rw[j0 (U b _ q)];exact q) (λb o u q=>by rw[j0 (U b _ q)];exact q) (λb ps q=>⟨#[],by rw[j0 (U b _ q),q];simp⟩) (λm hm=>?_) (λb v q=>?_) I.bare
 .have G:b=s0.heap.objs.size:=by simpa using G
  subst G;refine⟨.inr I0.sz,nl,λx c Z z=>?_,λp hp z=>?_⟩
  .obtain⟨v,oc,L,qq⟩:=I.cell x c Z
   rw[z,e]at L;cases L;exact nc v qq
  .have:=(I0.pin p hp).1
   rw[z]at this;exact absurd (aq this) (qd _)
 .obtain⟨o',es,ep,ho,r⟩:=hm
  exact⟨o',es,ep,(hs.2 _ (kj nl)).trans ho,r⟩
 .by_cases G:b=s0.heap.objs.size
  .subst G;rw[wz]at q;cases q;exact new
  .rw[j0 G]at q
   refine(I.Ad b v q).stay (λc v Z z=>(hs.2 c ?_).trans z) (λc z=>by rw[j0 (U c _ z)];exact z) λc xs z=>by rw[j0 (U c _ z)];exact z
   rcases Z with rfl|z
   .exact G
   .exact U c _ z
def a5n{e:Expr}(hr:zp 8 X.A)(hk:PE X a (tE nm W X.K a')):PE X (.Dict [some a] [.Constant (.bool true) j p2] pos) (tE nm W X.K (.ak3 a')):=by
 intro U s σ H Q I hh;obtain⟨ι,ρ,M,d,M',S,R,e,q⟩:=hh;rw[MW.adh]at e;obtain⟨x,M1,e1,e2⟩:=fj e;cases hk2:MW.toN x with
 |none=>rw[hk2]at e2;cases e2
 |some k =>
  rw[hk2]at e2;cases e2;have hn:=I.Ad.fresh (cg s.heap.objs.size);have D0:(s.heap.push { cls:=.type "dict",data:=.dict #[] }).DictOfH (So.kN X.prog X.w) s.heap.objs.size []:=Heap.DictOfH.new s.heap;have I1:Inv X ((s.heap.objs.size,{ cls:=.type "dict",data:=.dict #[] })::U) σ H { s with heap:=s.heap.push { cls:=.type "dict",data:=.dict #[] },toks:=s.toks }:=by
   have J:=I.kept (h':=s.heap.push { cls:=.type "dict",data:=.dict #[] }) (t':=s.toks) λb o e=>ao _ e
   refine J.Ha λz hz=>?_
   rcases cj.mp hz with rfl|hz
   .exact⟨bu _ rfl,hn,ou I.lt,I.apt (cg _),λv hv=>nomatch hv⟩
   .exact J.pin z (fc _ hz)
  rw[arm_eval_Dict,zip_pairTrees [some a] [.Constant (.bool true) j p2] X.env pos rfl rfl,dictDisplay_pairs _ (by intro z;cases z) (by show 1<17;decide)];refine aa (wpAny_standAt (aa ?_));unfold subDict;refine aa (wpAny_alloc (aa (fu ?_)));rw[bz (by show 1<=15;decide)];refine aa (pairTrees_cons_walk (Bf (hk _ _ σ H (λv G=>∃Z,Le ι H Z G/\j9 nm X.K Z G M1/\Rep X.K Z G x v) I1 ⟨ι,ρ,M,x,M1,S,R,e1,λZ G v le S1 r=>⟨Z,le,S1,r⟩⟩) λu s2 z_=>?_));obtain⟨v,G,I2,r1,Z,Vv,S1,rx⟩:=z_;rw[aq0 hk2]at rx;obtain⟨b,rfl⟩:=aq2 rx;cases r1;refine Bf ((azs (b:=true)) _ s2 σ _ (λv H2=>v=.bl true/\H2=G) I2 ⟨rfl,rfl⟩) λu3 s3 z_=>?_
  obtain⟨v,H2,I3,r3,rfl,rfl⟩:=z_;cases r3;refine pairTrees_nil_walk (fu ?_);rw[List.forIn_cons];obtain⟨eo,L,_⟩:=I3.pin (s.heap.objs.size,_) (fc _ dh);have dd:s3.heap.DictOfH (So.kN X.prog X.w) s.heap.objs.size []:=⟨_,#[],0,eo,⟨rfl,rfl,rfl⟩,rfl,rfl,(λ_ hx=>absurd hx (by simp)),wk⟩;refine aa (aa (?_:wpAny _ _ (dictSet s.heap.objs.size (.ref b) (.bool true)>>=λ_=>pure (ForInStep.yield PUnit.unit)) _ _ s3));refine aa (wpAny_dictSet_heap (knd:=So.kN X.prog X.w) (show X.A.units+1<cLine from aac hr) (ajm I3 rx) dd λh' qq hs=>aj ?_);obtain⟨o,es,ep,k1,k2,k3,k4,_,k5⟩:=qq;have D:DN s.heap.objs.size [(k,b)] h':=⟨by
   have:=I.big;exact vq.mpr (ou this),by rw[jw];simp,o,es,ep,k1,k2,k3,by rw[k4];rfl,by simp⟩
  obtain⟨S2,zb⟩:=S1.new (o:=.dN [k]) (H':=upd H2 s.heap.objs.size (.ext (DN s.heap.objs.size [(k,b)]))) L (λa u e=>by rw[j0 (mj e L)];exact e) λle=>⟨[(k,b)],wz,rfl,λx hx=>by
   have:x=(k,b):=by simpa using hx
   subst this;exact rx.mono le⟩
  exact aj (aj (aj (aj ⟨.ref s.heap.objs.size,_,axv I I3 hs D.ok,rfl,q _ _ _ (Vv.trans zb) S2 (.ref (by show(Z.l++[s.heap.objs.size])[M1.length]?=some _;rw[<-S1.len];simp))⟩)))
end Sm
namespace Ck
open PySem L2 Sm
open MW (Ex Cv OEx Ka Bx m5 Lv Tg Res di MO G9 Cp Op2 Blt Bm Kx Src)
structure Tab where
 fns:List (Option (Str×Nat))
 cls:List (Option (Str×Nat))
 mts:List (Str×Nat)
 Qw:List Str
 axw:List (Str×Int)
noncomputable def Om:List Str:=["len","tuple","list","dict","max","min","isinstance","range","enumerate","set","zip","all","bool","int","sum","sorted"]
structure arx(T:Tab)(nm:Nm)(W:G9)(k:Nat)(P:Program)(w:World)(K:Fg)(mg:Zs)(base:Heap):Prop where
 fn:∀f x n,T.fns[f]?=some (some (x,n))->∃fa fd ps,Ff P w K mg base CX0 k fa fd ps (spF nm W K n f)/\mg x=some (.ref fa)/\PySem.W.keepIn K (.ref fa)=true/\Binds K fd ps []
 cl:∀c x n,T.cls[c]?=some (some (x,n))->∃C fa fd ps cl,Mk K C fa/\Ff P w K mg base CX0 k fa fd ps (spF nm W K (n+1) cl.init)/\mg x=some (.ref C)/\Binds K fd ps []/\W.cls[c]?=some cl/\nm.cls c=some C
 mt:∀m x n,T.mts[m]?=some (x,n)->∃C fa fd ps f,Cls K C/\Meth K C x fa/\Ff P w K mg base CX0 k fa fd ps (spF nm W K (n+1) f)/\Binds K fd ps [] /\
  (∀c' Zc,W.cls[c']?=some Zc->∀g,Zc.meths.lookup m=some g->nm.cls c'=some C/\g=f)/\∀i,nm.fld i≠x
 fl:∀f x,T.Qw[f]?=some x->x=nm.fld f/\∀c C,nm.cls c=some C->Cls K C/\Hu K C x
 cs:∀x i,(x,i)∈T.axw->∃t,mg x=some (.int i t)
 bt:∀x∈Om,mg x=none
structure Ctx where
 N:List Str
 sc:List (Str×NameKind)
 fn:Bool
structure Ed(T:Tab)(nm:Nm)(W:G9)(k:Nat)(c:Ctx)(X:Cx):Prop where
 N:X.N=c.N
 nd:c.N.Nodup
 sc:X.env.scope.names=c.sc
 kd:X.env.scope.kind=.function
 calm:X.calm=true
 room:zp (k+16) X.A
 fnl:c.fn=true->(∀n,X.fn n=true)/\PassesOwn (model X.prog X.w) X.A X.env X.xe
 tab:arx T nm W k X.prog X.w X.K X.mg X.base
def Uh{Z U:String}(K:Fg)(h:(if(Value.type Z==Value.type U)=true then some true else if PySem.W.kitMeta U=true then(fastBuiltinMro Z).map (·.contains (.type U))else none)=some b):PySem.W.kitOne K (.type Z) (.type U)=some b:=h
def afp(Z:PySem.W.kitOne K (.type Ty) (.type "tuple")=some a)(G:PySem.W.kitOne K (.type Ty) (.type "list")=some b):PySem.W.kitAny K (.type Ty) [.type "tuple",.type "list"]=some (a||b):=by cases a<;>cases b<;>simp[PySem.W.kitAny,Z,G]
noncomputable def X6(n:Str):Bool:=!(n==("__debug__": Str))&&(!(n==("__classdict__": Str))&&!(n==("__name__": Str)))
noncomputable def amn(c:Ctx)(n:Str):Bool:=match c.sc.lookup n with|some .local=>true|some .cell=>true|some .free=>true|_=>false
noncomputable def a5o(c:Ctx)(n:Str):Bool:=match c.sc.lookup n with|some .local=>true|some .cell=>c.fn|_=>false
def Q5(c:Ctx)(n:Str):Bool:=X6 n&&(match c.sc.lookup n with|some .globalImplicit=>true|_=>false)
noncomputable def aj2(c:Ctx)(i:Nat)(n:Str):Bool:=match c.N[i]? with|some m=>m==n|none=>false
def Af:List Expr->Bool
 |[]=>true|e::r=>noStar e&&Af r
noncomputable def X7:Expr->Bool
 |.Name ..=>true|.Attribute ..=>true|.Subscript ..=>true|.Call (.Attribute ..) ..=>true|_=>false
def vd(h:X6 n=true):(n==("__debug__": Str))=false/\(n==("__classdict__": Str))=false/\n≠"__name__":= by simp only[X6,au,Bool.not_eq_true']at h;exact⟨h.1,h.2.1,λz=>by have:=h.2.2;rw[z]at this;simp at this⟩
set_option tactic.hygienic true in
def a5p(h:Ed T nm W k c X)(Z:amn c n=true):Vis X.env.scope n:=by unfold Vis;rw[h.sc];unfold amn at Z;split at Z<;>rename_i e<;>first|exact .inl e|exact .inr (.inl e)|exact .inr (.inr e)|cases Z
set_option tactic.hygienic true in
def a5q(h:Ed T nm W k c X)(Z:a5o c n=true):L2.Loc X.env.scope n/\(X.fn n=true\/X.env.scope.names.lookup n=some .local):=by
 unfold L2.Loc;rw[h.sc];unfold a5o at Z;split at Z
 .rename_i e;exact⟨.inl e,.inr e⟩
 .rename_i e;exact⟨.inr e,.inl ((h.fnl Z).1 n)⟩
 .cases Z
set_option tactic.hygienic true in
def Gd(h:Ed T nm W k c X)(Z:Q5 c n=true):Gl X n/\X6 n=true:=by
 unfold Q5 at Z;rw[au]at Z;refine⟨?_,Z.1⟩;have Z:=Z.2;unfold Gl Env.kindOf;rw[h.sc];split at Z
 .rename_i e;exact e
 .cases Z
set_option tactic.hygienic true in
def slot_of(h:Ed T nm W k c X)(Z:aj2 c i n=true):X.N[i]?=some n:=by
 rw[h.N];unfold aj2 at Z;split at Z
 .rename_i m e;rw[e,eq_of_beq Z]
 .cases Z
theorem X8{Z:Env}:∀{G:X0},Af G=true->starEach G Z=G.map λe=>(false,eval e Z)
 |[],_=>rfl
 |e::r,h=>by
  simp only[Af,au]at h;rw[km h.1,X8 h.2];rfl
def wj(h:Af Z=true):(backTo pos (starEach Z env)).any (·.1)=false:=by rw[X8 h];simp[backTo]
def Yb(h:Af Z=true):(backTo pos (starEach Z env)).all (λx=>!x.1)=true:=by rw[X8 h];simp[backTo]
set_option tactic.hygienic true in
def Hb(h:X7 o=true):attributeBase o n env (eval o env)=eval o env:=by
 cases o<;>try first|rfl|(cases h;done)
 rename_i f Y Z p;cases f<;>first|rfl|(cases h)
def aj3(h:X7 o=true)(hs:Af Z=true)(L:Z.length<29)(U:(apos.endLine==pos.line)=true) :
 eval (.Call (.Attribute o m apos) Z [] pos) env=(do
  let G<-eval o env
  standAt apos.atName
  let (f,first) <-holding [G] (getMethod G m (do return (<-importBound o env).getD true))
  callWith pos f first (backTo pos (starEach Z env)) (backToKw pos (keywordEach [] env))):=by
 have hf:methodCallForm (Z.length+0) (backTo pos (starEach Z env)) (backToKw pos (keywordEach [] env))=true:=by unfold methodCallForm;rw[Yb hs];simp[keywordEach,backToKw];exact b_ L (by decide)
 show(do
  let G<-attributeBase o m env (eval o env)
  standAt apos.atName
  methodCall o m apos pos env G (Z.length+0) (backTo pos (starEach Z env)) (backToKw pos (keywordEach [] env)))=_
 rw[Hb h];unfold methodCall;rw[hf];have hq:methodCallPos true o env apos pos=pure pos:=by unfold methodCallPos;rw[U];rfl
 rw[hq];simp only[calleeOf,jg,pure_bind]
noncomputable def Br{Z:Type}(o:Option Z)(f:Z->Bool):Bool:=match o with|some x=>f x|none=>false
def jb(h:Br o f=true):∃x,o=some x/\f x=true:=by
 cases o with
 |none=>cases h|some x=>exact⟨x,rfl,h⟩
noncomputable def J0{α:Type}(l:List α):Option α:=match l with|[x]=>some x|_=>none
def z8(h:J0 l=some x):l=[x]:=by
 cases l with
 |nil=>cases h
 |cons y r=>cases r with
  |nil=>cases h;rfl|cons _ _=>cases h
def Yw{Z:Type}{P:Z->Prop}{o:Option {x//P x}}{q:Z}(h:o.map Subtype.val=some q):P q:=by
 cases o with
 |none=>cases h|some x=>cases h;exact x.2
noncomputable def Lr(a:Expr):Option Str:=Option.map Subtype.val (α:={q:Str//∃p,a=.Name q p}) (match a with|.Name n p=>some ⟨n,p,rfl⟩|_=>none)
noncomputable def axx(a:Expr):Option Const:=Option.map Subtype.val (α:={q:Const//∃k p,a=.Constant q k p}) (match a with|.Constant n k p=>some ⟨n,k,p,rfl⟩|_=>none)
noncomputable def a5r(a:Expr):Option (Expr×Operator×Expr):=Option.map Subtype.val (α:={q:Expr×Operator×Expr//∃p,a=.BinOp q.1 q.2.1 q.2.2 p}) (match a with|.BinOp l o r p=>some ⟨(l,o,r),p,rfl⟩|_=>none)
noncomputable def dUn(a:Expr):Option (UnaryOp×Expr):=Option.map Subtype.val (α:={q:UnaryOp×Expr//∃p,a=.UnaryOp q.1 q.2 p}) (match a with|.UnaryOp o l p=>some ⟨(o,l),p,rfl⟩|_=>none)
noncomputable def axy(a:Expr):Option (Expr×List CmpOp×List Expr):=Option.map Subtype.val (α:={q:Expr×List CmpOp×List Expr//∃p,a=.Compare q.1 q.2.1 q.2.2 p}) (match a with|.Compare l o r p=>some ⟨(l,o,r),p,rfl⟩|_=>none)
noncomputable def a0a(a:Expr):Option (BoolOp×List Expr×Pos):=Option.map Subtype.val (α:={q:BoolOp×List Expr×Pos//a=.BoolOp q.1 q.2.1 q.2.2}) (match a with|.BoolOp o l p=>some ⟨(o,l,p),rfl⟩|_=>none)
noncomputable def a5s(a:Expr):Option (Expr×Expr×Expr):=Option.map Subtype.val (α:={q:Expr×Expr×Expr//∃p,a=.IfExp q.1 q.2.1 q.2.2 p}) (match a with|.IfExp t l r p=>some ⟨(t,l,r),p,rfl⟩|_=>none)
noncomputable def afq(a:Expr):Option (List Expr):=Option.map Subtype.val (α:={q:List Expr//∃k p,a=.Tuple q k p}) (match a with|.Tuple l k p=>some ⟨l,k,p,rfl⟩|_=>none)
noncomputable def a5t(a:Expr):Option (List Expr):=Option.map Subtype.val (α:={q:List Expr//∃p,a=.List q p}) (match a with|.List l p=>some ⟨l,p,rfl⟩|_=>none)
noncomputable def a5u(a:Expr):Option (List (Option Expr)×List Expr):=Option.map Subtype.val (α:={q:List (Option Expr)×List Expr//∃p,a=.Dict q.1 q.2 p}) (match a with|.Dict k v p=>some ⟨(k,v),p,rfl⟩|_=>none)
noncomputable def arz(a:Expr):Option (Expr×Expr):=Option.map Subtype.val (α:={q:Expr×Expr//∃p,a=.Subscript q.1 q.2 p}) (match a with|.Subscript l r p=>some ⟨(l,r),p,rfl⟩|_=>none)
noncomputable def dSl(a:Expr):Option (Option Expr×Option Expr×Option Expr):=Option.map Subtype.val (α:={q:Option Expr×Option Expr×Option Expr//∃p,a=.Slice q.1 q.2.1 q.2.2 p}) (match a with|.Slice l r s p=>some ⟨(l,r,s),p,rfl⟩|_=>none)
noncomputable def ar0(a:Expr):Option (Expr×List Expr×List Keyword×Pos):=Option.map Subtype.val (α:={q:Expr×List Expr×List Keyword×Pos//a=.Call q.1 q.2.1 q.2.2.1 q.2.2.2}) (match a with|.Call f l k p=>some ⟨(f,l,k,p),rfl⟩|_=>none)
noncomputable def ar3(a:Expr):Option (Expr×Str×Pos):=Option.map Subtype.val (α:={q:Expr×Str×Pos//a=.Attribute q.1 q.2.1 q.2.2}) (match a with|.Attribute l n p=>some ⟨(l,n,p),rfl⟩|_=>none)
noncomputable def afr(a:Expr):Option (Expr×List Comprehension×Scope):=Option.map Subtype.val (α:={q:Expr×List Comprehension×Scope//∃p,a=.ListComp q.1 q.2.1 q.2.2 p}) (match a with|.ListComp e g s p=>some ⟨(e,g,s),p,rfl⟩|_=>none)
def Ge(h:Lr a=some n):∃p,a=.Name n p:=(Yw h :)
def acd(h:axx a=some n):∃k p,a=.Constant n k p:=(Yw h :)
def aj4(h:a5r a=some (l,o,r)):∃p,a=.BinOp l o r p:=(Yw h :)
def ar4(h:dUn a=some (o,l)):∃p,a=.UnaryOp o l p:=(Yw h :)
def ace(h:axy a=some (l,o,r)):∃p,a=.Compare l o r p:=(Yw h :)
def ar5(h:a0a a=some (o,r,p)):a=.BoolOp o r p:=(Yw h :)
def axz(h:a5s a=some (t,l,r)):∃p,a=.IfExp t l r p:=(Yw h :)
def O3(h:afq a=some l):∃k p,a=.Tuple l k p:=(Yw h :)
def aj5(h:a5t a=some l):∃p,a=.List l p:=(Yw h :)
def aj6(h:a5u a=some (k,l)):∃p,a=.Dict k l p:=(Yw h :)
def acf(h:arz a=some (l,r)):∃p,a=.Subscript l r p:=(Yw h :)
def a5v(h:dSl a=some (l,r,s)):∃p,a=.Slice l r s p:=(Yw h :)
def afs(h:ar0 a=some (f,l,k,p)):a=.Call f l k p:=(Yw h :)
def acg(h:ar3 a=some (l,n,p)):a=.Attribute l n p:=(Yw h :)
def Yc(h:afr a=some (e,g,s)):∃p,a=.ListComp e g s p:=(Yw h :)
def dCN(a:Expr):Option (Str×List Expr):=(ar0 a).bind λq=>if q.2.2.1.isEmpty then(Lr q.1).map λn=>(n,q.2.1)else none
set_option tactic.hygienic true in
def Dj(h:dCN a=some (n,l)):∃p p',a=.Call (.Name n p) l [] p':=by
 obtain⟨⟨f,C,k,p⟩,G,Y⟩:=dw.mp h;split at Y
 .rename_i Z
  obtain⟨L,U,J⟩:=cz.mp Y;obtain⟨p',e⟩:=Ge U;have e:f=_:=e;have Z:k=[]:=uh.mp Z;cases J;exact⟨p',p,by rw[afs G,e,Z]⟩
 .cases Y
def dCA(a:Expr):Option (Expr×Str×Pos×List Expr×Pos):=(ar0 a).bind λq=>if q.2.2.1.isEmpty then(ar3 q.1).map λn=>(n.1,n.2.1,n.2.2,q.2.1,q.2.2.2)else none
set_option tactic.hygienic true in
def ar6(h:dCA a=some (o,n,U,l,p)):a=.Call (.Attribute o n U) l [] p:=by
 obtain⟨⟨f,R,k,S⟩,G,Y⟩:=dw.mp h;split at Y
 .rename_i Z
  obtain⟨⟨u,y,C⟩,L,J⟩:=cz.mp Y;have e:f=_:=acg L;have Z:k=[]:=uh.mp Z;cases J;rw[afs G,e,Z]
 .cases Y
noncomputable def bcg(l:X0):List Str:=l.filterMap Lr
noncomputable def Dz(e:Expr):List Str:=match afq e with|some l=>bcg l|none=>bcg [e]
noncomputable def hid(i:Nat):Str:=⟨#[0,i]⟩
def amo(Z:X9)(p:Str×Nat):Str:=if Z.contains p.1=true then hid p.2 else p.1
noncomputable def Vw(N Z:X9):List Str:=N.zipIdx.map (amo Z)++Z
noncomputable def ax0(c:Ctx)(Z:Xs):List (Str×NameKind):=Z.map λy=>if(y.2==NameKind.free&&c.sc.lookup y.1==some .cell)then(y.1,NameKind.cell)else(y.1,y.2)
def afu(c:Ctx)(G:Scope)(Z:X9):Ctx:=⟨Vw c.N Z,ax0 c G.names,false⟩
def a5w(c:Ctx)(Z:Scope)(G:X9):Bool:=
 decide (Z.kind=.function)&&(Z.names.all (λy=>!(y.2==NameKind.cell))&&(Z.names.all (λy=>Z.names.lookup y.1==some y.2) &&
 (Z.names.all (λy=>!(y.2==NameKind.free)||(c.sc.lookup y.1==some .cell||c.sc.lookup y.1==some .free))&&(decide ((Vw c.N G).Nodup) &&
 c.N.zipIdx.all (λp=>!(amn (afu c Z G) (amo G p))||(amo G p==p.1&&Z.names.lookup (amo G p)==some .free))))))
noncomputable def bch:Op2->Operator
 |.add=>.Add|.ak2=>.Add|.sub=>.Sub|.mul=>.Mult|.fdiv=>.FloorDiv|.mod=>.Mod|.pow=>.Pow
noncomputable def ax1:Cp->Option CmpOp
 |.eq=>some .Eq|.ne=>some .NotEq|.lt=>some .Lt|.le=>some .LtE|.gt=>some .Gt|.ge=>some .GtE|.inn=>some .In|.Uu=>some .NotIn
noncomputable def a5x:Blt->Option Str
 |.len=>some "len"|.tuple=>some "tuple"|.dict=>some "dict"|.max=>some "max"
 |.all=>some "all"|.Wk=>some "list"|.sortI=>some "sorted"|.Uv=>some "sorted"|.Wj=>some "sorted"
 |_=>none
noncomputable def bmN:Bm->Option Str
 |.append=>some "append"|.extend=>some "extend"|_=>some "index"
def a5y(T:Tab)(c:Ctx)(d:MW.D)(a:Expr):Bool:=
 match d with
 |.int i=>Br (axx a) (λk=>decide (k=.int i))||Br (Lr a) λn=>Q5 c n&&T.axw.contains (n,i)
 |.bl i=>Br (axx a) λk=>decide (k=.bool i)
 |_=>false
def tg1(c:Ctx)(Z i:Nat)(e:Expr):Bool:=Br (Lr e) λn=>aj2 c i n&&(a5o c n&&decide (Z<=i))
def amq(c:Ctx)(Z:Nat):List Nat->List Expr->Bool
 |[],[]=>true|i::is,e::ts=>tg1 c Z i e&&amq c Z is ts|_,_=>false
def tgB(c:Ctx)(Z:Nat)(t:Tg)(e:Expr):Bool:=
 match t with
 |.name i=>tg1 c Z i e|.names is=>Br (afq e) λG=>amq c Z is G
def Sw(e:Expr):Bool:=(a5s e).isNone
noncomputable def fnB(l:List (Option (Str×Nat)))(f:Nat)(n:Str)(k:Nat):Bool:=decide (l[f]?=some (some (n,k)))
noncomputable def mtB(l:List (Str×Nat))(f:Nat)(n:Str)(k:Nat):Bool:=decide (l[f]?=some (n,k))
noncomputable def flB(l:X9)(f:Nat)(n:Str):Bool:=decide (l[f]?=some n)
def aj7(c:Ctx)(k:Nat)(t:Tg)(g:Comprehension)(Z:Scope):Bool:=
 a5w c Z (Dz g.target)&&((k==(Dz g.target).length)&&(tgB (afu c Z (Dz g.target)) c.N.length t g.target&&(G6 g.iter&&decide (g.is_async=0))))
def ar7(o:BoolOp)(a:Expr)(x y:Expr->Bool):Bool:=
 Br (a0a a) λq=>decide (q.1=o)&&(match q.2.1 with
  |l::r::rest=>(Sw l&&x l)&&(match rest with|[]=>Sw r&&y r|_::_=>y (.BoolOp o (r::rest) q.2.2))
  | _=>false)
def ar8(c:Ctx)(ty:Str)(a:Expr)(f:Expr->Bool):Bool:=Br (dCN a) λq=>match q.2 with
 |[l,t]=>Br (Lr t) λZ=>(decide (q.1 ="isinstance")&&decide (Z=ty))&&((Q5 c q.1&&Q5 c Z)&&(noStar l&&f l))
 |_=>false
def a5z(c:Ctx)(a:Expr)(f:Expr->Bool):Bool:=Br (dCN a) λq=>match q.2 with
 |[l,t]=>Br (afq t) λU=>match U with
  |[u,v]=>Br (Lr u) λZ=>Br (Lr v) λG=>(decide (q.1 ="isinstance")&&(decide (Z ="tuple")&&decide (G ="list")))&&((Q5 c q.1&&(Q5 c Z&&Q5 c G))&&(noStar l&&f l))
  |_=>false
 |_=>false
def ax2(h:ar8 c ty a f=true):∃l p p1 Z,a=.Call (.Name "isinstance" p) [l,.Name ty p1] [] Z/\Q5 c "isinstance"= true/\Q5 c ty=true/\noStar l=true/\f l=true:=by
 obtain⟨⟨n,ls⟩,G,L⟩:=jb h;clear h;obtain⟨p,p',rfl⟩:=Dj G
 match ls,G,L with
 |[l,t],G,h =>
  replace h:=jb (f:=λU=>(decide (n ="isinstance")&&decide (U=ty))&&((Q5 c n&&Q5 c U)&&(noStar l&&f l))) h;obtain⟨U,h2,h⟩:=h;obtain⟨Z,rfl⟩:=Ge h2;simp only[au,cu]at h;obtain⟨⟨rfl,rfl⟩,⟨h3,h4⟩,h5,h6⟩:=h;exact⟨l,p,Z,p',rfl,h3,h4,h5,h6⟩
 |[],_,h=>cases h|[_],_,h=>cases h|_::_::_::_,_,h=>cases h
def ax3(h:a5z c a f=true):∃l p p1 L U k p4,a=.Call (.Name "isinstance" p) [l,.Tuple [.Name "tuple" p1,.Name "list" L] k U] [] p4/\Q5 c "isinstance"= true/\Q5 c "tuple"= true/\Q5 c "list"= true/\noStar l=true/\f l=true:=by
 obtain⟨⟨n,ls⟩,Z,h0⟩:=jb h;clear h;obtain⟨p,p',rfl⟩:=Dj Z
 match ls,Z,h0 with
 |[l,t],Z,h =>
  replace h:=jb (o:=afq t) h;obtain⟨tl,G,h⟩:=h;obtain⟨k,U,rfl⟩:=O3 G
  match tl,G,h with
  |[u,v],G,h =>
   replace h:=jb (o:=Lr u) h;obtain⟨n1,h7,h⟩:=h;replace h:=jb (o:=Lr v) h;obtain⟨n2,h8,h⟩:=h;obtain⟨q1,rfl⟩:=Ge h7;obtain⟨q2,rfl⟩:=Ge h8;simp only[au,cu]at h;obtain⟨⟨rfl,rfl,rfl⟩,⟨h3,h4,h9⟩,h5,h6⟩:=h;exact⟨l,p,q1,q2,U,k,p',rfl,h3,h4,h9,h5,h6⟩
  |[],_,h=>cases h|[_],_,h=>cases h|_::_::_::_,_,h=>cases h
 |[],_,h=>cases h|[_],_,h=>cases h|_::_::_::_,_,h=>cases h
def bci(c:Ctx)(ty Z:Str)(a:Expr)(f:Expr->Bool):Bool:=Br (dCN a) λq=>Br (J0 q.2) λr=>Br (dCN r) λu=>Br (J0 u.2) λl=>((decide (q.1=ty)&&decide (u.1=Z))&&(Q5 c q.1&&Q5 c u.1))&&(noStar l&&f l)
def ax4(h:bci c ty G a f=true):∃l p p1 Z p3,a=.Call (.Name ty p) [.Call (.Name G p1) [l] [] Z] [] p3/\Q5 c ty=true/\Q5 c G=true/\noStar l=true/\f l=true:=by replace h:=jb h;obtain⟨⟨n,ls⟩,L,h⟩:=h;obtain⟨p,p',rfl⟩:=Dj L;replace h:=jb h;obtain⟨r,h2,h⟩:=h;cases z8 h2;replace h:=jb h;obtain⟨⟨m,ms⟩,h3,h⟩:=h;obtain⟨Z,q2,rfl⟩:=Dj h3;replace h:=jb h;obtain⟨l,h4,h⟩:=h;cases z8 h4;simp only[au,cu]at h;obtain⟨⟨⟨rfl,rfl⟩,h5,h6⟩,U,h8⟩:=h;exact⟨l,p,Z,q2,p',rfl,h5,h6,U,h8⟩
mutual
def Ab(T:Tab):Ex->Ctx->Expr->Bool
 |.var i,c,a=>Br (Lr a) λn=>aj2 c i n&&(amn c n&&X6 n)
 |.cst d,c,a=>a5y T c d a|.bin op x y,c,a=>Br (a5r a) λq=>decide (q.2.1=bch op)&&(Ab T x c q.1&&Ab T y c q.2.2)
 |.neg x,c,a=>Br (dUn a) λq=>decide (q.1=.USub)&&Ab T x c q.2
 |.cmp op x y,c,a=>Br (axy a) λq=>Br (J0 q.2.1) λo=>Br (J0 q.2.2) λr=>decide (ax1 op=some o)&&(G6 r&&(Ab T x c q.1&&Ab T y c r))
 |.chain o1 o2 x y z,c,a=>Br (axy a) λq=>match q.2.1,q.2.2 with
  |[p1,p2],[r,s]=>(decide (ax1 o1=some p1)&&decide (ax1 o2=some p2))&&(G6 s&&(Ab T x c q.1&&(Ab T y c r&&Ab T z c s)))|_,_=>false
 |.and x y,c,a=>ar7 .And a (Ab T x c) (Ab T y c)|.or x y,c,a=>ar7 .Or a (Ab T x c) (Ab T y c)|.not x,c,a=>Br (dUn a) λq=>decide (q.1=.Not)&&(Sw q.2&&Ab T x c q.2)
 |.ite t x y,c,a=>Br (a5s a) λq=>Sw q.1&&(Ab T t c q.1&&(Ab T x c q.2.1&&Ab T y c q.2.2))
 |.tup es,c,a=>Br (afq a) λl=>decide (Cv.len es<=1000)&&Hw T es c l
 |.lst es,c,a=>Br (a5t a) λl=>decide (Cv.len es<=1000)&&Hw T es c l
 |.Hh es,c,a=>Br (a5t a) λl=>decide (Cv.len es<=1000)&&Hw T es c l
 |.ade,_,a=>Br (a5u a) λq=>q.1.isEmpty&&q.2.isEmpty
 |.ak3 e,c,a=>Br (a5u a) λq=>Br (J0 q.1) λk=>Br (J0 q.2) λv=>Br k λk=>Br (axx v) (λb=>decide (b=.bool true))&&Ab T e c k
 |.ix x y,c,a=>Br (arz a) λq=>ab5 q.2&&(Ab T x c q.1&&Ab T y c q.2)
 |.cut x lo hi,c,a=>Br (arz a) λq=>Br (dSl q.2) λs=>s.2.2.isNone&&(Ab T x c q.1&&(a6a T lo c s.1&&a6a T hi c s.2.1))
 |.call f es,c,a=>Br (dCN a) λq=>(fnB T.fns f q.1 (Cv.len es)&&(Q5 c q.1&&!q.2.isEmpty))&&Hw T es c q.2
 |.make f es,c,a=>Br (dCN a) λq=>(fnB T.cls f q.1 (Cv.len es)&&(Q5 c q.1&&!q.2.isEmpty))&&Hw T es c q.2
 |.meth o m es,c,a=>Br (dCA a) λq=>((mtB T.mts m q.2.1 (Cv.len es)&&X7 q.1)&&(decide (q.2.2.2.1.length<29)&&(q.2.2.1.endLine==q.2.2.2.2.line)))&&(Ab T o c q.1&&Hw T es c q.2.2.2.1)
 |.fld o f,c,a=>Br (ar3 a) λq=>(flB T.Qw f q.2.1&&X7 q.1)&&Ab T o c q.1
 |.blt .isTuple (.cons x .nil),c,a=>ar8 c "tuple" a (Ab T x c)|.blt .isList (.cons x .nil),c,a=>ar8 c "list" a (Ab T x c)|.blt .isBool (.cons x .nil),c,a=>ar8 c "bool" a (Ab T x c)|.blt .isSeq (.cons x .nil),c,a=>a5z c a (Ab T x c)|.blt b es,c,a=>Br (dCN a) λq=>(decide (a5x b=some q.1)&&(Q5 c q.1&&!q.2.isEmpty))&&Hw T es c q.2
 |.bm m o es,c,a=>Br (dCA a) λq=>((decide (bmN m=some q.2.1)&&X7 q.1)&&(decide (q.2.2.2.1.length<29)&&((q.2.2.1.endLine==q.2.2.2.2.line)&&!q.2.2.2.1.isEmpty)))&&(Ab T o c q.1&&Hw T es c q.2.2.2.1)
 |.comp k t it e,c,a=>Br (afr a) λq=>Br (J0 q.2.1) λg=>(aj7 c k t g q.2.2&&g.ifs.isEmpty)&&(ax5 T it c g.target g.iter&&Ab T e (afu c q.2.2 (Dz g.target)) q.1)
 |.Bo k t it i e,c,a=>Br (afr a) λq=>Br (J0 q.2.1) λg=>Br (J0 g.ifs) λd=>(aj7 c k t g q.2.2&&Sw d)&&(ax5 T it c g.target g.iter&&(Ab T i (afu c q.2.2 (Dz g.target)) d&&Ab T e (afu c q.2.2 (Dz g.target)) q.1))
 |.Wl x y,c,a=>Br (axy a) λq=>Br (J0 q.2.1) λo=>Br (J0 q.2.2) λr=>Br (dCN q.1) λu=>Br (dCN r) λv=>Br (J0 u.2) λl=>Br (J0 v.2) λm =>
  ((decide (o=.NotEq)&&decide (u.1 ="set"))&&(decide (v.1 ="set")&&Q5 c u.1))&&((noStar l&&noStar m)&&(Ab T x c l&&Ab T y c m))
 |.Mh x y,c,a=>Br (dCN a) λw=>Br (J0 w.2) λz=>Br (a5r z) λq=>Br (dCN q.1) λu=>Br (dCN q.2.2) λt=>Br (J0 u.2) λl=>Br (J0 t.2) λm =>
  ((decide (w.1 ="sorted")&&(Q5 c w.1&&decide (q.2.1=Operator.BitOr)))&&(decide (u.1 ="set")&&(decide (t.1 ="set")&&Q5 c u.1)))&&((noStar l&&noStar m)&&(Ab T x c l&&Ab T y c m))
 |.agp x,c,a=>bci c "tuple" "range" a (Ab T x c)
def Hw(T:Tab):Cv->Ctx->List Expr->Bool
 |.nil,_,a=>a.isEmpty|.cons e es,c,a=>match a with|l::ls=>noStar l&&(Ab T e c l&&Hw T es c ls)|_=>false
def a6a(T:Tab):OEx->Ctx->Option Expr->Bool
 |.none,_,a=>a.isNone|.some e,c,a=>Br a (Ab T e c)
def ax5(T:Tab):Ka->Ctx->Expr->Expr->Bool
 |.val e,c,_,a=>Ab T e c a|.Th e,c,_,a=>Br (dCN a) λq=>Br (J0 q.2) λl=>(decide (q.1 ="range")&&Q5 c q.1)&&(noStar l&&Ab T e c l)
 |.enm e,c,tg,a=>Br (dCN a) λq=>Br (J0 q.2) λl=>((afq tg).isSome&&(decide (q.1 ="enumerate")&&Q5 c q.1))&&(noStar l&&Ab T e c l)
 |.zip es,c,tg,a=>Br (dCN a) λq=>((afq tg).isSome&&(decide (q.1 ="zip")&&(Q5 c q.1&&!q.2.isEmpty)))&&(decide (Cv.len es=2)&&Hw T es c q.2)
end
def Py(h:Ed T nm W k c X)(G:Scope):(relabel G X.env).names=ax0 c G.names:=by
 unfold relabel ax0;refine p7 λy _=>?_
 obtain⟨n,Z⟩:=y;show(if(Z==NameKind.free&&X.env.scope.kind==.function&&X.env.kindOf n==some .cell)=true then _ else _)=_;have e:(Z==NameKind.free&&X.env.scope.kind==.function&&X.env.kindOf n==some .cell)=(Z==NameKind.free&&c.sc.lookup n==some .cell):=by unfold Env.kindOf;rw[h.kd,h.sc];simp
 rw[e]
def a6b(h:Ed T nm W k c X)(hb:a5w c sc G=true):G7 X (Vw c.N G) sc/\∀C fp s H,Ed T nm W k (afu c sc G) (Lz X (Vw c.N G) sc C fp s H):=by
 simp only[a5w,au,cu,ik]at hb;obtain⟨h1,h2,h3,h4,h5,h6⟩:=hb;have Z:∀x kd,(x,kd)∈sc.names->sc.names.lookup x=some kd:=λx kd m=>by have:=h3 (x,kd) m;simpa using this
 refine⟨⟨h1,λy m=>by have:=h2 y m;simpa using this,λy m e=>by rw[Z y.1 y.2 m,e],λy m e=>?_,Z,?_,λi x hi U L=>?_⟩,λC fp s H=>⟨rfl,h5,Py h sc,h1,h.calm,h.room,(λz=>by cases z),h.tab⟩⟩
 .have:=h4 y m
  rw[e]at this;unfold Env.kindOf;rw[h.sc];simpa using this
 .rw[h.N];simp[Vw]
 .rw[h.N]at hi
  have hl:i<(c.N.zipIdx.map (amo G)).length:=by simpa using hi
  unfold Vw at U;rw[jx hl,dm,zc]at U;obtain⟨n,hn⟩:∃n,c.N[i]?=some n:=⟨c.N[i],by simp[hi]⟩;rw[hn]at U;have U:amo G (n,i)=x:=by simpa using U
  have m:(n,i)∈c.N.zipIdx:=by rw[v8];exact⟨i,by rw[zc,hn];simp⟩
  have q:=h6 (n,i) m;rw[U]at q;have v:amn (afu c sc G) x=true:=by unfold Vis at L;rw[Py h]at L;unfold amn;show(match(ax0 c sc.names).lookup x with|some .local=>true|some .cell=>true|some .free=>true|_=>false)=true;rcases L with e|e|e<;>rw[e]
  rw[v]at q;simp only[jc,Bool.false_or,au]at q;rw[h.N,hn];have e1:x=n:=eq_of_beq q.1;exact⟨by rw[e1],by have:=q.2;simpa using this⟩
def bck(h:o=bch op):Cy X (binaryOp o) (rOp nm X.K (MW.Eg op)):=by
 subst h;cases op with
 |add=>exact ba8|ak2=>exact a5k|sub=>exact ba4|mul=>exact ba7|fdiv=>exact a4h|mod=>exact ba5|pow=>exact ba6
def Sx(Z:zp 8 X.A)(h:ax1 op=some o):Cy X (compareOp o) (Yv nm X.K op):=by
 have G:zp 6 X.A:=Z.mono (by decide);cases op with
 |eq=>cases h;exact bhl G|ne=>cases h;exact bhm G|lt=>cases h;exact bg9|le=>cases h;exact bha|gt=>cases h;exact bhb|ge=>cases h;exact bhc|inn=>cases h;exact bhn Z|Uu=>cases h;exact awz Z
def ahv(h:Ed T nm W k c X)(hb:tg1 c lo i e=true):∃n p,e=.Name n p/\X.N[i]?=some n/\L2.Loc X.env.scope n/\(X.fn n=true\/X.env.scope.names.lookup n=some .local)/\lo<=i:=by obtain⟨n,G,Z⟩:=jb hb;obtain⟨p,rfl⟩:=Ge G;simp only[au,cu]at Z;obtain⟨U,L⟩:=a5q h Z.2.1;exact⟨n,p,rfl,slot_of h Z.1,U,L,Z.2.2⟩
theorem ar9{T:Tab}{L:Nm}{W:G9}{k:Nat}{c:Ctx}{X:Cx}(h:Ed T L W k c X){G:Nat}:∀{is:Yf}{Z:X0},amq c G is Z=true->Kw X Z is/\∀i∈is,G<=i
 |[],[],_=>⟨.nil,by simp⟩|[],_::_,e=>by cases e|_::_,[],e=>by cases e
 |i::is,a::Z,e=>by
  unfold amq at e;rw[au]at e;obtain⟨n,p,rfl,e1,e2,e3,e4⟩:=ahv h e.1;obtain⟨U,g2⟩:=ar9 h e.2;refine⟨.cons e1 e2 e3 U,λj hj=>?_⟩;rcases cj.mp hj with z|z
  .rw[z];exact e4
  .exact g2 j z
def aj8(h:Ed T nm W k c X)(Z:tgB c lo t e=true):PG X e (tGt nm X.K t)/\∀i∈Bl t,lo<=i:=by
 have G:X.N.Nodup:=by rw[h.N];exact h.nd
 cases t with
 |name i =>
  obtain⟨n,p,rfl,e1,e2,e3,e4⟩:=ahv h Z;exact⟨a4o G e1 e2 e3,λi hi=>by rw[uc.mp hi];exact e4⟩
 |names is =>
  obtain⟨ts,L,h2⟩:=jb Z;obtain⟨k0,p,rfl⟩:=O3 L;obtain⟨U,g2⟩:=ar9 h h2;exact⟨awu h.calm G U,g2⟩
structure Got(nm:Nm)(W:G9)(X:Cx)(a:Expr)(e:Ex):Prop where
 v:PE X a (tE nm W X.K e)
 q:Sw a=true->PT X a (tQ nm W X.K e)
 w:∀op ls p,a=.BoolOp op ls p->PW X a (tQ nm W X.K e)
noncomputable def bcl:Expr->Bool
 |.BoolOp ..=>false|.UnaryOp .Not _ _=>false|.IfExp ..=>false|.Compare ..=>false|_=>true
set_option tactic.hygienic true in
def yo(h:PE X a (tE nm W X.K e))(Z:bcl a=true):Got nm W X a e:=by
 refine⟨h,λJ=>ba9 h λY=>?_,λG U p z=>by subst z;cases Z⟩;cases a<;>first|rfl|(cases Z)|skip
 rename_i G x p;cases G<;>first|rfl|cases Z
def a6c(h:Ed T nm W k c X)(Z:a5y T c d a=true):PE X a (tE nm W X.K (.cst d))/\bcl a=true:=by
 cases d with
 |int i =>
  simp only[a5y,Bool.or_eq_true]at Z;rcases Z with Z|Z
  .obtain⟨k,U,G⟩:=jb Z
   obtain⟨j,p,rfl⟩:=acd U;rw[m6 G];exact⟨ba2,rfl⟩
  .obtain⟨n,U,G⟩:=jb Z
   obtain⟨p,rfl⟩:=Ge U;rw[au]at G;obtain⟨L,g2⟩:=Gd h G.1;obtain⟨t,ht⟩:=h.tab.cs _ _ (List.contains_iff_mem.mp G.2);exact⟨a4g L ht (vd g2).1,rfl⟩
 |bl i =>
  obtain⟨k,U,G⟩:=jb Z;obtain⟨j,p,rfl⟩:=acd U;rw[m6 G];exact⟨bg7,rfl⟩
 |_=>cases Z
section
variable{T:Tab}{nm:Nm}{W:G9}{k:Nat}
def Ed.r8(h:Ed T nm W k c X):zp 8 X.A:=h.room.mono (by lia)
theorem Ed.mg(h:Ed T nm W k c X)(m:n∈Om):X.mg n=none:=h.tab.bt n m
def amr(h:Hw T Z c []=true):Z=.nil:=by
 cases Z with
 |nil=>rfl|cons e Z=>simp[Hw]at h
theorem Vl{c:Ctx}{G:Nat}:∀{is:Yf}{Z:X0},amq c G is Z=true->∀i∈is,G<=i
 |[],_,_=>by simp|_::_,[],e=>by cases e
 |i::is,a::Z,e=>by
  unfold amq at e;rw[au]at e;intro j L;rcases cj.mp L with z|z
  .obtain⟨n,h1,U⟩:=jb e.1
   simp only[au,cu]at U;rw[z];exact U.2.2
  .exact Vl e.2 j z
def ahw(h:tgB c lo t e=true):∀i∈Bl t,lo<=i:=by
 cases t with
 |name j =>
  obtain⟨n,G,Z⟩:=jb h;simp only[au,cu]at Z;intro i U;rw[uc.mp U];exact Z.2.2
 |names is =>
  obtain⟨L,G,Z⟩:=jb h;exact Vl Z
def asa:(Vw N Z).length-N.length=Z.length:=by simp[Vw]
def Sy(G:Ed T nm W k c X)(h:aj7 c j t g sc=true) :
 G6 g.iter=true/\g.is_async=0/\G7 X (Vw c.N (Dz g.target)) sc/\(∀C Z s H,Ed T nm W k (afu c sc (Dz g.target)) (Lz X (Vw c.N (Dz g.target)) sc C Z s H)) /\
 (∀C Z s H,PG (Lz X (Vw c.N (Dz g.target)) sc C Z s H) g.target (tGt nm X.K t))/\(Vw c.N (Dz g.target)).length-X.N.length=j/\∀i∈Bl t,X.N.length<=i:=by
 simp only[aj7,au,cu]at h;obtain⟨h2,h3,U,h5,h6⟩:=h;obtain⟨B,L⟩:=a6b G h2;exact⟨h5,h6,B,L,λC Z s H=>(aj8 (L C Z s H) U).1,by rw[G.N,asa];exact(eq_of_beq h3).symm,λi hi=>by rw[G.N];exact ahw U i hi⟩
def aj9(h:ar7 o a x y=true):(∃l r p,a=.BoolOp o [l,r] p/\Sw l=true/\x l=true/\Sw r=true/\y r=true) \/
 ∃l r s Z p,a=.BoolOp o (l::r::s::Z) p/\Sw l=true/\x l=true/\y (.BoolOp o (r::s::Z) p)=true:=by
 obtain⟨⟨o',U,p⟩,L,G⟩:=jb h;cases ar5 L;rw[au]at G;obtain⟨h3,G⟩:=G;cases m6 h3;cases U with
 |nil=>cases G
 |cons l U=>cases U with
  |nil=>cases G
  |cons r Z =>
   cases Z with
   |nil =>
    have G:((Sw l&&x l)&&(Sw r&&y r))=true:=G;simp only[au]at G;exact .inl ⟨l,r,p,rfl,G.1.1,G.1.2,G.2.1,G.2.2⟩
   |cons s Z =>
    have G:((Sw l&&x l)&&y (.BoolOp o' (r::s::Z) p))=true:=G;simp only[au]at G;exact .inr ⟨l,r,s,Z,p,rfl,G.1.1,G.1.2,G.2⟩
def a6d(hc:Ed T nm W k c X)(Z:a5x b=some n)(hg:Q5 c n=true)(e1:PA X (l::ls) (Vu nm W X.K es))(e2:Af (l::ls)=true):PE X (.Call (.Name n p) (l::ls) [] p') (tE nm W X.K (.blt b es)):=by
 obtain⟨G,g2⟩:=Gd hc hg;obtain⟨L,d2,d3⟩:=vd g2;simp only[Af,au]at e2;have st:=km e2.1 ls X.env;have U:=wj (env:=X.env) (pos:=p') e2.2;have mg:n∈Om->X.mg n=none:=hc.mg;cases b with
 |len=>cases Z;exact aai (id :="len") bcf G (mg (by decide+kernel)) (by decide+kernel) e1 d3 L st U|max=>cases Z;exact aai (id :="max") (bb1 hc.calm) G (mg (by decide+kernel)) (by decide+kernel) e1 d3 L st U|all=>cases Z;exact aai (id :="all") (bca hc.calm) G (mg (by decide+kernel)) (by decide+kernel) e1 d3 L st U|tuple=>cases Z;exact ahq (T :="tuple") awx G (mg (by decide+kernel)) (by decide+kernel) e1 d3 L st U|Wk=>cases Z;exact ahq (T :="list") (axr hc.calm) G (mg (by decide+kernel)) (by decide+kernel) e1 d3 L st U|sortI=>cases Z;exact aai (id :="sorted") axt G (mg (by decide+kernel)) (by decide+kernel) e1 d3 L st U|Uv=>cases Z;exact aai (id :="sorted") (axs hc.r8) G (mg (by decide+kernel)) (by decide+kernel) e1 d3 L st U|Wj=>cases Z;exact aai (id :="sorted") (axq hc.r8 hc.calm) G (mg (by decide+kernel)) (by decide+kernel) e1 d3 L st U|dict=>cases Z;exact ahq (T :="dict") a5g G (mg (by decide+kernel)) (by decide+kernel) e1 d3 L st U|_=>cases Z
def Yd{Z:Type}{l:List Z}(h:(!l.isEmpty)=true):∃x r,l=x::r:=by
 cases l with
 |nil=>cases h|cons x r=>exact⟨x,r,rfl⟩
set_option tactic.hygienic true in
mutual
theorem jj:∀(e:Ex){c:Ctx}{X:Cx}{a:Expr},Ed T nm W k c X->Ab T e c a=true->Got nm W X a e
 |.var i,c,X,a,hc,h=>by
  replace h:=jb h;obtain⟨n,G,h⟩:=h;obtain⟨p,rfl⟩:=Ge G;simp only[au]at h;exact yo (ba1 (slot_of hc h.1) (a5p hc h.2.1) (vd h.2.2).1 (vd h.2.2).2.1) rfl
 |.cst d,c,X,a,hc,h=>by
  obtain⟨G,U⟩:=a6c hc h;exact yo G U
 |.bin op x y,c,X,a,hc,h=>by
  replace h:=jb h;obtain⟨⟨l,o,r⟩,G,h⟩:=h;obtain⟨p,rfl⟩:=aj4 G;simp only[au,cu]at h;exact yo (ba3 (bck h.1) (jj x hc h.2.1).v (jj y hc h.2.2).v) rfl
 |.neg x,c,X,a,hc,h=>by
  replace h:=jb h;obtain⟨⟨o,l⟩,G,h⟩:=h;obtain⟨p,rfl⟩:=ar4 G;simp only[au,cu]at h;obtain⟨rfl,h⟩:=h;exact yo (bbj (jj x hc h).v) rfl
 |.cmp op x y,c,X,a,hc,h=>by
  replace h:=jb h;obtain⟨⟨l,o,r⟩,G,h⟩:=h;obtain⟨p,rfl⟩:=ace G;replace h:=jb h;obtain⟨o1,U,h⟩:=h;replace h:=jb h;obtain⟨r1,L,h⟩:=h;cases z8 U;cases z8 L;simp only[au,cu]at h;have g:=Sx (nm:=nm) hc.r8 h.1;have m:=Vi h.2.1 o1;exact⟨bba g (jj x hc h.2.2.1).v (jj y hc h.2.2.2).v m,λ_=>bbb g (jj x hc h.2.2.1).v (jj y hc h.2.2.2).v m,λ_ _ _ z=>by cases z⟩
 |.chain o1 o2 x y z,c,X,a,hc,h=>by
  replace h:=jb h;obtain⟨⟨l,o,r⟩,G,h⟩:=h;obtain⟨p,rfl⟩:=ace G;dsimp only at h;split at h
  .rename_i p1 p2 r s
   simp only[au,cu]at h;have g1:=Sx (nm:=nm) hc.r8 h.1.1;have g2:=Sx (nm:=nm) hc.r8 h.1.2;have m:lastMarks [p1,p2] [r,s]=false:=Vi h.2.1 p2;exact⟨aws g1 g2 (jj x hc h.2.2.1).v (jj y hc h.2.2.2.1).v (jj z hc h.2.2.2.2).v m,λ_=>awt g1 g2 (jj x hc h.2.2.1).v (jj y hc h.2.2.2.1).v (jj z hc h.2.2.2.2).v m,λ_ _ _ z=>by cases z⟩
  .cases h
 |.and x y,c,X,a,hc,h=>by
  rcases aj9 h with⟨l,r,p,rfl,G,U,L,h4⟩|⟨l,r,s,qk,p,rfl,G,U,L⟩
  .have g1:=jj x hc U
   have g2:=jj y hc h4;have w:=azz (pos:=p) (rest:=[]) (g1.q G) (avv (g2.q L));exact⟨azy g1.v (az9 g2.v),λ_=>w.pt,λ_ _ _ _=>w⟩
  .have g1:=jj x hc U
   have g2:=jj y hc L;have w:=azz (g1.q G) (g2.w _ _ _ rfl);exact⟨azy g1.v g2.v,λ_=>w.pt,λ_ _ _ _=>w⟩
 |.or x y,c,X,a,hc,h=>by
  rcases aj9 h with⟨l,r,p,rfl,G,U,L,h4⟩|⟨l,r,s,qk,p,rfl,G,U,L⟩
  .have g1:=jj x hc U
   have g2:=jj y hc h4;have w:=bbe (pos:=p) (rest:=[]) (g1.q G) (a2x (g2.q L));exact⟨bbc g1.v (az9 g2.v),λ_=>w.pt,λ_ _ _ _=>w⟩
  .have g1:=jj x hc U
   have g2:=jj y hc L;have w:=bbe (g1.q G) (g2.w _ _ _ rfl);exact⟨bbc g1.v g2.v,λ_=>w.pt,λ_ _ _ _=>w⟩
 |.not x,c,X,a,hc,h=>by
  replace h:=jb h;obtain⟨⟨o,l⟩,G,h⟩:=h;obtain⟨p,rfl⟩:=ar4 G;simp only[au,cu]at h;obtain⟨rfl,h⟩:=h;have g:=jj x hc h.2;exact⟨bbd g.v,λ_=>bbf (g.q h.1),λ_ _ _ z=>by cases z⟩
 |.ite t x y,c,X,a,hc,h=>by
  replace h:=jb h;obtain⟨⟨t',l,r⟩,G,h⟩:=h;obtain⟨p,rfl⟩:=axz G;simp only[au]at h;exact⟨bbg ((jj t hc h.2.1).q h.1) (jj x hc h.2.2.1).v (jj y hc h.2.2.2).v,(λz=>by cases z),λ_ _ _ z=>by cases z⟩
 |.tup es,c,X,a,hc,h=>by
  replace h:=jb h;obtain⟨l,G,h⟩:=h;obtain⟨k0,p,rfl⟩:=O3 G;simp only[au,cu]at h;exact yo (bbh (Dd es hc h.2).1 h.1) rfl
 |.lst es,c,X,a,hc,h=>by
  replace h:=jb h;obtain⟨l,G,h⟩:=h;obtain⟨p,rfl⟩:=aj5 G;simp only[au,cu]at h;exact yo (bbi (Dd es hc h.2).1 h.1) rfl
 |.Hh es,c,X,a,hc,h=>by
  replace h:=jb h;obtain⟨l,G,h⟩:=h;obtain⟨p,rfl⟩:=aj5 G;simp only[au,cu]at h;exact yo (a4k (Dd es hc h.2).1 h.1) rfl
 |.ade,c,X,a,hc,h=>by
  replace h:=jb h;obtain⟨⟨q,l⟩,G,h⟩:=h;obtain⟨p,rfl⟩:=aj6 G;simp only[au,uh]at h;obtain⟨rfl,rfl⟩:=h;exact yo a4z rfl
 |.ak3 e,c,X,a,hc,h=>by
  replace h:=jb h;obtain⟨⟨q,l⟩,G,h⟩:=h;obtain⟨p,rfl⟩:=aj6 G;replace h:=jb h;obtain⟨k0,U,h⟩:=h;replace h:=jb h;obtain⟨v,L,h⟩:=h;cases z8 U;cases z8 L;replace h:=jb h;obtain⟨k1,rfl,h⟩:=h;rw[au]at h;obtain⟨b,h4,h5⟩:=jb h.1;obtain⟨j1,p1,rfl⟩:=acd h4;cases m6 h5;exact yo (a5n (e:=k1) hc.r8 (jj e hc h.2).v) rfl
 |.ix x y,c,X,a,hc,h=>by
  replace h:=jb h;obtain⟨⟨l,r⟩,G,h⟩:=h;obtain⟨p,rfl⟩:=acf G;simp only[au]at h;exact yo (bhe (aac hc.room) (jj x hc h.2.1).v (jj y hc h.2.2).v (aqu h.1)) rfl
 |.cut x lo hi,c,X,a,hc,h=>by
  replace h:=jb h;obtain⟨⟨l,r⟩,G,h⟩:=h;obtain⟨p,rfl⟩:=acf G;replace h:=jb h;obtain⟨⟨u,v,st⟩,U,h⟩:=h;obtain⟨p2,e⟩:=a5v U;have e:r=_:=e;subst e;simp only[au,Option.isNone_iff_eq_none]at h;obtain⟨rfl,h⟩:=h;exact yo (bb2 (jj x hc h.1).v (aka lo hc h.2.1) (aka hi hc h.2.2)) rfl
 |.call f es,c,X,a,hc,h=>by
  replace h:=jb h;obtain⟨⟨n,ls⟩,G,h⟩:=h;obtain⟨p,p',rfl⟩:=Dj G;simp only[au]at h;obtain⟨⟨U,L,h4⟩,h5⟩:=h;obtain⟨l,ls,rfl⟩:=Yd h4;obtain⟨fa,fd,ps,F,m,kp,b⟩:=hc.tab.fn _ _ _ (m6 U);obtain⟨g1,g2⟩:=Gd hc L;obtain⟨e1,e2⟩:=Dd es hc h5;simp only[Af,au]at e2;exact yo (s_call F (hc.room.mono x_) g1 m kp b rfl e1 (vd g2).1 (km e2.1 _ _) (wj e2.2)) rfl
 |.make f es,c,X,a,hc,h=>by
  replace h:=jb h;obtain⟨⟨n,ls⟩,G,h⟩:=h;obtain⟨p,p',rfl⟩:=Dj G;simp only[au]at h;obtain⟨⟨U,L,h4⟩,h5⟩:=h;obtain⟨l,ls,rfl⟩:=Yd h4;obtain⟨C,fa,fd,ps,cl,M0,F,m,b,d1,d2⟩:=hc.tab.cl _ _ _ (m6 U);obtain⟨g1,g2⟩:=Gd hc L;obtain⟨e1,e2⟩:=Dd es hc h5;simp only[Af,au]at e2;exact yo (a4w M0 F (hc.room.mono (w_ (by decide))) g1 m b d1 rfl d2 rfl e1 (vd g2).1 (km e2.1 _ _) (wj e2.2)) rfl
 |.meth o m es,c,X,a,hc,h=>by
  replace h:=jb h;obtain⟨⟨lo,n,ap,ls,p⟩,h0,h⟩:=h;cases ar6 h0;simp only[au,cu]at h;obtain⟨⟨⟨G,U⟩,L,h4⟩,h5,h6⟩:=h;obtain⟨C,fa,fd,ps,f,C0,Me,F,b,u,nf⟩:=hc.tab.mt _ _ _ (m6 G);obtain⟨e1,e2⟩:=Dd es hc h6;have g:=jj o hc h5;cases ls with
  |nil =>
   have z:=amr h6;subst z;exact yo (axl (ci:=0) (cl:=⟨0,[]⟩) g.v C0 Me F (hc.room.mono x_) b u nf (aj3 U rfl L h4)) rfl
  |cons l ls =>
   have e3:=e2;simp only[Af,au]at e3;exact yo (a4x (ci:=0) (cl:=⟨0,[]⟩) g.v C0 Me F (hc.room.mono x_) b u nf rfl e1 (km e3.1 _ _) (wj e3.2) (aj3 U e2 L h4)) rfl
 |.fld o f,c,X,a,hc,h=>by
  replace h:=jb h;obtain⟨⟨l,n,p⟩,G,h⟩:=h;cases acg G;simp only[au]at h;obtain⟨t1,t2⟩:=hc.tab.fl _ _ (m6 h.1.1);exact yo (bbk t1 t2 (jj o hc h.2).v (Hb h.1.2)) rfl
 |.blt b es,c,X,a,hc,h=>by
  have Z:(Br (dCN a) λq=>(decide (a5x b=some q.1)&&(Q5 c q.1&&!q.2.isEmpty))&&Hw T es c q.2)=true->Got nm W X a (.blt b es):=λhh=>by clear h;replace hh:=jb hh;obtain⟨⟨n,ls⟩,G,h⟩:=hh;obtain⟨p,p',rfl⟩:=Dj G;simp only[au]at h;obtain⟨⟨U,L,h4⟩,h5⟩:=h;obtain⟨l,ls,rfl⟩:=Yd h4;obtain⟨e1,e2⟩:=Dd es hc h5;exact yo (a6d hc (m6 U) L e1 e2) rfl
  have q5:∀{bb:Blt}{ty:Str}{T0:String}{x:Ex}{bt bi:Option Bool},(∀b,bt=some b->PySem.W.kitOne X.K (.type "tuple") (.type T0)=some b)->(∀b,bi=some b->PySem.W.kitOne X.K (.type "int") (.type T0)=some b)->(∀d M,MW.qy bb [d] M=MW.isR bt bi M d)->X.mg ty=none->bootBuiltins ty=some (.type T0)->(∀l,Ab T x c l=true->PE X l (tE nm W X.K x))->ar8 c ty a (Ab T x c)=true->Got nm W X a (.blt bb (.cons x .nil)):=λk1 k2 k3 hm hv z0 hi=>by obtain⟨l,p,p1,p2,rfl,L,h4,h5,h6⟩:=ax2 hi;obtain⟨g1,g2⟩:=Gd hc L;obtain⟨g3,g4⟩:=Gd hc h4;exact yo (bb3 k1 k2 k3 g1 (hc.mg (by decide+kernel)) (by decide+kernel) (vd g2).2.2 (vd g2).1 g3 hm hv (vd g4).2.2 (vd g4).1 (z0 l h6) (km h5 _ _) (km rfl _ _) (wj rfl)) rfl
  match b,es,h,Z with
  |.isList,.cons x .nil,h,_=>exact q5 (T0 :="list") (bt:=some false) (bi:=none) (λ_ z=>by cases z;exact Uh _ (by decide+kernel)) (λ_ z=>by cases z) (λ_ _=>rfl) (hc.mg (by decide+kernel)) (by decide+kernel) (λl q=>(jj x hc q).v) h
  |.isTuple,.cons x .nil,h,_=>exact q5 (T0 :="tuple") (bt:=some true) (bi:=some false) (λ_ z=>by cases z;exact afb _ _) (λ_ z=>by cases z;exact Uh _ (by decide+kernel)) (λ_ _=>rfl) (hc.mg (by decide+kernel)) (by decide+kernel) (λl q=>(jj x hc q).v) h
  |.isBool,.cons x .nil,h,_=>exact q5 (T0 :="bool") (bt:=none) (bi:=some false) (λ_ z=>by cases z) (λ_ z=>by cases z;exact Uh _ (by decide+kernel)) (λ_ _=>rfl) (hc.mg (by decide+kernel)) (by decide+kernel) (λl q=>(jj x hc q).v) h
  |.isSeq,.cons x .nil,h,_ =>
   obtain⟨l,p,p1,p2,p3,k0,p4,rfl,L,h4,h5,h6,h7⟩:=ax3 (show a5z c a (Ab T x c)=true from h);obtain⟨g1,g2⟩:=Gd hc L;exact yo (axo (afp (afb _ _) (b:=false) (Uh _ (by decide+kernel))) (afp (a:=false) (b:=false) (Uh _ (by decide+kernel)) (Uh _ (by decide+kernel))) g1 (hc.mg (by decide+kernel)) (by decide+kernel) (vd g2).2.2 (vd g2).1 (Gd hc h4).1 (hc.mg (by decide+kernel)) (Gd hc h5).1 (hc.mg (by decide+kernel)) (jj x hc h7).v (km h6 _ _) (wj rfl)) rfl
  |.isList,.nil,h,Z=>exact Z h|.isTuple,.nil,h,Z=>exact Z h|.isBool,.nil,h,Z=>exact Z h|.isSeq,.nil,h,Z=>exact Z h|.isList,.cons _ (.cons _ _),h,Z=>exact Z h|.isTuple,.cons _ (.cons _ _),h,Z=>exact Z h|.isBool,.cons _ (.cons _ _),h,Z=>exact Z h|.isSeq,.cons _ (.cons _ _),h,Z=>exact Z h|.len,_,h,Z=>exact Z h|.tuple,_,h,Z=>exact Z h|.max,_,h,Z=>exact Z h|.dict,_,h,Z=>exact Z h|.all,_,h,Z=>exact Z h|.Wk,_,h,Z=>exact Z h|.sortI,_,h,Z=>exact Z h|.Uv,_,h,Z=>exact Z h|.Wj,_,h,Z=>exact Z h
 |.bm m o es,c,X,a,hc,h=>by
  replace h:=jb h;obtain⟨⟨lo,n,ap,ls,p⟩,h0,h⟩:=h;cases ar6 h0;simp only[au,cu]at h;obtain⟨⟨⟨G,U⟩,L,h4,zw⟩,h5,h6⟩:=h;obtain⟨l,ls,rfl⟩:=Yd zw;obtain⟨e1,e2⟩:=Dd es hc h6;have e3:=e2;simp only[Af,au]at e3;have few:((backTo p (starEach (l::ls) X.env)).all (λx=>!x.1)&&(backToKw p (keywordEach [] X.env)).all (λx=>x.1.isSome)&&decide ((l::ls).length+([]:List Keyword).length+(if([]:List Keyword).isEmpty then 0 else 1)<30))=true:=by rw[Yb e2];simp[keywordEach,backToKw];simp at L;exact b_ L (by decide)
  have g:=jj o hc h5;cases m with
  |append=>cases G;exact yo (a5e (T :="list") (id :="list.append") (fun ι H M x v S r t=>ty_list S r t) PySem.F.plainAttrs_list PySem.F.slot_list_append PySem.F.type_list_append arc g.v e1 (Hb U) few h4 (km e3.1 _ _) (wj e3.2)) rfl
  |extend=>cases G;exact yo (a5e (T :="list") (id :="list.extend") (fun ι H M x v S r t=>ty_list S r t) PySem.F.plainAttrs_list PySem.F.slot_list_extend PySem.F.type_list_extend ard g.v e1 (Hb U) few h4 (km e3.1 _ _) (wj e3.2)) rfl
  |index=>cases G;exact yo (a5e (T :="list") (id :="list.index") (fun ι H M x v S r t=>ty_list S r t) PySem.F.plainAttrs_list PySem.F.slot_list_index PySem.F.type_list_index (aw2 hc.r8) g.v e1 (Hb U) few h4 (km e3.1 _ _) (wj e3.2)) rfl
  |J9=>cases G;exact yo (bcb (id :="tuple.index") (λx M t=>by cases x with|tup ds=>exact⟨ds,rfl⟩|_=>cases t) (λz=>by cases z) PySem.F.plainAttrs_tuple PySem.F.slot_tuple_index PySem.F.type_tuple_index (art hc.r8) g.v e1 (Hb U) few h4 (km e3.1 _ _) (wj e3.2)) rfl
 |.comp j t it e,c,X,a,hc,h=>by
  replace h:=jb h;obtain⟨⟨zz,gs,sc⟩,G,h⟩:=h;obtain⟨p,rfl⟩:=Yc G;replace h:=jb h;obtain⟨⟨tg,q7,zk,as⟩,U,h⟩:=h;cases z8 U;simp only[au,uh]at h;obtain⟨⟨L,rfl⟩,h4,h5⟩:=h;obtain⟨q1,q2,B,hB,hg,q3,q4⟩:=Sy hc L;cases q2;exact yo (a4v B hc.calm (S8 it hc h4) hg (λC fp s H=>(jj e (hB C fp s H) h5).v) q1 q3 q4) rfl
 |.Bo j t it i e,c,X,a,hc,h=>by
  replace h:=jb h;obtain⟨⟨zz,gs,sc⟩,G,h⟩:=h;obtain⟨p,rfl⟩:=Yc G;replace h:=jb h;obtain⟨⟨tg,q7,zk,as⟩,U,h⟩:=h;cases z8 U;replace h:=jb h;obtain⟨d,h6,h⟩:=h;cases z8 h6;simp only[au]at h;obtain⟨⟨L,h7⟩,h4,h8,h5⟩:=h;obtain⟨q1,q2,B,hB,hg,q3,q4⟩:=Sy hc L;cases q2;exact yo (aqy B hc.calm (S8 it hc h4) hg (λC fp s H=>(jj i (hB C fp s H) h8).q h7) (λC fp s H=>(jj e (hB C fp s H) h5).v) q1 q3 q4) rfl
 |.Wl x y,c,X,a,hc,h=>by
  replace h:=jb h;obtain⟨⟨l0,o,r0⟩,G,h⟩:=h;obtain⟨p,rfl⟩:=ace G;replace h:=jb h;obtain⟨o1,U,h⟩:=h;replace h:=jb h;obtain⟨r1,L,h⟩:=h;cases z8 U;cases z8 L;replace h:=jb h;obtain⟨⟨n,ls⟩,h4,h⟩:=h;replace h:=jb h;obtain⟨⟨m,ms⟩,h5,h⟩:=h;replace h:=jb h;obtain⟨l,h6,h⟩:=h;replace h:=jb h;obtain⟨r,h7,h⟩:=h;cases z8 h6;cases z8 h7;obtain⟨p1,q1,e1⟩:=Dj h4;obtain⟨p2,q2,e2⟩:=Dj h5;have e1:l0=_:=e1;subst e1 e2;simp only[au,cu]at h;obtain⟨⟨⟨rfl,rfl⟩,rfl,h8⟩,⟨h9,qq⟩,qv,q6⟩:=h;obtain⟨g1,g2⟩:=Gd hc h8;have z:=aw0 (nm:=nm) (W:=W) (p1:=p1) (p2:=p2) (q1:=q1) (q2:=q2) hc.r8 g1 (hc.mg (by decide+kernel)) (by decide+kernel) (vd g2).2.2 (vd g2).1 (Oi (jj x hc qv).v Vh (km h9 _ _)) (Oi (jj y hc q6).v Vh (km qq _ _)) (km h9 _ _) (km qq _ _) (wj rfl) (wj rfl);exact⟨a2u z,λ_=>awr (a2v z) λ_ _ _ q=>q,λ_ _ _ z=>by cases z⟩
 |.Mh x y,c,X,a,hc,h=>by
  replace h:=jb h;obtain⟨⟨n0,z1⟩,h0,h⟩:=h;replace h:=jb h;obtain⟨z,zv,h⟩:=h;cases z8 zv;replace h:=jb h;obtain⟨⟨l0,o,r0⟩,G,h⟩:=h;obtain⟨p0,q0,rfl⟩:=Dj h0;obtain⟨pb,rfl⟩:=aj4 G;replace h:=jb h;obtain⟨⟨n,ls⟩,h4,h⟩:=h;replace h:=jb h;obtain⟨⟨m,ms⟩,h5,h⟩:=h;replace h:=jb h;obtain⟨l,h6,h⟩:=h;replace h:=jb h;obtain⟨r,h7,h⟩:=h;cases z8 h6;cases z8 h7;obtain⟨p1,q1,e1⟩:=Dj h4;obtain⟨p2,q2,e2⟩:=Dj h5;have e1:l0=_:=e1;have e2:r0=_:=e2;subst e1 e2;simp only[au,cu]at h;obtain⟨⟨⟨rfl,h8,rfl⟩,rfl,rfl,q8⟩,⟨h9,qq⟩,qv,q6⟩:=h;obtain⟨g1,g2⟩:=Gd hc h8;obtain⟨g3,g4⟩:=Gd hc q8;exact yo (arv hc.r8 g1 (hc.mg (by decide+kernel)) (by decide+kernel) (vd g2).2.2 (vd g2).1 g3 (hc.mg (by decide+kernel)) (by decide+kernel) (vd g4).2.2 (vd g4).1 (Oi (jj x hc qv).v Vh (km h9 _ _)) (Oi (jj y hc q6).v Vh (km qq _ _)) (km rfl _ _) (wj rfl) (km h9 _ _) (wj rfl) (km qq _ _) (wj rfl)) rfl
 |.agp x,c,X,a,hc,h=>by
  obtain⟨l,p,p1,p2,p3,rfl,h5,h6,h7,h8⟩:=ax4 h;obtain⟨g1,g2⟩:=Gd hc h5;obtain⟨g3,g4⟩:=Gd hc h6;exact yo (a5h hc.r8 g1 (hc.mg (by decide+kernel)) (by decide+kernel) (vd g2).2.2 (vd g2).1 g3 (hc.mg (by decide+kernel)) (by decide+kernel) (vd g4).2.2 (vd g4).1
   (Oi (jj x hc h8).v Vh (km h7 _ _)) (km rfl _ _) (wj rfl) (km h7 _ _) (wj rfl)) rfl
theorem Dd:∀(Z:Cv){c:Ctx}{X:Cx}{a:X0},Ed T nm W k c X->Hw T Z c a=true->PA X a (Vu nm W X.K Z)/\Af a=true
 |.nil,c,X,a,hc,h=>by
  cases uh.mp h;exact⟨Vh,rfl⟩
 |.cons e Z,c,X,a,hc,h=>by
  cases a with
  |nil=>cases h
  |cons l L =>
   replace h:(noStar l&&(Ab T e c l&&Hw T Z c L))=true:=h;simp only[au]at h;obtain⟨G,U⟩:=Dd Z hc h.2.2;exact⟨Oi (jj e hc h.2.1).v G (km h.1 _ _),by simp only[Af,au];exact⟨h.1,U⟩⟩
theorem aka:∀(e:OEx){c:Ctx}{X:Cx}{a:Option Expr},Ed T nm W k c X->a6a T e c a=true->PO X a (tO nm W X.K e)
 |.none,c,X,a,hc,h=>by
  cases Option.isNone_iff_eq_none.mp h;exact aw7
 |.some e,c,X,a,hc,h=>by
  replace h:=jb h;obtain⟨l,rfl,h⟩:=h;exact aw8 (jj e hc h).v
theorem S8:∀(it:Ka){c:Ctx}{X:Cx}{Z a:Expr},Ed T nm W k c X->ax5 T it c Z a=true->PI X Z a (tI nm W X.K it)
 |.val e,c,X,Z,a,hc,h=>bbq (jj e hc h).v
 |.Th e,c,X,Z,a,hc,h=>by
  replace h:=jb h;obtain⟨⟨n,ls⟩,G,h⟩:=h;obtain⟨p,p',rfl⟩:=Dj G;replace h:=jb h;obtain⟨l,h2,h⟩:=h;cases z8 h2;simp only[au,cu]at h;obtain⟨⟨rfl,L⟩,U,h5⟩:=h;exact bbr (Gd hc L).1 (hc.mg (by decide+kernel)) (jj e hc h5).v U
 |.enm e,c,X,Z,a,hc,h=>by
  replace h:=jb h;obtain⟨⟨n,ls⟩,G,h⟩:=h;obtain⟨p,p',rfl⟩:=Dj G;replace h:=jb h;obtain⟨l,h2,h⟩:=h;cases z8 h2;simp only[au,cu]at h;obtain⟨⟨h6,rfl,L⟩,U,h5⟩:=h;obtain⟨ts,h7⟩:=p8.mp h6;obtain⟨k0,pt,rfl⟩:=O3 h7;exact bb8 (Gd hc L).1 (hc.mg (by decide+kernel)) (jj e hc h5).v U
 |.zip es,c,X,Z,a,hc,h=>by
  replace h:=jb h;obtain⟨⟨n,ls⟩,G,h⟩:=h;obtain⟨p,p',rfl⟩:=Dj G;simp only[au,cu]at h;obtain⟨⟨h6,rfl,L,U⟩,h5,h7⟩:=h;obtain⟨l,ls,rfl⟩:=Yd U;obtain⟨e1,e2⟩:=Dd es hc h7;obtain⟨ts,h9⟩:=p8.mp h6;obtain⟨k0,pt,rfl⟩:=O3 h9;simp only[Af,au]at e2;obtain⟨f1,f2⟩:=e2;exact bb9 (Gd hc L).1 (hc.mg (by decide+kernel)) e1 (km f1 _ _) (wj f2) h5
end
end
noncomputable def bcn(e:Ex):Option {b:Bool//(∃j t it x,e=.comp j t it x)\/∃j t it i x,e=.Bo j t it i x}:=match e with|.comp ..=>some ⟨true,.inl ⟨_,_,_,_,rfl⟩⟩|.Bo ..=>some ⟨true,.inr ⟨_,_,_,_,_,rfl⟩⟩|_=>none
def a6e(T:Tab)(c:Ctx)(l:Lv)(e:Ex)(Z v:Expr):Bool:=
 match l with
 |.tg t=>(tgB c 0 t Z&&((Uc v&&((Lr Z).isSome||az0 v))||(match t with|.name _=>(afr v).isSome&&(bcn e).isSome|_=>false)))&&Ab T e c v
 |.sub o i=>Br (arz Z) λq=>ab5 q.2&&(Ab T e c v&&(Ab T o c q.1&&Ab T i c q.2))
 |.fld o f=>Br (ar3 Z) λq=>(Uc v&&flB T.Qw f q.2.1)&&(Ab T e c v&&Ab T o c q.1)
noncomputable def bco(a:Stmt):Option (List Expr×Expr):=Option.map Subtype.val (α:={q:List Expr×Expr//∃p,a=.Assign q.1 q.2 p}) (match a with|.Assign t v p=>some ⟨(t,v),p,rfl⟩|_=>none)
noncomputable def bcp(a:Stmt):Option Expr:=Option.map Subtype.val (α:={q:Expr//∃p,a=.Expr q p}) (match a with|.Expr v p=>some ⟨v,p,rfl⟩|_=>none)
noncomputable def bcq(a:Stmt):Option (Expr×List Stmt×List Stmt):=Option.map Subtype.val (α:={q:Expr×List Stmt×List Stmt//∃p,a=.If q.1 q.2.1 q.2.2 p}) (match a with|.If t l r p=>some ⟨(t,l,r),p,rfl⟩|_=>none)
noncomputable def bcr(a:Stmt):Option (Expr×List Stmt×List Stmt):=Option.map Subtype.val (α:={q:Expr×List Stmt×List Stmt//∃p,a=.While q.1 q.2.1 q.2.2 p}) (match a with|.While t l r p=>some ⟨(t,l,r),p,rfl⟩|_=>none)
noncomputable def bcs(a:Stmt):Option (Expr×Expr×List Stmt×List Stmt):=Option.map Subtype.val (α:={q:Expr×Expr×List Stmt×List Stmt//∃p,a=.For q.1 q.2.1 q.2.2.1 q.2.2.2 p}) (match a with|.For t i l r p=>some ⟨(t,i,l,r),p,rfl⟩|_=>none)
noncomputable def bct(a:Stmt):Option (Option Expr):=Option.map Subtype.val (α:={q:Option Expr//∃p,a=.Return q p}) (match a with|.Return v p=>some ⟨v,p,rfl⟩|_=>none)
noncomputable def bcu(a:Stmt):Option Nat:=Option.map Subtype.val (α:={n:Nat//(n=0/\∃p,a=.Break p)\/(n=1/\∃p,a=.Continue p)\/(n=2/\∃p,a=.Pass p)}) (match a with|.Break p=>some ⟨0,.inl ⟨rfl,p,rfl⟩⟩|.Continue p=>some ⟨1,.inr (.inl ⟨rfl,p,rfl⟩)⟩|.Pass p=>some ⟨2,.inr (.inr ⟨rfl,p,rfl⟩)⟩|_=>none)
def ax6(h:bco a=some (t,v)):∃p,a=.Assign t v p:=(Yw h :)
def ax7(h:bcp a=some v):∃p,a=.Expr v p:=(Yw h :)
def ax8(h:bcq a=some (t,l,r)):∃p,a=.If t l r p:=(Yw h :)
def ax9(h:bcr a=some (t,l,r)):∃p,a=.While t l r p:=(Yw h :)
def aya(h:bcs a=some (t,i,l,r)):∃p,a=.For t i l r p:=(Yw h :)
def ayb(h:bct a=some v):∃p,a=.Return v p:=(Yw h :)
def ayc(h:bcu a=some n):(n=0/\∃p,a=.Break p)\/(n=1/\∃p,a=.Continue p)\/(n=2/\∃p,a=.Pass p):=(Yw h :)
mutual
def a6f(T:Tab):Bx->Ctx->Stmt->Bool
 |.asg l e,c,a=>Br (bco a) λq=>Br (J0 q.1) λt=>a6e T c l e t q.2
 |.expr e,c,a=>Br (bcp a) λv=>Uc v&&Ab T e c v
 |.iff t x y,c,a=>Br (bcq a) λq=>Sw q.1&&(Ab T t c q.1&&(Vm T x c q.2.1&&Vm T y c q.2.2))
 |.whl t x,c,a=>Br (bcr a) λq=>(Sw q.1&&q.2.2.isEmpty)&&(Ab T t c q.1&&Vm T x c q.2.1)
 |.for_ t it x,c,a=>Br (bcs a) λq=>(tgB c 0 t q.1&&(G6 q.2.1&&q.2.2.2.isEmpty))&&(ax5 T it c q.1 q.2.1&&Vm T x c q.2.2.1)
 |.ret e,c,a=>Br (bct a) λv=>Br v (Ab T e c)
 |.cont,_,a=>decide (bcu a=some 1)|.raise,_,_=>true
def Vm(T:Tab):m5->Ctx->List Stmt->Bool
 |.nil,_,a=>a.isEmpty|.cons s r,c,a=>match a with|st::rest=>a6f T s c st&&Vm T r c rest|_=>false
end
noncomputable def swB(c:Ctx)(t:Str)(pt Z:Pos)(G:Scope):Bool:=(c.sc.lookup t==some NameKind.local&&pt.line==Z.line)&&!(G.names.any λy=>y.1==t&&(y.2==.local||y.2==.cell))
def ahx(Z:Ed T nm W k c X):swapsWith (.ListComp elt gs sc vp) (some (.Name t pt)) l X.env=pure (swB c t pt vp sc):=by
 have b:X.env.blockKind=.function:=by unfold Env.blockKind;rw[Z.kd];rfl
 show(pure (X.env.blockKind==.function&&X.env.kindOf t==some .local&&pt.line==vp.line&&!(sc.names.any λ(n,k)=>n==t&&(k==.local||k==.cell))):Sem Bool)=_;rw[b];unfold Env.kindOf;rw[Z.sc];simp[swB]
def asb(Z:Ed T nm W k c X)(ht:tgB c 0 (.name i) tg=true)(hv:(afr v).isSome=true)(hw:(bcn e).isSome=true)(h:Ab T e c v=true):PS X (.Assign [tg] v p) (tS nm W X.K (.asg (.tg (.name i)) e)):=by
 have nd:X.N.Nodup:=by rw[Z.N];exact Z.nd
 obtain⟨⟨G,gs,sc⟩,hq⟩:=p8.mp hv;obtain⟨y,py,rfl,hy,_⟩:=ahv (nm:=nm) (W:=W) (k:=k) (T:=T) Z ht;obtain⟨⟨_,co⟩,_⟩:=p8.mp hw;obtain⟨vp,rfl⟩:=Yc hq;have L:=λl=>ahx (T:=T) (nm:=nm) (W:=W) (k:=k) Z (elt:=G) (gs:=gs) (sc:=sc) (vp:=vp) (pt:=py) (t:=y) (l:=l)
 cases hs:swB c y py vp sc with
 |false =>
  rw[hs]at L;exact aqv (jj e Z h).v (aj8 Z ht).1 (L p.line) rfl rfl
 |true =>
  rw[hs]at L;simp only[swB,au]at hs;have hl:X.env.scope.names.lookup y=some .local:=by rw[Z.sc];have:=hs.1.1;simpa using this
  rcases co with⟨j,t,it,x,rfl⟩|⟨j,t,it,i',x,rfl⟩
  .replace h:=jb h
   obtain⟨⟨q0,qq,qk⟩,h1,h⟩:=h;cases h1;replace h:=jb h;obtain⟨⟨tg,U,qv,as⟩,h2,h⟩:=h;cases z8 h2;simp only[au,uh]at h;obtain⟨⟨h3,rfl⟩,h4,h5⟩:=h;obtain⟨q1,q2,B,hB,hg,q3,q4⟩:=Sy Z h3;cases q2;exact amb B Z.calm (S8 it Z h4) hg (λC fp s H=>(jj x (hB C fp s H) h5).v) q1 q3 q4 nd hy hl (L p.line)
  .replace h:=jb h
   obtain⟨⟨q0,qq,qk⟩,h1,h⟩:=h;cases h1;replace h:=jb h;obtain⟨⟨tg,U,qv,as⟩,h2,h⟩:=h;cases z8 h2;replace h:=jb h;obtain⟨d,h6,h⟩:=h;cases z8 h6;simp only[au]at h;obtain⟨⟨h3,h7⟩,h4,h8,h5⟩:=h;obtain⟨q1,q2,B,hB,hg,q3,q4⟩:=Sy Z h3;cases q2;exact ae1 B Z.calm (S8 it Z h4) hg (λC fp s H=>(jj i' (hB C fp s H) h8).q h7) (λC fp s H=>(jj x (hB C fp s H) h5).v) q1 q3 q4 nd hy hl (L p.line)
section
variable{T:Tab}{nm:Nm}{W:G9}{k:Nat}
def a6g{A:Around}{k:Nat}(Z:zp k A):A.units+2<cLine:=Bd (Nat.add_le_add_left (by decide:2<=64) _) Z.units
def ayd(G:Ed T nm W k c X)(h:a6e T c l e tg v=true):PS X (.Assign [tg] v p) (tS nm W X.K (.asg l e)):=by
 cases l with
 |tg t =>
  simp only[a6e,au,Bool.or_eq_true]at h;obtain⟨⟨h1,h2⟩,U⟩:=h;rcases h2 with⟨Z,L⟩|Z
  .have g:=aj8 (nm:=nm) G h1
   have sh:(∃n q,tg=.Name n q)\/∃ts k0 q,tg=.Tuple ts k0 q:=by
    cases t with
    |name i =>
     obtain⟨n,z1,_⟩:=jb h1;exact .inl ⟨n,Ge z1⟩
    |names is =>
     obtain⟨ts,z1,_⟩:=jb h1;exact .inr ⟨ts,O3 z1⟩
   rcases sh with⟨n,q,rfl⟩|⟨ts,k0,q,rfl⟩
   .exact aqv (jj e G U).v g.1 (Xx Z _ _ _) rfl rfl
   .have w:az0 v=true:=by
     rcases L with L|L
     .cases L
     .exact L
    have w2:swappedStores [.Tuple ts k0 q] v X.env=pure none:=by cases v<;>first|rfl|(cases w;done)
    exact aqv (jj e G U).v g.1 (Xx Z _ _ _) w2 rfl
  .cases t with
   |name i=>rw[au]at Z;exact asb G h1 Z.1 Z.2 U|names _=>cases Z
 |sub o i =>
  replace h:=jb (show Br (arz tg) _=true from h);obtain⟨⟨lo,li⟩,h0,h⟩:=h;obtain⟨p',rfl⟩:=acf h0;simp only[au]at h;obtain⟨h2,U,Z,L⟩:=h;refine aq5 (a6g G.room) (jj e G U).v (jj o G Z).v (jj i G L).v λv=>?_
  cases li<;>first|rfl|(cases h2;done)
 |fld o f =>
  replace h:=jb (show Br (ar3 tg) _=true from h);obtain⟨⟨lo,n,p'⟩,h0,h⟩:=h;cases acg h0;simp only[au]at h;obtain⟨⟨h1,h2⟩,U,Z⟩:=h;obtain⟨t1,t2⟩:=G.tab.fl _ _ (m6 h2);exact aq6 t1 t2 (jj e G U).v (jj o G Z).v h1
mutual
theorem aye:∀(s:Bx){c:Ctx}{X:Cx}{a:Stmt},Ed T nm W k c X->c.fn=true->a6f T s c a=true->PS X a (tS nm W X.K s)
 |.asg l e,c,X,a,hc,hf,h=>by
  replace h:=jb h;obtain⟨⟨ts,v⟩,Z,h⟩:=h;obtain⟨p,rfl⟩:=ax6 Z;replace h:=jb h;obtain⟨t,G,h⟩:=h;cases z8 G;exact ayd hc h
 |.expr e,c,X,a,hc,hf,h=>by
  replace h:=jb h;obtain⟨v,Z,h⟩:=h;obtain⟨p,rfl⟩:=ax7 Z;simp only[au]at h;exact a4p (jj e hc h.2).v (Oj h.1 _ _ _)
 |.iff t x y,c,X,a,hc,hf,h=>by
  replace h:=jb h;obtain⟨⟨q,l,r⟩,Z,h⟩:=h;obtain⟨p,rfl⟩:=ax8 Z;simp only[au]at h;exact bbm ((jj t hc h.2.1).q h.1) (J1 x hc hf h.2.2.1) (J1 y hc hf h.2.2.2)
 |.whl t x,c,X,a,hc,hf,h=>by
  replace h:=jb h;obtain⟨⟨q,l,r⟩,Z,h⟩:=h;obtain⟨p,rfl⟩:=ax9 Z;simp only[au,uh]at h;obtain⟨⟨G,rfl⟩,L,U⟩:=h;exact bbn (hc.fnl hf).2 ((jj t hc L).q G) (J1 x hc hf U)
 |.for_ t it x,c,X,a,hc,hf,h=>by
  replace h:=jb h;obtain⟨⟨tg,qq,l,r⟩,Z,h⟩:=h;obtain⟨p,rfl⟩:=aya Z;simp only[au,uh]at h;obtain⟨⟨G,L,rfl⟩,U,h5⟩:=h;exact bbp (hc.fnl hf).2 hc.calm (S8 it hc U) (aj8 hc G).1 (J1 x hc hf h5) L
 |.ret e,c,X,a,hc,hf,h=>by
  replace h:=jb h;obtain⟨v,Z,h⟩:=h;obtain⟨p,rfl⟩:=ayb Z;replace h:=jb h;obtain⟨w,rfl,h⟩:=h;exact bbl (jj e hc h).v
 |.cont,c,X,a,hc,hf,h=>by
  rcases ayc (m6 h)with⟨z,_⟩|⟨_,p,rfl⟩|⟨z,_⟩
  .cases z
  .exact a4q
  .cases z
 |.raise,c,X,a,hc,hf,h=>axm
theorem J1:∀(s:m5){c:Ctx}{X:Cx}{a:List Stmt},Ed T nm W k c X->c.fn=true->Vm T s c a=true->R9 X a (tSs nm W X.K s)
 |.nil,c,X,a,hc,hf,h=>by
  cases uh.mp h;exact a4r
 |.cons s r,c,X,a,hc,hf,h=>by
  cases a with
  |nil=>cases h
  |cons G Z =>
   replace h:(a6f T s c G&&Vm T r c Z)=true:=h;simp only[au]at h;exact awv (aye s hc hf h.1) (J1 r hc hf h.2)
end
end
structure Def where
 x:Str
 qual:Str
 N:List Str
 ps:List Str
noncomputable def scB(N G:X9)(Z:Scope):Bool:=
 (decide (Z.kind=.function)&&(!Z.isCoroutine&&!Z.isGenerator))&&((decide N.Nodup&&decide (N.take G.length=G)) &&
 (G.all (λx=>Z.names.lookup x==some .local||Z.names.lookup x==some .cell)&&Z.names.all (λy=>!(y.2==NameKind.free))))
def a6h(h:scB N ps sc=true):V6 N ps sc:=by simp only[scB,au,cu,Bool.not_eq_true',ik]at h;obtain⟨⟨Z,h2,U⟩,⟨G,h5⟩,L,h7⟩:=h;exact⟨Z,h2,U,G,h5,λx m=>by have:=L x m;simpa using this,λy m=>by have:=h7 y m;simpa using this⟩
def ams(T:Tab)(d:Def)(F:MW.Fn)(Z:Stmt):Bool:=
 (scB d.N d.ps (Ar Z)&&(decide (F.np=d.ps.length)&&decide (F.ns=d.N.length)))&&Vm T F.body ⟨d.N,(Ar Z).names,true⟩ (Dw Z)
set_option tactic.hygienic true in
def ayf{F:MW.Fn}(h:F.run W ds M=.ok d U):ds.length=F.np/\∃Y Z,F.body.den W (ds.map some++List.replicate (F.ns-F.np) none) M=.ok (Y,Z) U/\(Y=.ret d\/(Y=.next/\d=.non)):=by
 unfold MW.Fn.run at h;split at h
 .rename_i J
  obtain⟨⟨Y,Z⟩,C,G,e⟩:=fj h;refine⟨J,Y,Z,?_⟩;cases Y with
  |ret z=>cases e;exact⟨G,.inl rfl⟩|next=>cases e;exact⟨G,.inr ⟨rfl,rfl⟩⟩|brk=>cases e|cont=>cases e
 .cases h
def a6i{Z:MW.Prog}(U:Fun K d.x d.qual st f fd)(hF:Z.fns[i]?=some F)(h:ams T d F st=true)(hT:arx T nm ⟨Z.call n,Z.cls⟩ k P w K mg base):Ff P w K mg base CX0 (k+17) f fd d.ps (spF nm ⟨Z.call (n+1),Z.cls⟩ K F.np i):=by
 simp only[ams,au,cu]at h;obtain⟨⟨h1,h2,h3⟩,h4⟩:=h;have S:=a6h h1;have go:∀L M d' M',MW.G9.call ⟨Z.call (n+1),Z.cls⟩ i L M=.ok d' M'->F.run ⟨Z.call n,Z.cls⟩ L M=.ok d' M':=λL M d' M' e=>by have e:Z.call (n+1) i L M=.ok d' M':=e;unfold MW.Prog.call at e;rw[hF]at e;exact e
 refine U.ok (k:=k+16) S (λvs H Q E ⟨ι,M,L,d',M',_,r,l,e,_⟩=>by rw[<-r.length,l,h2]) (λqv A G s H vs Q E hr z_=>?_);obtain⟨ι,M,L,d',M',SM,r,l,e,q⟩:=z_;have hc:Ed T nm ⟨Z.call n,Z.cls⟩ k ⟨d.N,(Ar st).names,true⟩ (ahm CX0 P w K mg base d.N d.qual (Ar st) f qv A G s H E).nox:=
  ⟨rfl,S.nd,rfl,S.kind,rfl,hr,λ_=>⟨λ_=>rfl,PassesOwn.never⟩,hT⟩
 refine⟨_,J1 F.body hc rfl h4,?_⟩;obtain⟨hl,fl,qk,e1,e2⟩:=ayf (go _ _ _ _ e);refine⟨ι,_,M,fl,qk,M',SM,?_,e1,λqq H' q0 le S' R'=>?_⟩
 .unfold L2.start
  exact(u5.aqr r).append (u5.aqq _ (by rw[List.length_replicate,h3,<-r.length,l]))
 .rcases e2 with rfl|⟨rfl,rfl⟩
  .exact λv rv=>q qq H' v le S' rv
  .exact q qq H' _ le S' .non
theorem akb{nm:Nm}{P:Program}{w:World}{K:Fg}{mg:Zs}{base:Heap}{IR:MW.Prog}{T:Tab}{D:Nat->Def}{st:Nat->Stmt}{fa:Nat->Addr}{fd:Nat->FuncData}
 (U:∀i,i<IR.fns.length->Fun K (D i).x (D i).qual (st i) (fa i) (fd i)) (h:∀i F,IR.fns[i]?=some F->ams T (D i) F (st i)=true)
 (G:∀n,(∀i F,IR.fns[i]?=some F->Ff P w K mg base CX0 (17*n) (fa i) (fd i) (D i).ps (spF nm ⟨IR.call n,IR.cls⟩ K F.np i))->arx T nm ⟨IR.call n,IR.cls⟩ (17*n) P w K mg base) :
 ∀n i F,IR.fns[i]?=some F->Ff P w K mg base CX0 (17*n) (fa i) (fd i) (D i).ps (spF nm ⟨IR.call n,IR.cls⟩ K F.np i)
 |0,i,F,hF=>⟨(λvs H Q E ⟨ι,M,ds,d',M',_,r,l,e,_⟩=>by cases e),λA Z s H L us vs Q E hr he hb hv ⟨ι,M,ds,d',M',_,r,l,e,_⟩=>by cases e⟩
 |n+1,i,F,hF=>a6i (U i (ak.mp hF).1) hF (h i F hF) (G n (akb U h G n))
noncomputable def a6j(s:Str):Bool:=s.cps[0]?==some 0
def asd(Z:X9):Bool:=decide Z.Nodup&&Z.all λs=>!a6j s
noncomputable def afv(Z:X9)(i:Nat):Str:=match Z[i]? with|some s=>s|none=>⟨#[0,0,i]⟩
def ase(h:asd Qw=true)(i j:Nat)(e:afv Qw i=afv Qw j):i=j:=by
 simp only[asd,au,cu,ik]at h;have Z:∀k,a6j ⟨#[0,0,k]⟩=true:=λk=>rfl
 unfold afv at e;cases hi:Qw[i]? with
 |some a =>
  rw[hi]at e;cases hj:Qw[j]? with
  |some b =>
   rw[hj]at e;have e:a=b:=e;subst e;obtain⟨L,U⟩:=ak.mp hi;obtain⟨l2,G⟩:=ak.mp hj;exact(yr h.1).mp (U.trans G.symm)
  |none =>
   rw[hj]at e;have e:a=⟨#[0,0,j]⟩:=e;have:=h.2 a (az hi);rw[e,Z]at this;cases this
 |none =>
  rw[hi]at e;cases hj:Qw[j]? with
  |some b =>
   rw[hj]at e;have e:(⟨#[0,0,i]⟩:Str)=b:=e;have:=h.2 b (az hj);rw[<-e,Z]at this;cases this
  |none =>
   rw[hj]at e;have e:(⟨#[0,0,i]⟩:Str)=⟨#[0,0,j]⟩:=e;simpa using e
def a6k(Z:List (Option Addr))(G:X9)(h:asd G=true):Nm:=⟨λc=>(Z[c]?).join,afv G,ase h⟩
def asf(Z:X9)(x:Str):Bool:=!(Z.contains x)&&!a6j x
def ash(h:asf Qw x=true)(i:Nat):afv Qw i≠x:=λe=>by
 simp only[asf,au,Bool.not_eq_true']at h;unfold afv at e;cases hi:Qw[i]? with
 |some a =>
  rw[hi]at e;have e:a=x:=e;rw[<-e]at h;have:=List.contains_iff_mem.mpr (az hi);rw[this]at h;cases h.1
 |none =>
  rw[hi]at e;have e:(⟨#[0,0,i]⟩:Str)=x:=e;rw[<-e]at h;cases h.2
section
variable(K:Fg)(mg:Zs)
def ach:List Def->List Stmt->List Addr->List FuncData->Prop
 |d::ds,s::ss,a::as,f::fs=>(Fun K d.x d.qual s a f/\Binds K f d.ps [])/\ach ds ss as fs|[],[],[],[]=>True|_,_,_,_=>False
def Ui:List (Option (Str×Nat))->List Addr->Prop
 |some p::r,a::as=>mg p.1=some (.ref a)/\Ui r as|none::r,_::as=>Ui r as|_,_=>True
def afw(C:Addr)(Z:List (Str×Nat))(G:Xt):List (Nat×Nat)->Prop
 |q::r=>(∃p a,Z[q.1]?=some p/\G[q.2]?=some a/\Meth K C p.1 a)/\afw C Z G r|[]=>True
def aci(C:Addr):List Str->Prop
 |x::r=>Hu K C x/\aci C r|[]=>True
structure ClF(T:Tab)(Ly:Xt)(x:Str)(C:Addr)(cl:MW.Cl):Prop where
 mg:mg x=some (.ref C)
 cs:Cls K C
 ini:∃f,Ly[cl.init]?=some f/\Mk K C f
 me:afw K C T.mts Ly cl.meths
 na:aci K C T.Qw
def Oo(T:Tab)(Z:Xt):List (Option (Str×Nat))->List (Option Addr)->List MW.Cl->Prop
 |some p::r,some C::cs,cl::cls=>ClF K mg T Z p.1 C cl/\Oo T Z r cs cls|none::r,none::cs,_::cls=>Oo T Z r cs cls|[],[],[]=>True|_,_,_=>False
def acj:List (Str×Int)->Prop
 |p::r=>(∃t,mg p.1=some (.int p.2 t))/\acj r|[]=>True
def AllB:List Str->Prop
 |x::r=>mg x=none/\AllB r|[]=>True
end
theorem ach.get{K:Fg}:∀{Z:List Def}{G:List Stmt}{as:Xt}{fs:List FuncData}{i:Nat}{d:Def},ach K Z G as fs->Z[i]?=some d->∃s a f,G[i]?=some s/\as[i]?=some a/\fs[i]?=some f/\Fun K d.x d.qual s a f/\Binds K f d.ps []
 |d::Z,s::G,a::as,f::fs,0,d',h,e=>by cases e;exact⟨s,a,f,rfl,rfl,rfl,h.1⟩
 |d::Z,s::G,a::as,f::fs,i+1,d',h,e=>by
  obtain⟨U,a',f',L,h2,h3,h4⟩:=ach.get (i:=i) h.2 (by simpa using e);exact⟨U,a',f',by simpa using L,by simpa using h2,by simpa using h3,h4⟩
theorem Ui.get{mg:Zs}:∀{l:List (Option (Str×Nat))}{as:Xt}{i:Nat}{p:Str×Nat}{a:Addr},Ui mg l as->l[i]?=some (some p)->as[i]?=some a->mg p.1=some (.ref a)
 |some q::l,b::as,0,p,a,h,e,e2=>by cases e;cases e2;exact h.1|none::l,b::as,0,p,a,h,e,e2=>by cases e|some q::l,b::as,i+1,p,a,h,e,e2=>Ui.get (i:=i) h.2 (by simpa using e) (by simpa using e2)|none::l,b::as,i+1,p,a,h,e,e2=>Ui.get (i:=i) (l:=l) (as:=as) h (by simpa using e) (by simpa using e2)
theorem afw.get{K:Fg}{C:Addr}{Z:List (Str×Nat)}{G:Xt}:∀{l:List (Nat×Nat)}{q:Nat×Nat},afw K C Z G l->q∈l->∃p a,Z[q.1]?=some p/\G[q.2]?=some a/\Meth K C p.1 a
 |q'::l,q,h,m=>by
  rcases cj.mp m with z|z
  .rw[z];exact h.1
  .exact afw.get h.2 z
theorem aci.get{K:Fg}{C:Addr}:∀{l:X9}{x:Str},aci K C l->x∈l->Hu K C x
 |y::l,x,h,m=>by
  rcases cj.mp m with z|z
  .rw[z];exact h.1
  .exact aci.get h.2 z
theorem Oo.get{K:Fg}{mg:Zs}{T:Tab}{Ly:Xt}:∀{l:List (Option (Str×Nat))}{cs:List (Option Addr)}{cls:List MW.Cl}{c:Nat}{p:Str×Nat},Oo K mg T Ly l cs cls->l[c]?=some (some p)->∃C Z,cs[c]?=some (some C)/\cls[c]?=some Z/\ClF K mg T Ly p.1 C Z
 |some q::l,some C::cs,Z::cls,0,p,h,e=>by cases e;exact⟨C,Z,rfl,rfl,h.1⟩
 |some q::l,some C::cs,Z::cls,c+1,p,h,e=>by
  obtain⟨L,Zc,G,h2,U⟩:=Oo.get (c:=c) h.2 (by simpa using e);exact⟨L,Zc,by simpa using G,by simpa using h2,U⟩
 |none::l,none::cs,Z::cls,0,p,h,e=>by cases e
 |none::l,none::cs,Z::cls,c+1,p,h,e=>by
  obtain⟨L,Zc,G,h2,U⟩:=Oo.get (l:=l) (cs:=cs) (cls:=cls) (c:=c) h (by simpa using e);exact⟨L,Zc,by simpa using G,by simpa using h2,U⟩
theorem Oo.at{K:Fg}{mg:Zs}{T:Tab}{Z:Xt}:∀{l:List (Option (Str×Nat))}{cs:List (Option Addr)}{cls:List MW.Cl}{c:Nat}{C:Addr},Oo K mg T Z l cs cls->cs[c]?=some (some C)->Cls K C/\aci K C T.Qw
 |some q::l,some C::cs,cl::cls,0,p,h,e=>by cases e;exact⟨h.1.cs,h.1.na⟩|some q::l,some C::cs,cl::cls,c+1,p,h,e=>Oo.at (c:=c) h.2 (by simpa using e)|none::l,none::cs,cl::cls,0,p,h,e=>by cases e|[],[],_,_,_,_,e=>by simp at e|[],_::_,[],_,_,h,_=>h.elim|[],_::_,_::_,_,_,h,_=>h.elim|none::l,none::cs,cl::cls,c+1,p,h,e=>Oo.at (l:=l) (cs:=cs) (cls:=cls) (c:=c) h (by simpa using e)
theorem acj.get{mg:Zs}:∀{l:List (Str×Int)}{x:Str}{i:Int},acj mg l->(x,i)∈l->∃t,mg x=some (.int i t)
 |q::l,x,i,h,m=>by
  rcases cj.mp m with z|z
  .rw[<-z]at h;exact h.1
  .exact acj.get h.2 z
theorem AllB.get{mg:Zs}:∀{l:X9}{x:Str},AllB mg l->x∈l->mg x=none
 |q::l,x,h,m=>by
  rcases cj.mp m with z|z
  .rw[z];exact h.1
  .exact AllB.get h.2 z
def ayg(T:Tab):List MW.Fn->List Def->List Stmt->Bool
 |F::Fs,d::ds,s::ss=>ams T d F s&&ayg T Fs ds ss|[],[],[]=>true|_,_,_=>false
noncomputable def npB(Z:List MW.Fn)(f n:Nat):Bool:=match Z[f]? with|some F=>F.np==n|none=>false
def tfB(Z:List MW.Fn)(l:List (Option (Str×Nat))):Bool:=l.zipIdx.all λq=>match q.1 with|some p=>npB Z q.2 p.2|none=>true
def tcB(Z:MW.Prog)(l:List (Option (Str×Nat))):Bool:=l.zipIdx.all λq=>match q.1 with|some p=>(match Z.cls[q.2]? with|some G=>npB Z.fns G.init (p.2+1)|none=>false)|none=>true
noncomputable def bh9(Z:List MW.Cl)(m c f:Nat):Bool:=Z.zipIdx.all λq=>match q.1.meths.lookup m with|none=>true|some g=>q.2==c&&g==f
def tmB(G:MW.Prog)(T:Tab)(mcs:List (Nat×Nat)):Bool:=T.mts.zipIdx.all λq=>match mcs[q.2]? with
 |some Z=>(bh9 G.cls q.2 Z.1 Z.2&&(npB G.fns Z.2 (q.1.2+1)&&asf T.Qw q.1.1))&&((match T.cls[Z.1]? with|some (some _)=>true|_=>false)&&(match G.cls[Z.1]? with|some U=>U.meths.lookup q.2==some Z.2|none=>false))
 |none=>false
def Kz{Z:Type}{l:List Z}{g:Z×Nat->Bool}(h:l.zipIdx.all g=true){x:Z}(e:l[i]?=some x):g (x,i)=true:=by rw[ik]at h;exact h (x,i) (by rw[v8];exact⟨i,by rw[zc,e];simp⟩)
set_option tactic.hygienic true in
def ahy(h:npB fns f n=true):∃F,fns[f]?=some F/\F.np=n:=by
 unfold npB at h;split at h
 .rename_i F e;exact⟨F,e,eq_of_beq h⟩
 .cases h
theorem Ye{T:Tab}:∀{G:List MW.Fn}{Z:List Def}{U:List Stmt}{i:Nat}{F:MW.Fn},ayg T G Z U=true->G[i]?=some F->∃d s,Z[i]?=some d/\U[i]?=some s/\ams T d F s=true
 |F::G,d::Z,s::U,0,F',h,e=>by
  replace h:=Bool.and_eq_true_iff.mp h;cases e;exact⟨d,s,rfl,rfl,h.1⟩
 |F::G,d::Z,s::U,i+1,F',h,e=>by
  replace h:=Bool.and_eq_true_iff.mp h;obtain⟨d',L,h1,h2,h3⟩:=Ye (i:=i) h.2 (by simpa using e);exact⟨d',L,by simpa using h1,by simpa using h2,h3⟩
 |[],_,_,_,_,_,e=>by simp at e|_::_,[],_,_,_,h,_=>by cases h|_::_,_::_,[],_,_,h,_=>by cases h
set_option tactic.hygienic true in
def a6l(qk:asd T.Qw=true)(hP:ayg T IR.fns Ds ss=true)(h1:tfB IR.fns T.fns=true)(h2:tcB IR T.cls=true)(h3:tmB IR T mcs=true)(aF:ach K Ds ss U fds)(aG:Ui mg T.fns U)(aC:Oo K mg T U T.cls cas IR.cls)(aV:acj mg T.axw)(aB:AllB mg Om)(hF:IR.fns[i]?=some F) :
 ∃d a f,Ds[i]?=some d/\U[i]?=some a/\fds[i]?=some f/\Binds K f d.ps []/\Ff P w K mg base CX0 (17*n) a f d.ps (spF (a6k cas T.Qw qk) ⟨IR.call n,IR.cls⟩ K F.np i):=by
 let dd:Def:=⟨Str.empty,Str.empty,[],[]⟩
 let sd:Stmt:=.Pass ⟨0,0,0,0⟩
 obtain⟨d,s,g1,g2,g3⟩:=Ye hP hF;have all:∀(i:Nat)(F:MW.Fn),IR.fns[i]?=some F->∃d s a f,Ds[i]?=some d/\ss[i]?=some s/\U[i]?=some a/\fds[i]?=some f/\Fun K d.x d.qual s a f/\Binds K f d.ps []/\ams T d F s=true:=λi F e=>by
  refine hG λ_ _k=>?_
  obtain⟨d,s,g1,g2,g3⟩:=Ye hP e;obtain⟨s',a,f,Z,S,Y,L,u⟩:=aF.get g1;rw[g2]at Z;cases Z;apply _k;exact⟨d,s,a,f,g1,g2,S,Y,L,u,g3⟩
 have df:∀{j:Nat}{a:Addr}{f:FuncData}{d:Def},U[j]?=some a->fds[j]?=some f->Ds[j]?=some d->(U[j]?).getD 0=a/\Ds[j]?.getD dd=d:=λJ R e3=>⟨by rw[J];rfl,by rw[e3];rfl⟩
 obtain⟨qv,q7⟩:∃qv:FuncData,True:=by obtain⟨s',a,f,_⟩:=aF.get g1;exact⟨f,trivial⟩
 have q0:=akb (nm:=a6k cas T.Qw qk) (P:=P) (w:=w) (K:=K) (mg:=mg) (base:=base) (IR:=IR) (T:=T) (D:=λi=>Ds[i]?.getD dd) (st:=λi=>ss[i]?.getD sd) (fa:=λi=>(U[i]?).getD 0) (fd:=λi=>(fds[i]?).getD qv)
  (λi hi=>by
   refine hG λ_ _k=>?_
   obtain⟨d,s,a,f,Z,S,Y,L,u,k6,k7⟩:=all i IR.fns[i] (by simp[hi]);apply _k;rw[Z,S,Y,L];exact u)
  (λi F e=>by
   refine hG λ_ _k=>?_
   obtain⟨d,s,a,f,Z,S,Y,L,u,k6,k7⟩:=all i F e;apply _k;rw[Z,S];exact k7)
  (λn G=>?_) n i F hF
 .refine hG λ_ _k=>?_
  obtain⟨d',s',a,f,Z,S,Y,L,u,k6,k7⟩:=all i F hF;apply _k;refine⟨d',a,f,Z,Y,L,k6,?_⟩;have:=q0;rw[Z,Y,L]at this;exact this
 ·
  have qq:∀{j:Nat}{F:MW.Fn}{a:Addr},IR.fns[j]?=some F->U[j]?=some a->∃(f:FuncData)(d:Def),Binds K f d.ps []/\Ff P w K mg base CX0 (17*n) a f d.ps (spF (a6k cas T.Qw qk) ⟨IR.call n,IR.cls⟩ K F.np j)/\PySem.W.keepIn K (.ref a)=true:=fun{j F a} J R=>by
   refine hG λ_ _k=>?_
   obtain⟨d,s,a',f,Z,S,Y,L,u,k6,k7⟩:=all j F J;rw[R]at Y;cases Y;have g:=G j F J;rw[Z,R,L]at g;apply _k;exact⟨f,d,k6,g,u.kp⟩
  have addr:∀{j:Nat}{F:MW.Fn},IR.fns[j]?=some F->∃a,U[j]?=some a:=fun{j F} e=>by
   refine hG λ_ _k=>?_
   obtain⟨d,s,a',f,Z,S,Y,_⟩:=all j F e;apply _k;exact⟨a',Y⟩
  refine⟨λf x m e=>?_,λc x m e=>?_,λm x j e=>?_,λf x e=>?_,λx i m=>aV.get m,λx m=>aB.get m⟩
  .refine hG λ_ _k=>?_
   obtain⟨F,J,R⟩:=ahy (Kz h1 e);obtain⟨a,e3⟩:=addr J;obtain⟨fd,d,b,g,kp⟩:=qq J e3;rw[R]at g;apply _k;exact⟨a,fd,d.ps,g,aG.get e e3,kp,b⟩
  .refine hG λ_ _k=>?_
   obtain⟨C,cl,q1,q2,q3⟩:=aC.get e;have z:=Kz h2 e;simp only[q2]at z;obtain⟨F,J,R⟩:=ahy z;obtain⟨f,f1,f2⟩:=q3.ini;obtain⟨fd,d,b,g,kp⟩:=qq J f1;rw[R]at g;apply _k;exact⟨C,f,fd,d.ps,cl,f2,g,q3.mg,b,q2,by show(cas[c]?).join=some C;rw[q1];rfl⟩
  .have z:=Kz h3 e
   simp only at z;split at z
   .rename_i cf q8
    simp only[au]at z;refine hG λ_ _k=>?_
    obtain⟨⟨z1,z2,z3⟩,z4,z5⟩:=z;obtain⟨F,J,R⟩:=ahy z2;apply _k;split at z4
    .rename_i p hp
     refine hG λ_ _k=>?_
     obtain⟨C,cl,q1,q2,q3⟩:=aC.get hp;rw[q2]at z5;simp only at z5;have mem:(m,cf.2)∈cl.meths:=mem_of_lookup (eq_of_beq z5);obtain⟨p',a,r1,r2,r3⟩:=q3.me.get mem;rw[e]at r1;cases r1;obtain⟨fd,d,b,g,kp⟩:=qq J r2;rw[R]at g;apply _k;refine⟨C,a,fd,d.ps,cf.2,q3.cs,r3,g,b,λc' Zc q5 g' q4=>?_,ash z3⟩;have y:=Kz z1 q5;simp only[q4,au]at y;have y1:c'=cf.1:=eq_of_beq y.1;exact⟨by show(cas[c']?).join=some C;rw[y1,q1];rfl,eq_of_beq y.2⟩
    .cases z4
   .cases z
  .refine⟨by show x=afv T.Qw f;unfold afv;rw[e],λc C hC=>?_⟩
   have hC:(cas[c]?).join=some C:=hC;have q6:cas[c]?=some (some C):=by
    cases q:cas[c]? with
    |none=>rw[q]at hC;cases hC
    |some o=>rw[q]at hC;cases o with
     |none=>cases hC|some C'=>cases hC;rfl
   obtain⟨y1,y2⟩:=aC.at q6;exact⟨y1,y2.get (az e)⟩
def fN:ach K [] [] [] []:=trivial
def gN:Ui mg [] as:=trivial
def gS(h:mg p.1=some (.ref a))(t:Ui mg r Z):Ui mg (some p::r) (a::Z):=⟨h,t⟩
def gO(t:Ui mg r Z):Ui mg (none::r) (a::Z):=t
def mN:afw K C mts Z []:=trivial
def mC(G:mts[q.1]?=some p)(U:Z[q.2]?=some a)(m:Meth K C p.1 a)(t:afw K C mts Z r):afw K C mts Z (q::r):=⟨⟨p,a,G,U,m⟩,t⟩
def nN:aci K C []:=trivial
def nC(h:PySem.W.findIn K (.ref C) x=some none)(t:aci K C r):aci K C (x::r):=⟨h,t⟩
def cN:Oo K mg T Z [] [] []:=trivial
def cO(t:Oo K mg T Z r cs cls):Oo K mg T Z (none::r) (none::cs) (cl::cls):=t
def cS(h:ClF K mg T Z p.1 C cl)(t:Oo K mg T Z r cs cls):Oo K mg T Z (some p::r) (some C::cs) (cl::cls):=⟨h,t⟩
def vN:acj mg []:=trivial
def vC(h:mg p.1=some (.int p.2 t))(q:acj mg r):acj mg (p::r):=⟨⟨t,h⟩,q⟩
def bN:AllB mg []:=trivial
def bC(h:mg x=none)(q:AllB mg r):AllB mg (x::r):=⟨h,q⟩
abbrev Lk(K:Fg)(f:Addr)(x q:Str)(st:Stmt)(oc:Value)(od:Option Addr)(kV dc pm:Value)(an:Option Addr)(cd ct:Value)(sl:Array (Option Value)):Prop:=
 K.lookup f=some ⟨oc,od,.func (PySem.W.fnOf x q (Hc st) (Dw st) (Ar st) .none kV dc pm an cd ct),sl⟩/\PySem.W.codeIn K cd q=true/\PySem.W.keepIn K (.ref f)=true
noncomputable def a6m:Nat->(List Value->Prop)->Prop|0,P=>P []|n+1,P=>∀a,a6m n λZ=>P (a::Z)
theorem akc:∀{us:Zl}{P:List Value->Prop},a6m us.length P->P us|[],_,h=>h|a::us,_,h=>akc (us:=us) (h a)
def fE{kV:Value}(l:Lk K a d.x d.qual s oc od kV dc U Z cd L sl)(r:ach K ds ss as fs)
 (b:∀(kV G U:Value)(Z:Option Addr)(qq L:Value),a6m d.ps.length λus=>bindArgs (PySem.W.fnOf d.x d.qual (Hc s) (Dw s) (Ar s) .none kV G U Z qq L) ⟨us,[]⟩=pure (d.ps.zip us):=by(repeat intro _);rfl) :
 ach K (d::ds) (s::ss) (a::as) (PySem.W.fnOf d.x d.qual (Hc s) (Dw s) (Ar s) .none kV dc U Z cd L::fs):=⟨⟨aqn l.1 l.2.1 l.2.2,(aqn l.1 l.2.1 l.2.2).binds λ_ _ _ _ _ _ _ e=>akc (e▸b _ _ _ _ _ _)⟩,r⟩
noncomputable def akd(K:Fg):Sp:=λG H Q _=>∃(a:Addr)(Z:U1),G=[.ref a]/\Only H/\Ie K H a (Z.map V.int)/\Z.length<=63/\∀U,Q (.bl true) U
def ayh(o:Only H)(h:Ie K H a vs):ab3 K H a vs:=by
 rcases h with(h|h)|h
 .rcases o a with z|⟨ob,xs,z⟩<;>rw[z]at h<;>cases h
 .exact .inl h
 .exact .inr h
def ayi(run:∀(Z:U1),Z.length<=63->∃G,W.call i [.fz (Z.map MW.D.int)] []=.ok (.bl true) G)(h:akd K U H Q E):spF nm W K 1 i U H Q E:=by obtain⟨a,Z,rfl,o,hS,L,k⟩:=h;obtain⟨G,e⟩:=run Z L;refine⟨⟨[],[]⟩,[],_,_,G,⟨rfl,wk,by simp,λn o a h=>by simp at h⟩,.cons (.fz (ayh o hS) (nq.ints Z)) .nil,rfl,e,λqq H' v le S' r=>?_⟩;cases r;exact k H'
def walk{l:PySem.W.OpenLaw}{K:Params->Fg}(hn:l.most=some 63)(G:d.params.defaults=[])(hY:∀(w:World) (h:Heap),YP w h->(K w.params).In h)(F:∀(w:World) (mg:Zs) (U:Addr) (h:Heap),(K w.params).In h->h.Ns mainGlobals mg->mg d.name=some (.ref U) ->
 ∃L:FuncData,(∀(s:Shared) (u:Value),BindsTo s L ⟨[u],[]⟩ [("script",u)])/\∀Z:Heap,(K w.params).In Z->Z.Ns mainGlobals mg->Ff l.prog w (K w.params) mg Z CX0 170 U L ["script"] (akd (K w.params))) :
 PySem.W.WalkO q loose XP YP l.row.toRowW d [] (λf vs=>PySem.call f vs):=
 L2.awl (n:=63) (k:=170) (x :="script") (CX:=λ_=>CX0) (sp:=λw=>akd (K w.params)) hn (by decide) G ⟨rfl,by decide,by decide⟩ hY F (λ_ _ a ns hl ho hS=>⟨a,ns,rfl,ho,hS,hl,λ_=>rfl⟩) λ_ _ _ _ _ z=>z
end Ck
namespace K51
open PySem L2
noncomputable def top(i:Nat):Stmt:=PySem.Challenge.pw_mapwright_k51_truths.main.body.getD i (.Pass ⟨0,0,0,0⟩)
def sts:List Stmt:=[inClass (top 8) 0,inClass (top 8) 1,inClass (top 8) 2,inClass (top 8) 3,inClass (top 8) 4,inClass (top 8) 5,top 9,top 10,top 11,top 12,top 13,top 14,top 35,top 36,top 37,top 38,top 39,top 40,top 41,top 42,top 43,top 16,top 17,top 18,top 19,top 21,top 23,top 24,top 27,top 28,top 29,top 30,top 31,top 32,top 33,top 44,top 45,top 46,top 47]
noncomputable def Ds:List Ck.Def:=[⟨"__init__","Pattern.__init__",["self","kinds","doings","table"],["self","kinds","doings","table"]⟩,⟨"kinds","Pattern.kinds",["self"],["self"]⟩,⟨"doings","Pattern.doings",["self"],["self"]⟩,⟨"behind","Pattern.behind",["self","one","other"],["self","one","other"]⟩,⟨"ways","Pattern.ways",["self","kind"],["self","kind"]⟩,⟨"end","Pattern.end",["self","kind","way"],["self","kind","way"]⟩,⟨"both_ways","both_ways",["table","one","other"],["table","one","other"]⟩,⟨"meeting_pairs","meeting_pairs",["doings","pairs","one","ends","other","more"],["doings"]⟩,⟨"is_way_between","is_way_between",["doings","way","start","goal"],["doings","way","start","goal"]⟩,⟨"check_doings","check_doings",["kinds","doings","ends"],["kinds","doings"]⟩,⟨"check_table","check_table",["doings","table","pairs","one","other"],["doings","table"]⟩,⟨"check_threes","check_threes",["doings","table","pairs","one","other","last","ahead","after"],["doings","table"]⟩,⟨"_law_cell_at","_law_cell_at",["script","k"],["script","k"]⟩,⟨"_law_state","_law_state",["script","k","cell"],["script","k"]⟩,⟨"_law_take","_law_take",["state","many","found","mixed"],["state","many"]⟩,⟨"_law_begun","_law_begun",["state","way","graph","loops","swap","known","kinds","sizes","found","k","one","other"],["state"]⟩,⟨"_law_closed","_law_closed",["begun","found","one","other","row","k","j","first","second","more"],["begun"]⟩,⟨"_law_pattern","_law_pattern",["state","begun","closed","kinds","table","j","k","more"],["state"]⟩,⟨"_law_ways","_law_ways",["pat","kind"],["pat","kind"]⟩,⟨"_law_end","_law_end",["pat","kind","way"],["pat","kind","way"]⟩,⟨"_law_behind","_law_behind",["pat","one","other"],["pat","one","other"]⟩,⟨"led","led",["world","thing","way"],["world","thing","way"]⟩,⟨"spots","spots",["world","told","kind","size"],["world"]⟩,⟨"reached","reached",["pattern","world","spot","kind"],["pattern","world","spot"]⟩,⟨"numbered","numbered",["row","numbers","number","some"],["row"]⟩,⟨"as_part","as_part",["world","members","rows","kind","size"],["world","members"]⟩,⟨"seed","seed",["pattern","kind","rows","acts","doing","ends","goals"],["pattern","kind"]⟩,⟨"ways_by_ends","ways_by_ends",["pattern","kind","rows","goal"],["pattern","kind"]⟩,⟨"truths","truths",["pattern","rows","acts","doing","ends","numbers","sizes"],["pattern"]⟩,⟨"crowds","crowds",["pattern","kind","parts"],["pattern","kind"]⟩,⟨"crowd_of","crowd_of",["pattern","kind","part","ways","row","places"],["pattern","kind","part"]⟩,⟨"crowd_behind","crowd_behind",["pattern","doing","crowd","goal"],["pattern","doing","crowd"]⟩,⟨"all_parts","all_parts",["pattern","world","found","spot","least","part"],["pattern","world"]⟩,⟨"least_part","least_part",["pattern","world","some","members","spot","below"],["pattern","world","some"]⟩,⟨"any_of","any_of",["one","other"],["one","other"]⟩,⟨"_law_same","_law_same",["found","due"],["found","due"]⟩,⟨"_law_crowds","_law_crowds",["pat","kind","sets","way","found","some","good","more"],["pat","kind"]⟩,⟨"_law_truths","_law_truths",["pat","crowds_v","acts","k","one","other","row","crowd","some"],["pat"]⟩,⟨"law","law",["script","pats","patterns","turn","pat","pattern"],["script"]⟩]
noncomputable def tab:Ck.Tab:=⟨[none,none,none,none,none,none,(some ("both_ways",3):Ya),(some ("meeting_pairs",1):Ya),(some ("is_way_between",4):Ya),(some ("check_doings",2):Ya),(some ("check_table",2):Ya),(some ("check_threes",2):Ya),(some ("_law_cell_at",2):Ya),(some ("_law_state",2):Ya),(some ("_law_take",2):Ya),(some ("_law_begun",1):Ya),(some ("_law_closed",1):Ya),(some ("_law_pattern",1):Ya),(some ("_law_ways",2):Ya),(some ("_law_end",3):Ya),(some ("_law_behind",3):Ya),(some ("led",3):Ya),(some ("spots",1):Ya),(some ("reached",3):Ya),(some ("numbered",1):Ya),(some ("as_part",2):Ya),(some ("seed",2):Ya),(some ("ways_by_ends",2):Ya),(some ("truths",1):Ya),(some ("crowds",2):Ya),(some ("crowd_of",3):Ya),(some ("crowd_behind",3):Ya),(some ("all_parts",2):Ya),(some ("least_part",3):Ya),(some ("any_of",2):Ya),(some ("_law_same",2):Ya),(some ("_law_crowds",2):Ya),(some ("_law_truths",1):Ya),(some ("law",1):Ya)],[none,none,none,some ("Pattern",3)],[("kinds",0),("doings",0),("behind",2),("ways",1),("end",2)],["together","doing_ends","kind_count"],[("STAYING",-1),("MOST_KINDS",3),("MOST_DOINGS",5),("MOST_PARTS",500)]⟩
noncomputable def mcs:List (Nat×Nat):=[(3,1),(3,2),(3,3),(3,4),(3,5)]
def chk:Ck.ayg tab prog.fns Ds sts=true:=by decide+kernel
def bib:Ck.asd tab.Qw=true:=by decide+kernel
def bic:Ck.tfB prog.fns tab.fns=true:=by decide+kernel
def bid:Ck.tcB prog tab.cls=true:=by decide+kernel
def bie:Ck.tmB prog tab mcs=true:=by decide+kernel
open MW
noncomputable def Ci(Z:List F)(k i:Nat):Bool:=match Z[i]? with|some f=>decide (f.a=k)|none=>false
def yu(Z:List F)(k:Nat):List D:=.int (-1)::((List.range Z.length).filter (Ci Z k)).map nD
def J5(h:d∈yu Z k):d=.int (-1)\/∃(i:Nat)(f:F),d=.int i/\Z[i]?=some f/\f.a=k:=by
 rcases cj.mp h with q|q
 .exact .inl q
 .refine hG λ_ _k=>?_
  obtain⟨i,hi,rfl⟩:=bf.mp q;obtain⟨L,U⟩:=jq.mp hi;have G:=iw.mp L;have e:Z[i]?=some Z[i]:=by simp[G]
  rw[Ci,e]at U;apply _k;exact .inr ⟨i,Z[i],rfl,e,by simpa using U⟩
def asi(h:d∈yu Z k):∃i:Int,d=.int i:=by rcases J5 h with rfl|⟨i,f,rfl,_⟩<;>exact⟨_,rfl⟩
def Hx(G:Z.length<=5):(yu Z k).length<=6:=by have:=v7 (Ci Z k) (List.range Z.length);simp at this;simp[yu];exact a_ this G
def Bs(K r:Nat)(Z:List F):D:=.tup [.int K,Ia Z,.ref r]
def asj(K r:Nat)(Z:List F)(M:di):Bj (Bs K r Z) (.int 0) M=some (.int K):=rfl
def Yg(K r:Nat)(Z:List F)(M:di):Bj (Bs K r Z) (.int 1) M=some (Ia Z):=rfl
def asl(K r:Nat)(Z:List F)(M:di):Bj (Bs K r Z) (.int 2) M=some (.ref r):=rfl
def Made.keep(h:Made n r K Z kvs M)(k:w6 M M'):Made n r K Z kvs M':=⟨k _ _ h.1,k _ _ h.2⟩
def Made.f2(h:Made n r K Z kvs M):Rf (.ref n) 2 M=some (.int K):=by simp[Rf,h.1,List.lookup]
def Made.f1(h:Made n r K Z kvs M):Rf (.ref n) 1 M=some (Ia Z):=by simp[Rf,h.1,List.lookup]
def Made.f0(h:Made n r K Z kvs M):Rf (.ref n) 0 M=some (.ref r):=by simp[Rf,h.1,List.lookup]
def kinds_ok(Z:1<=m)(h:Made n r K G kvs M):prog.call m 1 [.ref n] M=.ok (.int K) M:=by rw[call_of Z rfl];simp[Fn.run,K8,K7,h.f2]
def Uj(Z:1<=m)(h:Made n r K G kvs M):prog.call m 2 [.ref n] M=.ok (Ia G) M:=by rw[call_of Z rfl];simp[Fn.run,Jo,Jm,h.f1]
def aap(U:2<=m)(h:Made n r K G kvs M)(Z:bothW G kvs x y=some v):prog.call m 3 [.ref n,.int x,.int y] M=.ok v M:=by rw[call_of (by lia) rfl];simp[Fn.run,Jq,Jp,h.f0,abp (show 1<=m-1 by lia) h.2 Z]
def ack(hm:1<=m)(h:Made n r K Z kvs M)(G:Z.length<=5){k:Nat}:prog.call m 4 [.ref n,.int k] M=.ok (.ref M.length) (M++[.lst (yu Z k)]):=by
 rw[call_of hm rfl];have U:Ej.den (PW (m-1)) [some (.ref n),some (.int k)] M=.ok (.vl (((List.range Z.length).filter (Ci Z k)).map nD)) M:=by
  unfold Ej;rw[Ww (ds:=Z.map eD) (M1:=M) (q:=Ci Z k) (g:=nD) (by simp[h.f1,Ia]) (by simp;exact a_ G (by decide)) (λi x hx=>by
   refine hG λ_ _k=>?_
   obtain⟨f,L,rfl⟩:∃f,Z[i]?=some f/\eD f=x:=by simpa using hx
   apply _k;refine⟨_,Ga _ _ _ _ _,?_,λ_=>?_⟩
   .simp[-eq_int,U8,Be,Ci,L]
   .simp[nD])]
  simp
 have:=alb (M:=M) [.int (-1)] (((List.range Z.length).filter (Ci Z k)).map nD) (by
  have:=v7 (Ci Z k) (List.range Z.length);simp at this⊢
  lia)
 simp[Fn.run,My,Mx,U,this,MW.new,yu]
def a6n(G:1<=m)(h:Made n r K U kvs M){k i:Nat}(Z:U[i]?=some f):prog.call m 5 [.ref n,.int k,.int i] M=.ok (.int f.b) M:=by
 rw[call_of G rfl];have L:¬((i:Int)=-1):=by lia
 simp[Fn.run,Jb,Ja,L,h.f1,U9 Z,R8]
def asm(Z:1<=m)(h:Made n r K G kvs M){k:Nat}:prog.call m 5 [.ref n,.int k,.int (-1)] M=.ok (.int k) M:=by rw[call_of Z rfl];simp[Fn.run,Jb,Ja]
def Yh(hm:1<=m)(U:Z.length<=5){k:Nat}:prog.call m 18 [Bs K r Z,.int k] M=.ok (.vl (yu Z k)) M:=by
 rw[call_of hm rfl];have L:Jc.den (PW (m-1)) [some (Bs K r Z),some (.int k)] M=.ok (.vl (((List.range Z.length).filter (Ci Z k)).map nD)) M:=by
  unfold Jc;rw[Mu (n:=Z.length) (M1:=M) (q:=Ci Z k) (g:=nD) (by simp[Yg,Xe]) (a_ U (by decide)) (λi G=>by
   have e:Z[i]?=some Z[i]:=by simp[G]
   refine⟨_,rfl,?_,λ_=>?_⟩
   .simp[-eq_int,Yg,U9 e,U8,Be,Ci,G]
   .simp[nD])]
 have:=Zn (M:=M) [.int (-1)] (((List.range Z.length).filter (Ci Z k)).map nD) (by
  have:=v7 (Ci Z k) (List.range Z.length);simp at this⊢
  lia)
 simp[Fn.run,U0,Uz,L,this,yu]
def ayj(G:1<=m){k i:Nat}(Z:U[i]?=some f):prog.call m 19 [Bs K r U,.int k,.int i] M=.ok (.int f.b) M:=by
 rw[call_of G rfl];have L:¬((i:Int)<0):=by lia
 simp[Fn.run,Qk,Qj,L,Yg,U9 Z,R8]
def amt(Z:1<=m){k:Nat}:prog.call m 19 [Bs K r G,.int k,.int (-1)] M=.ok (.int k) M:=by rw[call_of Z rfl];simp[Fn.run,Qk,Qj]
def Yi(hm:1<=m)(hr:M[r']?=some (.dT kvs))(hx:-1<=x)(hy:-1<=y)(Z:bothW L kvs x y=some v):prog.call m 20 [Bs K r' L,.int x,.int y] M=.ok v M:=by
 rw[call_of hm rfl];unfold bothW at Z
 by_cases G:x=-1
 .rw[bz G]at Z;cases Z
  subst G;have:(-1:Int)+y+1=y:=by lia
  simp[Fn.run,Ft,Fq,this]
 .rw[bc G]at Z
  have nx:¬x<0:=by lia
  by_cases U:y=-1
  .rw[bz U]at Z;cases Z
   subst U;have:x+(-1:Int)+1=x:=by lia
   simp[Fn.run,Ft,Fq,nx,this]
  .rw[bc U]at Z
   have ny:¬y<0:=by lia
   simp[Fn.run,Ft,Fq,nx,ny,asl,Zo hr (Zq x y),Z]
def Dg(L:o.den W ρ M=.ok (.ref n) M)(Z:es.den W ρ M=.ok ds M)(G:M[n]?=some (.ins c fs))(U:(W.cls[c]?).bind (λC=>C.meths.lookup mm)=some fi) :
 (Ex.meth o mm es).den W ρ M=W.call fi (.ref n::ds) M:=by
 rw[Hi,L,Res.z7,Z,Res.z7];simp only[G,U]
end K51
namespace MW
def Gz(qq:it.den W L M=.ok d M1)(hd:gn M1 d=some ds)(hl:ds.length<=100000)(h:∀x∈ds,∃Z,t.put x (L++List.replicate k none)=some Z/\c.den W Z M1=.ok (.bl (q x)) M1/\(q x=true->e.den W Z M1=.ok (g x) M1)) :
 (Ex.Bo k t (.val it) c e).den W L M=.ok (.vl ((ds.filter q).map g)) M1:=by
 rw[Ms,Ii,qq];obtain⟨s,h1,h2⟩:=Uy (g:=λx=>if q x then some (g x)else none) (body:=λd M=>(Res.uy (t.put d (L++List.replicate k none)) M).bind λG M=>(c.den W G M).bind λb M' =>
  match b with
   |.bl true=>(e.den W G M').bind λx U=>.ok (some x) U
   |.bl false=>.ok none M'|_=>.bad) hd hl (λx hx=>by
  refine hG λ_ _k=>?_
  obtain⟨Z,a,b,c⟩:=h x hx;apply _k;rw[a,Res.Cd,Res.z7,b,Res.z7];cases e:q x with
  | true=>simp[c e]|false=>simp)
 have:ds.filterMap (λx=>if q x then some (g x)else none)=(ds.filter q).map g:=by
  clear h2 h hl hd
  induction ds with
  |nil=>rfl|cons a l ih=>by_cases e:q a=true<;>simp[e,ih]
 rw[this]at h2;simp only[Res.z7,h1,Res.Cd];exact lg (λr=>Res.bind r λds M2=>Res.ok (D.vl ds) M2) h2
end MW
namespace K51
open MW
noncomputable def Oq(Z:List F)(k:Nat):D->Nat
 |.int i=>if i=-1 then k else match Z[i.toNat]? with|some f=>f.b|none=>0
 |_=>0
def wT(Z:List F)(k g:Nat):List D:=(yu Z k).filter λd=>decide (Oq Z k d=g)
def asn(h:d∈wT Z k g):d∈yu Z k/\Oq Z k d=g:=by have:=jq.mp h;exact⟨this.1,by simpa using this.2⟩
def O4{i:Nat}(h:Z[i]?=some f):Oq Z k (.int i)=f.b:=by
 have:¬((i:Int)=-1):=by lia
 simp[Oq,this,h]
def a6o{i:Nat}(h:Z[i]?=some f)(e:f.a=k):.int i∈yu Z k:=by refine bx _ (bf.mpr ⟨i,jq.mpr ⟨iw.mpr (ak.mp h).1,?_⟩,rfl⟩);simp[Ci,h,e]
def a0b{i:Nat}(h:Z[i]?=some f)(e:f.a=k):.int i∈wT Z k f.b:=
 jq.mpr ⟨a6o h e,by simp[O4 h]⟩
def ahz(Z:G.length<=5):(wT G k g).length<=6:=
 gb (v7 _ _) (Hx Z)
def aso(h:d∈wT Z k g):∃i:Int,d=.int i:=asi (asn h).1
def bv(G:List F)(Z:List (List Kx×D))(j:Nat):D->Int
 |.int x=>match bothW G Z x j with|some (.int v)=>v|_=>0
 |_=>0
def ake(P:Cu sz K Z kvs){j:Nat}(L:Z[j]?=some f)(hd:d∈wT Z k f.a) :
 ∃x:Int,d=.int x/\-1<=x/\bothW Z kvs x j=some (.int (bv Z kvs j d))/\.int (bv Z kvs j d)∈wT Z k f.b:=by
 obtain⟨h1,G⟩:=asn hd;have nj:¬((j:Int)=-1):=by lia
 rcases J5 h1 with rfl|⟨i,g,rfl,hg,e⟩
 .have e:k=f.a:=by simpa[Oq]using G
  have:bothW Z kvs (-1) j=some (.int j):=by simp[bothW]
  refine⟨-1,rfl,by lia,by simp[bv,this],?_⟩;simp only[bv,this];exact a0b L e.symm
 .rw[O4 hg]at G
  have ni:¬((i:Int)=-1):=by lia
  have:bothW Z kvs i j=some (.int (ent Z g f)):=by rw[bothW,bc ni,bc nj];exact P.look hg L G
  refine⟨i,rfl,by lia,by simp[bv,this],?_⟩;simp only[bv,this];have mg:=az hg;have mf:=az L;rw[Oa];rcases P.Fe (P.cl g mg f mf G)with⟨U,i1⟩|⟨u,hu,U⟩
  .rw[U]
   refine jq.mpr ⟨by simp[yu],?_⟩;have:g.a=f.b:=i1.1;simp[Oq,<-e,this]
  .rw[U]
   exact a0b (f:=g.comp f) hu e
noncomputable def ixI(v:Int)(Z:List D):Nat:=(Z.findIdx? λd=>match d with|.int i=>decide (i=v)|_=>false).getD 0
theorem Yj(M:di)(v:Int):∀Z:List D,(∀d∈Z,∃i:Int,d=.int i)->Qe M (.int v) Z=some (Z.map λd=>match d with|.int i=>decide (i=v)|_=>false)
 |[],_=>rfl
 |d::l,h=>by
  obtain⟨i,rfl⟩:=h d (by simp);simp[Qe,Yj M v l (λx G=>h x (bx _ G))]
theorem Yk{Z:Type}(f:Z->Bool):∀l:List Z,(l.map f).findIdx? id=l.findIdx? f
 |[]=>rfl|a::l=>by simp[List.findIdx?_cons,Yk f l]
def asp(Z:∀d∈ds,∃i:Int,d=.int i)(h:.int v∈ds):Qg .index (.vl ds) [.int v] M=.ok (.int (ixI v ds)) M:=by
 have e:Wn M (.int v) ds=some (ixI v ds):=by
  rw[Wn,Yj M v ds Z,mq,Yk];unfold ixI;cases q:ds.findIdx? (λd=>match d with|.int i=>decide (i=v)|_=>false)with
  |some j=>rfl
  |none =>
   rw[yz]at q;have:=q _ h;simp at this
 simp[Qg,Dm,e]
end K51
namespace K51
open MW
def J6[DecidableEq Z](p:Z×D)(r:List (Z×D))(k:Z):Bp (p::r) k=if p.1=k then some p.2 else Bp r k:=by
 unfold Bp
 by_cases h:p.1=k
 .simp[qg,h]
 .simp[qg,h]
theorem Yl{G:Type}[DecidableEq G]{k k':G}{v:D}:∀{U:List (G×D)},(∃p∈U,p.1=k)->Bp (U.map λp=>if p.1=k then(p.1,v)else p) k'=if k'=k then some v else Bp U k'
 |p::r,h=>by
  rw[dj,J6,J6]
  by_cases a:p.1=k
  .rw[bz a]
   by_cases b:k'=k
   .simp[a,b]
   .have c:¬p.1=k':=λz=>b (z.symm.trans a)
    rw[bc c,bc b,bc c]
    by_cases d:∃p∈r,p.1=k
    .rw[Yl d,bc b]
    .congr 1
     conv=>rhs;rw[<-List.map_id r]
     apply p7;intro q hq;rw[bc λz=>d ⟨q,hq,z⟩];rfl
  .rw[bc a]
   have d:∃p∈r,p.1=k:=by
    obtain⟨q,Z,L⟩:=h;rcases cj.mp Z with rfl|Z
    .exact absurd L a
    .exact⟨q,Z,L⟩
   rw[Yl d]
   by_cases b:k'=k
   .have c:¬p.1=k':=λz=>a (z.trans b)
    rw[bc c];simp[b]
   .simp[b]
theorem afx{G:Type}[DecidableEq G]{k k':G}{v:D}:∀{Z:List (G×D)},(∀p∈Z,p.1≠k)->Bp (Z++[(k,v)]) k'=if k'=k then some v else Bp Z k'
 |[],_=>by
  rw[List.nil_append,J6]
  by_cases b:k'=k
  .simp[b]
  .simp[b,kj b]
 |p::r,h=>by
  rw[List.cons_append,J6,J6,afx (λq U=>h q (bx _ U))];have a:=h p (by simp)
  by_cases b:k'=k
  .have c:¬p.1=k':=λz=>a (z.trans b)
   rw[bc c];simp[b]
  .simp[b]
def afy[DecidableEq G](Z:List (G×D))(k k':G)(v:D):Bp (Fy Z k v) k'=if k'=k then some v else Bp Z k':=by
 unfold Fy
 by_cases h:(Z.any λp=>decide (p.1=k))=true
 .rw[bz h]
  exact Yl (by simpa using h)
 .rw[bc h]
  exact afx (λp U z=>h (zr.mpr ⟨p,U,by simpa using z⟩))
def akf[DecidableEq G](Z:List (G×D))(k:G)(v:D):(Fy Z k v).length<=Z.length+1:=by unfold Fy;split<;>simp
def akg(P:Cu sz K Z kvs)(U:k<K)(G:d∈yu Z k):Oq Z k d<K:=by
 rcases J5 G with rfl|⟨i,f,rfl,hf,_⟩
 .simpa[Oq]using U
 .rw[O4 hf];exact P.abo f (az hf)
theorem acn:∀l:List Nat,Ys (l.map nD)=some (l.map λ(x:Nat)=>(x:Int))
 |[]=>rfl|a::l=>by show(Ys (l.map nD)).map _=_;rw[acn l];rfl
noncomputable def Vn(b:Nat)(f:Nat->Bool):List Nat:=(List.range b).filter f
def aco(b:Nat)(f:Nat->Bool):(Vn b f).length<=b:=by have:=v7 f (List.range b);rw[List.length_range]at this;exact this
def Ea:x∈Vn b f↔x<b/\f x=true:=by rw[Vn,jq,iw]
def ah1(b:Nat)(f:Nat->Bool):(Vn b f).Pairwise (· < ·):=List.pairwise_lt_range.filter f
def srt{is:U1}{f:Nat->Bool}(h:∀y,y∈is↔∃z:Nat,z<b/\f z=true/\y=z):sortI (Bt is)=(Vn b f).map λ(x:Nat)=>(x:Int):=
 (aij (zf.mpr ((ah1 b f).imp λh=>by lia)) (qp.mpr (zf.mpr ((ah1 b f).imp λh=>by lia))) λy=>by
  rw[h,bf];constructor
  .rintro⟨z,G,U,rfl⟩;exact⟨z,Ea.mpr ⟨G,U⟩,rfl⟩
  .rintro⟨z,Z,rfl⟩;exact⟨z,(Ea.mp Z).1,(Ea.mp Z).2,rfl⟩).symm
def ayk(l:Yf):(l.map λ(x:Nat)=>(x:Int)).map D.int=l.map nD:=by rw[n8];rfl
def mem_cast{l:Yf}{y:Int}:y∈l.map (λ(x:Nat)=>(x:Int))↔∃z:Nat,z∈l/\y=z:=by rw[bf];constructor<;>rintro⟨z,h,e⟩<;>exact⟨z,h,e.symm⟩
def yg(G:Yf)(Z:List (List Nat)):D:=.tup [.tup (G.map nD),.tup (Z.map λU=>.tup (U.map nD))]
def a6p(h:.int v∈ds):ixI v ds<ds.length:=by
 unfold ixI;cases q:ds.findIdx? (λd=>match d with|.int i=>decide (i=v)|_=>false)with
 |some j=>exact(ug.mp q).1
 |none =>
  rw[yz]at q;have:=q _ h;simp at this
def aym:∀{Z:List D},(∀d∈Z,∃i:Int,d=.int i)->.int v∈Z->Z[ixI v Z]?=some (.int v):=fun{Z} hi h=>by
 unfold ixI;cases q:Z.findIdx? (λd=>match d with|.int i=>decide (i=v)|_=>false)with
 |some j =>
  refine hG λ_ _k=>?_
  obtain⟨U,L,_⟩:=ug.mp q;obtain⟨i,G⟩:=hi Z[j] (ph U);rw[G]at L;have:i=v:=by simpa using L
  apply _k;simp[U,G,this]
 |none =>
  rw[yz]at q;have:=q _ h;simp at this
structure WOk(K:Nat)(hs:List F)(aaq:Yf)(ayl:List (List Nat)):Prop where
 ls:aaq.length=K
 la:ayl.length=hs.length
 sm:∀x∈aaq,x<=7
 ok:∀(j:Nat)(g:F)(js:Yf),hs[j]?=some g->ayl[j]?=some js->js.length=aaq.getD g.a 0/\∀x∈js,x<aaq.getD g.b 0
def Ac(l:Yf):D:=.tup (l.map nD)
def a0c(s:Yf)(a:List (List Nat))(M:di):Bj (yg s a) (.int 0) M=some (Ac s):=rfl
def bcw(s:Yf)(a:List (List Nat))(M:di):Bj (yg s a) (.int 1) M=some (.tup (a.map Ac)):=rfl
def bcx{l:Yf}(h:i<l.length):Bj (Ac l) (.int i) M=some (.int (l.getD i 0)):=Iz q_ (by simp[h,nD])
def bcy{a:List (List Nat)}{j:Nat}(h:a[j]?=some Z):Bj (.tup (a.map Ac)) (.int j) M=some (Ac Z):=Iz q_ (by simp[h])
def S9{g:Nat->D}(qq:it.den W U M=.ok (.con ds) M)(hl:ds.length<=100000)(h:∀(i:Nat) d,ds[i]?=some d->∃G,t.put d (U++List.replicate k none)=some G/\e.den W G M=.ok (g i) M) :
 (Ex.comp k t it e).den W U M=.ok (.vl ((List.range ds.length).map g)) M:=by
 rw[Ei,qq];refine hG λ_ _k=>?_
 obtain⟨ys,Z,e1,e2,rfl⟩:=Fz (fin:=(Src.con ds).fin) (item:=(Src.con ds).item) (body:=λd M=>(Res.uy (t.put d (U++List.replicate k none)) M).bind λL M=>(e.den W L M).bind λx Z=>.ok (some x) Z) (λi xs Z=>xs=(List.range i).map g/\Z=M) (n:=ds.length) (λi xs Z hi h1=>by
  refine hG λ_ _k=>?_
  obtain⟨rfl,rfl⟩:=h1;obtain⟨G,a,b⟩:=h i ds[i] (by simp[hi]);apply _k;exact⟨_,some (g i),Z,by simp[Src.item,hi];rfl,by rw[a];simp[b],by simp[vf],rfl⟩) (λ_ _ _=>rfl) ds.length 0 [] M (rz _) ⟨rfl,rfl⟩
 apply _k;show(yt (.con ds) _ Z).bind _=_;rw[yt,show(Src.con ds).len=ds.length from rfl,bz hl,e1,<-e2];rfl
def ayn{e:Ex}{n:Nat}(h:e.den W Z M=.ok (.int (n:Nat)) M)(G:n<=100000):(Ka.Th e).den W Z M=.ok (.con ((List.range n).map nD)) M:=by rw[Ri,h,Res.z7];show(if(n:Int).natAbs<=100000 then _ else _)=_;rw[bz (by lia)];rfl
def rD(r:List (List Nat)):D:=.tup (r.map Ac)
def Cj{Z:Type}{l:List Z}{i:Nat}(h:i<l.length):∃x,l[i]?=some x:=⟨l[i],by simp[h]⟩
def K3{Z:Type}{l:List Z}{i:Nat}{x d:Z}(h:l[i]?=some x):l.getD i d=x:=by simp[gw,h]
def asq{l:Yf}{i:Nat}(h:(l.map nD)[i]?=some d):∃y,l[i]?=some y/\d=.int y/\y∈l:=by
 rw[dm]at h;refine hG λ_ _k=>?_
 obtain⟨y,Z,rfl⟩:=cz.mp h;apply _k;exact⟨y,Z,rfl,az Z⟩
def WOk.get(w:WOk K G s1 a1){k:Nat}{g:F}(h:G[k]?=some g):∃Z,a1[k]?=some Z/\Z.length=s1.getD g.a 0/\∀x∈Z,x<s1.getD g.b 0:=by obtain⟨Z,e⟩:=Cj (l:=a1) (i:=k) (by rw[w.la];exact(ak.mp h).1);exact⟨Z,e,w.ok k g Z h e⟩
def WOk.s7(w:WOk K Z s1 a1)(k:Nat):s1.getD k 0<=7:=by
 rw[gw];cases e:s1[k]? with
 |none=>simp|some y=>exact w.sm y (az e)
noncomputable def isI(v:Int)(d:D):Bool:=match d with|.int i=>decide (i=v)|_=>false
def ayo(M:di)(v:Int)(Z:List D)(h:∀d∈Z,∃i:Int,d=.int i):Qf M (.int v) (.tup Z)=some (Z.any (isI v)):=by show memD M (.int v) Z=_;rw[memD,Yj M v Z h,vg,List.any_map];rfl
noncomputable def Uk(a:List (List Nat))(x:Nat)(d:D):Nat:=match d with
 |.int w=>if w=-1 then x else(a.getD w.toNat []).getD x 0
 |_=>0
def acp{a:List (List Nat)}{i:Nat}(h:a[i]?=some Z):Uk a x (.int i)=Z.getD x 0:=by
 have G:¬((i:Int)=-1):=by lia
 simp only[Uk,bc G,u9,K3 h]
def ayp(hm:1<=m)(w:WOk K L s a)(hd:d∈yu L k)(hx:x<s.getD k 0):prog.call m 21 [yg s a,.int x,d] M=.ok (.int (Uk a x d:Nat)) M:=by
 rw[call_of hm rfl];rcases J5 hd with rfl|⟨i,g,rfl,hg,rfl⟩
 .simp[Fn.run,aoy,aox,Uk]
 .refine hG λ_ _k=>?_
  obtain⟨G,Z,h2,_⟩:=w.get hg;have U:=bcx (M:=M) (l:=G) (i:=x) (b_ hx (g_ h2));have ni:¬((i:Int)=-1):=by lia
  apply _k;rw[acp Z];generalize G.getD x 0=y at U;simp[Fn.run,aoy,aox,ni,bcw,bcy Z,U]
def aki(Z:1<=m)(h:Made n r K G kvs M)(U:d∈yu G k):prog.call m 5 [.ref n,.int k,d] M=.ok (.int (Oq G k d)) M:=by
 rcases J5 U with rfl|⟨i,g,rfl,hg,rfl⟩
 .rw[asm Z h];simp[Oq]
 .rw[a6n Z h hg,O4 hg]
noncomputable def Hy(p:Nat×Nat):D:=.tup [.int p.1,.int p.2]
def bcz(p:Nat×Nat)(M:di):Bj (Hy p) (.int 0) M=some (.int p.1):=rfl
def bc0(p:Nat×Nat)(M:di):Bj (Hy p) (.int 1) M=some (.int p.2):=rfl
def a0d(p:Nat×Nat):Rc (Hy p)=some (ky p.1 p.2):=rfl
def G3(Z:List F)(a:List (List Nat))(k x:Nat):List (Nat×Nat):=(yu Z k).map λd=>(Oq Z k d,Uk a x d)
def ah2(L:2<=m)(P:Cu sz K Z kvs)(h:Made n r K Z kvs M)(w:WOk K Z s a)(hx:x<s.getD k 0):prog.call m 23 [.ref n,yg s a,Hy (k,x)] M=.ok (.vl ((G3 Z a k x).map Hy)) (M++[.lst (yu Z k)]):=by
 rw[call_of (a_ (by decide) L) rfl];have G:1<=m-1:=r_ L
 have h':Made n r K Z kvs (M++[.lst (yu Z k)]):=⟨o5 h.1,o5 h.2⟩;have g1:=Dg (M:=M) (W:=PW (m-1)) (n:=n) (ρ:=[D.ref n,yg s a,Hy (k,x),D.int k]) (o:=.v 0) (mm:=3) (es:=.o (.v 3)) (ds:=[.int k]) (fi:=4) (by simp) (by simp) h.1 rfl;have c1:Nk.den (PW (m-1)) [some (.ref n),some (yg s a),some (Hy (k,x)),some (.int k)] M=.ok (.vl ((G3 Z a k x).map Hy)) (M++[.lst (yu Z k)]):=by
  unfold Nk;rw[Bv (d:=.ref M.length) (ds:=yu Z k) (M1:=M++[.lst (yu Z k)]) (g:=λd=>Hy (Oq Z k d,Uk a x d)) (g1.trans (ack G h P.len)) (by simp[gn]) (a_ (Hx P.len) (by decide)) (λd hd=>by
   have U:=Dg (M:=M++[.lst (yu Z k)]) (W:=PW (m-1)) (n:=n) (ρ:=[D.ref n,yg s a,Hy (k,x),D.int k,some d]) (o:=.v 0) (mm:=4) (es:=.p (.v 3) (.v 4)) (ds:=[.int k,d]) (fi:=5) (by simp) (by simp) h'.1 rfl;have U:=U.trans (aki G h' hd);have l:=ayp (M:=M++[.lst (yu Z k)]) G w hd hx;exact⟨_,rfl,by simp[-Hi,U,l,bc0];rfl⟩)]
  simp[G3]
 simp[Fn.run,Zw,Zv,bcz,c1]
def acq(M:di)(a b:MO):(M++[a]).set M.length b=M++[b]:=by simp
def Eb(M:di)(a:MO):(M++[a])[M.length]?=some a:=by simp
abbrev pK(kv:List (List Kx×D))(k x:Nat):Bool:=(Bp kv (ky k x)).isSome
noncomputable def xm(s:Yf)(f:Nat->Nat->Bool)(K:Nat):List (List Nat):=(List.range K).map λk=>(List.range (s.getD k 0)).filter (f k)
def ah3(s:Yf)(f:Nat->Nat->Bool)(i:Nat):xm s f (i+1)=xm s f i++[(List.range (s.getD i 0)).filter (f i)]:=by simp[xm,vf]
def ayq(hm:1<=m)(w:WOk K hs s a)(hK:K<=3)(hp:M[G]?=some (.dT Z)):prog.call m 25 [yg s a,.ref G] M=.ok (rD (xm s (pK Z) K)) (M++[.lst ((xm s (pK Z) K).map Ac)]):=by
 rw[call_of hm rfl];obtain⟨fl,qq,U,e,⟨rfl,⟨b2,b3,rfl⟩,rfl⟩|⟨v,rfl,h⟩⟩:=Rn (W:=PW (m-1)) (s:=.con (Am (s.map nD) 0)) (n:=K) (t:=.names [3,4]) (b:=Nq) (it:=.enm (.ix (.v 0) (.i 0))) (ρ:=[yg s a,D.ref G,D.ref M.length,none,none]) (M:=M++[.lst []]) (M1:=M++[.lst []]) (by simp[a0c,Ac]) (by simp[Src.len,Am,w.ls])
  (λi ρ U=>(∃b2 b3,ρ=[some (yg s a),some (.ref G),some (.ref M.length),b2,b3])/\U=M++[.lst ((xm s (pK Z) i).map Ac)]) (λ_ _=>False) ⟨⟨none,none,rfl⟩,by simp[xm]⟩ (λ_ _ _=>rfl) (λi ρ U hi hI=>by
   refine hG λ_ _k=>?_
   obtain⟨⟨b2,b3,rfl⟩,rfl⟩:=hI;have h7:=w.s7 i;obtain⟨y,L⟩:=Cj (l:=s) (i:=i) (by rw[w.ls];exact hi);rw[K3 L]at h7;have c1:Np.den (PW (m-1)) [some (yg s a),some (.ref G),some (.ref M.length),some (.int i),some (.int y)] (M++[.lst ((xm s (pK Z) i).map Ac)])=.ok (.vl (((List.range y).filter (pK Z i)).map nD)) (M++[.lst ((xm s (pK Z) i).map Ac)]):=by
    unfold Np;rw[Mu (n:=y) (M1:=M++[.lst ((xm s (pK Z) i).map Ac)]) (q:=pK Z i) (g:=nD) (by simp) (a_ h7 (by decide)) (λx hx=>by
     have ii:=azj (o5 (X:=[.lst ((xm s (pK Z) i).map Ac)]) hp) (a0d (i,x));rw[Hy]at ii;exact⟨_,rfl,by simp[ii],λ_=>by simp[nD]⟩)]
   have g:=Eb M (.lst ((xm s (pK Z) i).map Ac));have ap:=Dr (d:=Ac ((List.range y).filter (pK Z i))) g (by simp[xm];lia);apply _k;rw[acq,show(xm s (pK Z) i).map Ac++[Ac ((List.range y).filter (pK Z i))]=(xm s (pK Z) (i+1)).map Ac by rw[ah3,K3 L];simp]at ap;have tv:=Di (M++[.lst ((xm s (pK Z) i).map Ac)]) (((List.range y).filter (pK Z i)).map nD);exact⟨.tup [.int i,.int y],[some (yg s a),some (.ref G),some (.ref M.length),some (.int i),some (.int y)],by simp[Src.item,Am,L,nD],rfl,.next,_,_,by simp[Nq,Eh g,c1,tv];exact ap▸rfl,.inl ⟨rfl,⟨some (.int i),some (.int y),rfl⟩,rfl⟩⟩)
 .have e:U3.den (PW (m-1)) _ _=_:=e
  have tv:qy .tuple [.ref M.length] (M++[.lst ((xm s (pK Z) K).map Ac)])=.ok (rD (xm s (pK Z) K)) (M++[.lst ((xm s (pK Z) K).map Ac)]):=by simp[qy,Bk,gn,rD]
  simp[Fn.run,Zy,Zx,MW.new,e,tv]
 .exact h.elim
section
variable{m:Nat}{M:di}{W:G9}{ρ:Env}{l l1 l2:Yf}
def a6q(L:x.den W ρ M=.ok d M)(G:y.den W ρ M=.ok d' M)(U:toI d=some (l1.map λ(x:Nat)=>(x:Int)))(h2:toI d'=some (l2.map λ(x:Nat)=>(x:Int)))(n1:l1.length<=7)(n2:l2.length<=7)(Z:∀z,(z∈l1\/z∈l2)↔z<b/\f z=true) :
 (Ex.Mh x y).den W ρ M=.ok (.vl ((Vn b f).map nD)) M:=by
 have e:=srt (is:=(l1.map λ(x:Nat)=>(x:Int))++l2.map λ(x:Nat)=>(x:Int)) (b:=b) (f:=f) λy=>by
  have:(∃z:Nat,z<b/\f z=true/\y=z)↔∃z:Nat,(z∈l1\/z∈l2)/\y=z:=by
   constructor
   .rintro⟨z,a,c,rfl⟩;exact⟨z,(Z z).mpr ⟨a,c⟩,rfl⟩
   .rintro⟨z,a,rfl⟩;exact⟨z,((Z z).mp a).1,((Z z).mp a).2,rfl⟩
  rw[this];simp only[du,mem_cast];constructor
  .rintro(⟨z,a,rfl⟩|⟨z,a,rfl⟩)
   .exact⟨z,.inl a,rfl⟩
   .exact⟨z,.inr a,rfl⟩
  .rintro⟨z,a|a,rfl⟩
   .exact .inl ⟨z,a,rfl⟩
   .exact .inr ⟨z,a,rfl⟩
 rw[Wq,L,Res.z7,U];simp only[];rw[bz (by simp;lia),G,Res.z7,h2];simp only[];rw[bz (by simp;lia),e,ayk]
end
section
variable{m:Nat}{M:di}{sz:Nat->Nat}{K n r mp:Nat}{hs:List F}{kvs kv:List (List Kx×D)}{s:Yf}{a p q:List (List Nat)}
def Ym(s:Yf)(f:Nat->Nat->Bool)(Z:k<K):(xm s f K)[k]?=some (Vn (s.getD k 0) (f k)):=by simp[xm,Z,Vn]
def asr(P:Cu sz K hs kvs)(G:k<K)(h:e∈G3 hs a k x):e.1<K:=by
 refine hG λ_ _k=>?_
 obtain⟨d,Z,rfl⟩:=bf.mp h;apply _k;exact akg P G Z
def amu(P:Cu sz K hs kvs):(G3 hs a k x).length<=6:=by rw[G3,dg];exact Hx P.len
def ass(w:WOk K hs s a)(Z:x<s.getD k 0)(h:e∈G3 hs a k x):e.2<s.getD e.1 0:=by
 refine hG λ_ _k=>?_
 obtain⟨d,hd,rfl⟩:=bf.mp h;apply _k;rcases J5 hd with rfl|⟨i,g,rfl,hg,rfl⟩
 .simpa[Oq,Uk]using Z
 .refine hG λ_ _k=>?_
  obtain⟨js,G,L,U⟩:=w.get hg;apply _k;show Uk a x (.int i)<s.getD (Oq hs g.a (.int i)) 0
  rw[O4 hg,acp G];refine U _ ?_;have:x<js.length:=by rw[L];exact Z
  rw[gw,dz this];exact ph this
noncomputable def inR(R:List (Nat×Nat))(k x:Nat):Bool:=decide ((k,x)∈R)
def allR(hs:List F)(a:List (List Nat))(S:List (Nat×Nat)):List (Nat×Nat):=S.flatMap λe=>G3 hs a e.1 e.2
def InW(K:Nat)(s:Yf)(S:List (Nat×Nat)):Prop:=∀e∈S,e.1<K/\e.2<s.getD e.1 0
def InW.all(P:Cu sz K hs kvs)(w:WOk K hs s a)(h:InW K s S):InW K s (allR hs a S):=λe Z=>by
 refine hG λ_ _k=>?_
 obtain⟨b,G,Z⟩:=um.mp Z;obtain⟨U,L⟩:=h b G;apply _k;exact⟨asr P U Z,ass w L Z⟩
end
noncomputable abbrev EP(n:Nat)(w:D)(hp:D)(mp:Nat)(b4 b5:Option D):Env:=[some (.ref n),some w,some hp,some (.ref mp),b4,b5]
def Tel(Z:List (List Kx×D))(R:List (Nat×Nat)):Prop:=∀k x,(Bp Z (ky k x)).isSome=true↔(k,x)∈R
def Tel.put(h:Tel Z R)(e:Nat×Nat):Tel (Fy Z (ky e.1 e.2) (.bl true)) (R++[e]):=λk x=>by
 rw[afy,du,uc]
 by_cases z:ky k x=ky e.1 e.2
 .refine hG λ_ _k=>?_
  obtain⟨rfl,rfl⟩:=abl z;apply _k;rw[bz rfl];exact⟨λ_=>.inr rfl,λ_=>rfl⟩
 .rw[bc z,h k x]
  refine⟨.inl,λy=>y.elim id λy=>?_⟩;cases y;exact absurd rfl z
def But(p:Nat)(M Z:di):Prop:=∀b o,b≠p->M[b]?=some o->Z[b]?=some o
def take_one{Z:Type}{l:List Z}{x:Z}(h:l[i]?=some x):l.take (i+1)=l.take i++[x]:=by rw[List.take_succ,h];rfl
def a6s(hm:2<=m)(P:Cu sz K U kvs)(h:Made n r K U kvs M)(w:WOk K U s a)(hx:x<s.getD k 0)(hd:M[G]?=some (.dT kv))(hl:kv.length<=c)(hc:c<=1000)(hT:Tel kv R) :
 ∃c5 M' Z,Nx.den (PW m) (EP n (yg s a) hp G (some (Hy (k,x))) b5) M=.ok (.next,EP n (yg s a) hp G (some (Hy (k,x))) c5) M'/\M'[G]?=some (.dT Z)/\Z.length<=c+6/\Tel Z (R++G3 U a k x)/\But G M M':=by
 have re:=ah2 (m:=m) (M:=M) hm P h w hx;have rl:=amu (a:=a) (k:=k) (x:=x) P;generalize G3 U a k x=L at re rl;obtain⟨fl,qq,M',e,⟨rfl,⟨c5,rfl⟩,Z,g1,g2,g3,g4⟩|⟨v,rfl,h⟩⟩:=Rn (W:=PW m) (s:=.con (L.map Hy)) (n:=L.length) (t:=.name 5) (b:=Hr) (it:=.val (.call 23 (.q (.v 0) (.v 1) (.v 4)))) (ρ:=EP n (yg s a) hp G (some (Hy (k,x))) b5) (M:=M) (M1:=M++[.lst (yu U k)]) (by simp[re,srcOf]) (by simp[Src.len])
  (λi ρ M'=>(∃b5,ρ=EP n (yg s a) hp G (some (Hy (k,x))) b5)/\∃Z,M'[G]?=some (.dT Z)/\Z.length<=c+i/\Tel Z (R++L.take i)/\But G M M') (λ_ _=>False) ⟨⟨b5,rfl⟩,kv,o5 hd,hl,by simpa using hT,λ_ _ _ h=>o5 h⟩ (λ_ _ _=>rfl) (λi ρ M' hi hI=>by
   refine hG λ_ _k=>?_
   obtain⟨⟨b5,rfl⟩,Z,g1,g2,g3,g4⟩:=hI;obtain⟨e,he⟩:=Cj hi;have st:=agz (d:=.bl true) g1 (a0d e) (by lia);have pl:=akf Z (ky e.1 e.2) (.bl true);apply _k;exact⟨Hy e,EP n (yg s a) hp G (some (Hy (k,x))) (some (Hy e)),by simp[Src.item,he],rfl,.next,_,M'.set G (.dT (Fy Z (ky e.1 e.2) (.bl true))),by simp[Hr,st],.inl ⟨rfl,⟨some (Hy e),rfl⟩,_,rm g1,by lia,by rw[take_one he,<-Ah];exact g3.put e,λb o hb ho=>by rw[yf hb.symm];exact g4 b o hb ho⟩⟩)
 .rw[qu]at g3
  exact⟨c5,M',Z,e,g1,by lia,g3,g4⟩
 .exact h.elim
def afz(hm:3<=m)(P:Cu sz K Z kvs)(h:Made n r K Z kvs M)(w:WOk K Z s a)(hS:InW K s S)(hl:S.length<=100) :
 ∃M',prog.call m 33 [.ref n,yg s a,.vl (S.map Hy)] M=.ok (rD (xm s (inR (allR Z a S)) K)) M'/\w6 M M':=by
 rw[call_of (a_ (by decide) hm) rfl];obtain⟨fl,qv,M',e,⟨rfl,⟨b4,G,rfl⟩,U,g1,g2,g3,g4⟩|⟨v,rfl,h⟩⟩:=Rn (W:=PW (m-1)) (s:=.con (S.map Hy)) (n:=S.length) (t:=.name 4) (b:=Hs) (it:=.val (.v 2)) (ρ:=EP n (yg s a) (.vl (S.map Hy)) M.length none none) (M:=M++[.dT []]) (M1:=M++[.dT []]) (by simp[srcOf]) (by simp[Src.len])
  (λi ρ M'=>(∃b4 G,ρ=EP n (yg s a) (.vl (S.map Hy)) M.length b4 G)/\∃U,M'[M.length]?=some (.dT U)/\U.length<=6*i/\Tel U (allR Z a (S.take i))/\But M.length (M++[.dT []]) M') (λ_ _=>False) ⟨⟨none,none,rfl⟩,[],Eb M _,cg _,λk x=>by simp[Bp,allR],λ_ _ _ h=>h⟩ (λ_ _ _=>rfl) (λi ρ M' hi hI=>by
   refine hG λ_ _k=>?_
   obtain⟨⟨b4,G,rfl⟩,U,g1,g2,g3,g4⟩:=hI;obtain⟨⟨k,x⟩,he⟩:=Cj hi;have qq:=hS _ (az he);have h':Made n r K Z kvs M':=⟨g4 _ _ (h_ (ye h.1)) (o5 h.1),g4 _ _ (h_ (ye h.2)) (o5 h.2)⟩;obtain⟨c5,M1,qk,e1,j1,j2,j3,j4⟩:=a6s (m:=m-1) (hp:=.vl (S.map Hy)) (b5:=G) (r_ hm) P h' w qq.2 g1 g2 (by lia) g3;apply _k;exact⟨Hy (k,x),EP n (yg s a) (.vl (S.map Hy)) M.length (some (Hy (k,x))) G,by simp[Src.item,he],rfl,.next,_,M1,by simp[Hs,e1],.inl ⟨rfl,⟨some (Hy (k,x)),c5,rfl⟩,qk,j1,by lia,by rw[take_one he,allR,List.flatMap_append];simpa[allR]using j3,λb o L ho=>j4 b o L (g4 b o L ho)⟩⟩)
 .have e:Ny.den (PW (m-1)) _ _=_:=e
  have pk:=ayq (M:=M') (m:=m-1) (r_ (a_ (by decide) hm)) w P.k3 g1;rw[qu]at g3;have er:xm s (pK U) K=xm s (inR (allR Z a S)) K:=
   p7 λk hk=>List.filter_congr λx hx=>by rw[qe,g3 k x,inR,cu]
  rw[er]at pk;exact⟨M'++[.lst ((xm s (inR (allR Z a S)) K).map Ac)],by simp[Fn.run,Rx,Rv,MW.new,e,pk],λb o L=>o5 (g4 b o (h_ (ye L)) (o5 L))⟩
 .exact h.elim
section
variable{M:di}{sz:Nat->Nat}{K:Nat}{hs:List F}{kvs:List (List Kx×D)}{n r r' m k:Nat}
def a6t(U:1<=m)(h:Made n r K hs kvs M)(G:hs.length<=5){g:Nat}{a2:Option D} :
 Ey.den ⟨prog.call m,prog.cls⟩ [D.ref n,D.int k,a2,D.int g] M=.ok (.vl (wT hs k g)) (M++[.lst (yu hs k)]):=by
 unfold Ey;have L:=h.keep (w6.app M [.lst (yu hs k)]);have h1:=Dg (M:=M) (W:=⟨prog.call m,prog.cls⟩) (n:=n) (ρ:=[D.ref n,D.int k,a2,D.int g]) (o:=.var 0) (mm:=3) (es:=.cons (.var 1) .nil) (ds:=[.int k]) (fi:=4) (by simp) (by simp) h.1 rfl;rw[Gz (d:=.ref M.length) (ds:=yu hs k) (M1:=M++[.lst (yu hs k)]) (q:=λd=>decide (Oq hs k d=g)) (g:=id) (h1.trans (ack U h G)) (q9 (by simp)) (gb (Hx G) (by decide)) (λx hx=>by
  refine⟨_,rfl,?_,λ_=>by simp⟩;have Z:=Dg (M:=M++[.lst (yu hs k)]) (W:=⟨prog.call m,prog.cls⟩) (n:=n) (ρ:=[D.ref n,D.int k,a2,D.int g,some x]) (o:=.var 0) (mm:=4) (es:=.cons (.var 1) (.cons (.var 4) .nil)) (ds:=[.int k,x]) (fi:=5) (by simp) (by simp) L.1 rfl;replace Z:=Z.trans (aki U L hx);show(Ex.cmp .eq _ _).den _ [D.ref n,D.int k,a2,D.int g,some x] _=_;rw[aie,Z];simp[-eq_int,Be])]
 simp[wT]
def Gf(hs:List F)(k j:Nat):List D:=(List.range j).map λg=>.vl (wT hs k g)
def amv(hs:List F)(k j:Nat):Gf hs k (j+1)=Gf hs k j++[.vl (wT hs k j)]:=by simp[Gf,vf]
def Ot(hs:List F)(k j:Nat):(Gf hs k j).length=j:=by simp[Gf]
def asu{M Z:di}{p:Nat}{o:MO}{X:di}(U:M.length<=p)(G:w6 M Z):w6 M ((Z++X).set p o):=λa q h=>by rw[yf (by have:=ye h;omega)];exact o5 (G a q h)
def asv(hm:2<=m)(P:Cu sz K hs kvs)(h:Made n r K hs kvs M):∃M',prog.call m 27 [.ref n,.int k] M=.ok (.ref M.length) M'/\M'[M.length]?=some (.lst (Gf hs k K))/\w6 M M':=by
 rw[call_of (by omega) rfl];have h0:=h.keep (w6.app M [.lst []]);have G:=Dg (M:=M++[.lst []]) (W:=⟨prog.call (m-1),prog.cls⟩) (n:=n) (ρ:=[D.ref n,D.int k,D.ref M.length,none]) (o:=.var 0) (mm:=0) (es:=.nil) (ds:=[]) (fi:=1) (by simp) (by simp) h0.1 rfl;replace G:=G.trans (kinds_ok (by omega) h0);have:=P.k3;obtain⟨qq,M',e,⟨L,rfl⟩,p1,k1⟩:=Dl (W:=⟨prog.call (m-1),prog.cls⟩) (t:=.name 3) (b:=Ez) G (by omega)
  (λj U M'=>(∃L:Option D,U=[some (.ref n),some (.int k),some (.ref M.length),L])/\M'[M.length]?=some (.lst (Gf hs k j))/\w6 M M') ⟨⟨none,rfl⟩,by simp[Gf],w6.app M _⟩
  (λj U M1 hj hI=>by
   obtain⟨⟨L,rfl⟩,q1,q2⟩:=hI;have c:=a6t (M:=M1) (m:=m-1) (k:=k) (g:=j) (a2:=some (.ref M.length)) (by omega) (h.keep q2) P.len;have Z:=o5 (X:=[.lst (yu hs k)]) q1;refine⟨_,.next,_,_,rfl,?_,.inl rfl,⟨some (.int j),rfl⟩,rm (o:=.lst (Gf hs k (j+1))) Z,asu (cg _) q2⟩;have ap:=Dr (d:=.vl (wT hs k j)) Z (by rw[Ot];omega);rw[<-amv]at ap;simp[Ez,Eh q1,c,ap])
 refine⟨M',?_,p1,k1⟩;simp[Fn.run,Nt,Nr,MW.new,Jw,e]
def amw(hs:List F)(kvs:List (List Kx×D))(k j:Nat):D:=match hs[j]? with
 |some f=>.tup ((wT hs k f.a).map λd=>.int (ixI (bv hs kvs j d) (wT hs k f.b)))
 |none=>.non
def Ou(hs:List F)(kvs:List (List Kx×D))(k j:Nat):List D:=(List.range j).map (amw hs kvs k)
def amx(hs:List F)(kvs:List (List Kx×D))(k j:Nat):Ou hs kvs k (j+1)=Ou hs kvs k j++[amw hs kvs k j]:=by simp[Ou,vf]
def asw(hs:List F)(kvs:List (List Kx×D))(k j:Nat):(Ou hs kvs k j).length=j:=by simp[Ou]
def af0(hs:List F)(k K:Nat):List D:=(List.range K).map λg=>.int (wT hs k g).length
def akj(K:Nat)(hs:List F)(kvs:List (List Kx×D))(k:Nat):D:=.tup [.tup (af0 hs k K),.tup (Ou hs kvs k hs.length)]
def akk{p j:Nat}{M:di}(h:M[p]?=some (.lst (Gf hs k K)))(Z:j<K):Bj (.ref p) (.int j) M=some (.vl (wT hs k j)):=Fp (q9 h) (by omega) (by simp[Gf,Z])
def amy{W:G9}{ρ:Env}{x y p:Nat}(U:ρ[x]?=some (some (.ref p)))(G:y=ρ.length)(Z:M[p]?=some (.lst (Gf hs k K)))(hK:K<=3) :
 (Ex.comp 1 (.name y) (.val (.var x)) (.blt .len (.cons (.var y) .nil))).den W ρ M=.ok (.vl (af0 hs k K)) M:=by
 subst G;rw[Bv (d:=.ref p) (ds:=Gf hs k K) (M1:=M) (g:=λd=>match d with|.vl l=>.int l.length|_=>.non) (by simp[U]) (q9 Z) (by rw[Ot];omega) (λd L=>by
  obtain⟨g,hg,rfl⟩:=bf.mp L;refine⟨_,rfl,?_⟩;simp[qy,Ml])]
 simp[Gf,af0]
def Yn{M Z:di}{p:Nat}{o:MO}(U:M.length<=p)(G:w6 M Z):w6 M (Z.set p o):=λa q h=>by rw[yf (by have:=ye h;omega)];exact G a q h
def a6u{j:Nat}{f:F}(h:hs[j]?=some f):amw hs kvs k j=.tup ((wT hs k f.a).map λd=>.int (ixI (bv hs kvs j d) (wT hs k f.b))):=by simp[amw,h]
def a6v(hm:2<=m)(P:Cu sz K hs kvs)(h:Made n r K hs kvs M){p j:Nat}{f:F}{a1 a3:Option D}(L:M[p]?=some (.lst (Gf hs k K)))(U:hs[j]?=some f) :
 W3.den ⟨prog.call m,prog.cls⟩ [D.ref n,a1,D.ref p,a3,D.int j,eD f,D.vl (wT hs k f.b)] M=.ok (.vl ((wT hs k f.a).map λd=>.int (ixI (bv hs kvs j d) (wT hs k f.b)))) M:=by
 have hf:=az U;unfold W3;rw[Bv (d:=.vl (wT hs k f.a)) (ds:=wT hs k f.a) (M1:=M) (g:=λd=>.int (ixI (bv hs kvs j d) (wT hs k f.b))) (by simp[U8,akk L (P.Y5 f hf)]) rfl (gb (ahz P.len) (by decide)) (λd G=>by
  obtain⟨x,rfl,_,hv,Z⟩:=ake P U G;refine⟨_,rfl,?_⟩;have h2:=(Dg (M:=M) (W:=⟨prog.call m,prog.cls⟩) (n:=n) (ρ:=[D.ref n,a1,D.ref p,a3,D.int j,eD f,D.vl (wT hs k f.b),D.int x]) (o:=.var 0) (mm:=2) (es:=.cons (.var 7) (.cons (.var 4) .nil)) (ds:=[.int x,.int j]) (fi:=3) (by simp) (by simp) h.1 rfl).trans (aap hm h hv);show(Ex.bm .index (.var 6) (.cons _ .nil)).den _ [D.ref n,a1,D.ref p,a3,D.int j,eD f,D.vl (wT hs k f.b),D.int x] _=_;simp[-Hi,h2,Vp,asp (M:=M) (λd G=>aso G) Z])]
def ayr(hm:3<=m)(P:Cu sz K hs kvs)(h:Made n r K hs kvs M):∃M',prog.call m 26 [.ref n,.int k] M=.ok (akj K hs kvs k) M'/\w6 M M':=by
 rw[call_of (by omega) rfl];obtain⟨Z,e1,p1,k1⟩:=asv (k:=k) (m:=m-1) (by omega) P h;have h1:=(h.keep k1).keep (w6.app Z [.lst []]);have hk:=(Dg (M:=Z++[.lst []]) (W:=⟨prog.call (m-1),prog.cls⟩) (n:=n) (ρ:=[D.ref n,D.int k,D.ref M.length,D.ref Z.length,none,none,none]) (o:=.var 0) (mm:=1) (es:=.nil) (ds:=[]) (fi:=2) (by simp) (by simp) h1.1 rfl).trans (Uj (by omega) h1);have hl:=P.len;obtain⟨qq,L,e,⟨b4,b5,b6,rfl⟩,p2,k2⟩:=Mt (W:=⟨prog.call (m-1),prog.cls⟩) (t:=.names [4,5]) (b:=W4) (ds:=hs.map eD) hk
  (λj G M'=>(∃b4 b5 b6:Option D,G=[some (.ref n),some (.int k),some (.ref M.length),some (.ref Z.length),b4,b5,b6])/\M'[Z.length]?=some (.lst (Ou hs kvs k j))/\w6 Z M') ⟨⟨none,none,none,rfl⟩,by simp[Ou],w6.app Z _⟩
  (λj x G L hx hI=>by
   obtain⟨⟨b4,b5,b6,rfl⟩,q1,q2⟩:=hI;obtain⟨f,U,rfl⟩:∃f,hs[j]?=some f/\eD f=x:=by simpa using hx
   have qk:=(ak.mp U).1;have hp:=q2 _ _ p1;have c:=a6v (M:=L) (m:=m-1) (a1:=some (.int k)) (a3:=some (.ref Z.length)) (by omega) P (h.keep (k1.trans q2)) hp U;have ap:=Dr (d:=amw hs kvs k j) q1 (by rw[asw];omega);rw[<-amx]at ap;rw[a6u U]at ap;refine⟨_,.next,_,_,Ga _ _ _ _ _,?_,.inl rfl,⟨some (.int j),some (eD f),some (.vl (wT hs k f.b)),rfl⟩,rm (o:=.lst (Ou hs kvs k (j+1))) q1,Yn (cg _) q2⟩;simp[W4,R8,akk hp (P.abo f (az U)),Eh q1,c,Di,ap])
 have e':(List.map eD hs).length=hs.length:=by simp
 rw[e']at p2;refine⟨L,?_,k1.trans k2⟩;have c1:=amy (M:=L) (W:=⟨prog.call (m-1),prog.cls⟩) (ρ:=[D.ref n,D.int k,D.ref M.length,D.ref Z.length,b4,b5,b6]) (x:=2) (y:=7) rfl rfl (k2 _ _ p1) P.k3;simp[Fn.run,ao0,aoz,e1,MW.new,adn,e,adm,c1,Di,qy,Mr (q9 p2),akj]
end
def wI(Z:List F)(k:Nat):List Int:=-1::((List.range Z.length).filter (Ci Z k)).map λ(i:Nat)=>(i:Int)
def Fv:yu Z k=(wI Z k).map D.int:=by simp[yu,wI,nD,Ag]
def ed(Z:List F)(k:Nat)(w:Int):Nat:=Oq Z k (.int w)
def O5:ed Z k (-1)=k:=by simp[ed,Oq]
def Ls{i:Nat}(h:Z[i]?=some f):ed Z k i=f.b:=O4 h
def G4:w∈wI U k↔w=-1\/∃(i:Nat)(f:F),w=i/\U[i]?=some f/\f.a=k:=by
 rw[wI,cj,bf];constructor
 .rintro(h|⟨i,h,rfl⟩)
  .exact .inl h
  .obtain⟨Z,G⟩:=jq.mp h
   have Z:=iw.mp Z;refine .inr ⟨i,U[i],rfl,by simp[Z],?_⟩;simpa[Ci,Z]using G
 .rintro(h|⟨i,f,rfl,Z,G⟩)
  .exact .inl h
  .exact .inr ⟨i,jq.mpr ⟨iw.mpr (ak.mp Z).1,by simp[Ci,Z,G]⟩,rfl⟩
def asx(h:w∈wI Z k):-1<=w:=by rcases G4.mp h with rfl|⟨i,f,rfl,_⟩<;>lia
def a0f:(wI Z k).Pairwise (· < ·):=by
 rw[wI,wg];refine⟨λw h=>?_,zf.mpr ((List.pairwise_lt_range.filter _).imp λh=>by lia)⟩;obtain⟨i,_,rfl⟩:=bf.mp h
 lia
def aar:(wI Z k).Nodup:=qp.mpr (a0f.imp λh=>by lia)
def Ul(Z:G.length<=5):(wI G k).length<=6:=by have:=Hx (k:=k) Z;rw[Fv,dg]at this;exact this
def a6w(h:w∈wI Z k):D.int w∈yu Z k:=by rw[Fv];exact bf.mpr ⟨w,h,rfl⟩
def cp(G:List F)(Z:List (List Kx×D))(x y:Int):Int:=match bothW G Z x y with|some (.int v)=>v|_=>0
def Sx(h:bothW Z kvs x y=some (.int v)):cp Z kvs x y=v:=by simp[cp,h]
def amz(y:Int):cp Z kvs (-1) y=y:=by simp[cp,bothW]
def am0(x:Int):cp Z kvs x (-1)=x:=by
 by_cases h:x=-1
 .rw[h,amz]
 .simp[cp,bothW,h]
def Pz(P:Cu sz K Z kvs)(hx:x∈wI Z k)(G:y∈wI Z (ed Z k x)):bothW Z kvs x y=some (.int (cp Z kvs x y))/\cp Z kvs x y∈wI Z k/\ed Z k (cp Z kvs x y)=ed Z (ed Z k x) y:=by
 rcases G4.mp hx with rfl|⟨i,f,rfl,hf,e⟩
 .rw[O5]at G⊢
  rw[amz];exact⟨by simp[bothW],G,rfl⟩
 .have L:¬((i:Int)=-1):=by lia
  rw[Ls hf]at G⊢;rcases G4.mp G with rfl|⟨j,g,rfl,hg,e2⟩
  .rw[am0];exact⟨by simp[bothW,L],hx,by rw[Ls hf,O5]⟩
  .have nj:¬((j:Int)=-1):=by lia
   have b:bothW Z kvs i j=some (.int (ent Z f g)):=by rw[bothW,bc L,bc nj];exact P.look hf hg e2.symm
   rw[Sx b,b,Ls hg];refine⟨rfl,?_⟩;rw[Oa];rcases P.Fe (P.cl f (az hf) g (az hg) e2.symm)with⟨U,i1⟩|⟨u,hu,U⟩
   .rw[U]
    have:f.a=g.b:=i1.1;exact⟨G4.mpr (.inl rfl),by rw[O5,<-e,this]⟩
   .rw[U]
    exact⟨G4.mpr (.inr ⟨u,_,rfl,hu,e⟩),by rw[Ls hu];rfl⟩
def af1(P:Cu sz K Z kvs)(hx:x∈wI Z k)(U:y∈wI Z (ed Z k x))(G:z∈wI Z (ed Z (ed Z k x) y)):cp Z kvs (cp Z kvs x y) z=cp Z kvs x (cp Z kvs y z):=by
 rcases G4.mp hx with rfl|⟨i,f,rfl,hf,e⟩
 .rw[amz,amz]
 .rw[Ls hf]at U G
  rcases G4.mp U with rfl|⟨j,g,rfl,hg,e2⟩
  .rw[amz,am0]
  .rw[Ls hg]at G
   rcases G4.mp G with rfl|⟨l,h,rfl,hh,e3⟩
   .rw[am0,am0]
   .have ni:¬((i:Int)=-1):=by lia
    have L:¬((j:Int)=-1):=by lia
    have nl:¬((l:Int)=-1):=by lia
    have b1:bothW Z kvs i j=some (.int (ent Z f g)):=by rw[bothW,bc ni,bc L];exact P.look hf hg e2.symm
    have b2:bothW Z kvs j l=some (.int (ent Z g h)):=by rw[bothW,bc L,bc nl];exact P.look hg hh e3.symm
    obtain⟨v,v1,v2⟩:=P.apf hf hg hh e2.symm e3.symm;rw[Sx b1,Sx b2,Sx v1,Sx v2]
def Rw(G:List F)(Z:List (List Kx×D))(k:Nat)(w:Int):List Int:=(wI G (ed G k w)).map (cp G Z w)
def ays(w:Int):w∈Rw Z kvs k w:=bf.mpr ⟨-1,G4.mpr (.inl rfl),am0 w⟩
def bc2(P:Cu sz K Z kvs)(U:x∈wI Z k)(h:y∈Rw Z kvs k x):y∈wI Z k:=by obtain⟨u,G,rfl⟩:=bf.mp h;exact(Pz P U G).2.1
def bc3(P:Cu sz K Z kvs)(L:x∈wI Z k)(h:y∈Rw Z kvs k x)(h2:z∈Rw Z kvs k y):z∈Rw Z kvs k x:=by obtain⟨u,U,rfl⟩:=bf.mp h;obtain⟨v,G,rfl⟩:=bf.mp h2;have c:=Pz P L U;rw[c.2.2]at G;rw[af1 P L U G];exact bf.mpr ⟨_,(Pz P U G).2.1,rfl⟩
def ayt:Rw Z kvs k (-1)=wI Z k:=by
 rw[Rw,O5];have:∀l:List Int,l.map (cp Z kvs (-1))=l:=λl=>by
  induction l with
  |nil=>rfl|cons a l G=>rw[dj,G,amz]
 exact this _
def wJ(Z:List F)(k g:Nat):List Int:=(wI Z k).filter λw=>decide (ed Z k w=g)
def af2:wT Z k g=(wJ Z k g).map D.int:=by rw[wT,Fv,List.filter_map];rfl
def Fl:w∈wJ Z k g↔w∈wI Z k/\ed Z k w=g:=by rw[wJ,jq,cu]
def a0g:(wJ Z k g).Nodup:=aar.filter _
def sN(Z:List F)(k K:Nat):List Nat:=(List.range K).map λg=>(wJ Z k g).length
def aN(Z:List F)(G:List (List Kx×D))(k:Nat):List (List Nat):=(List.range Z.length).map λj=>match Z[j]? with
 |some f=>(wT Z k f.a).map λd=>ixI (bv Z G j d) (wT Z k f.b)
 |none=>[]
def af3:(wT Z k g).length=(wJ Z k g).length:=by rw[af2,dg]
def a6x:akj K Z kvs k=yg (sN Z k K) (aN Z kvs k):=by
 have G:af0 Z k K=(sN Z k K).map nD:=by simp[af0,sN,nD,af3,Ag]
 have h2:Ou Z kvs k Z.length=(aN Z kvs k).map λjs=>.tup (js.map nD):=by
  rw[Ou,aN,n8];refine p7 λj U=>?_
  obtain⟨f,L⟩:=Cj (iw.mp U);simp[amw,L,nD,Ag]
 rw[akj,yg,G,h2]
def K4{g:Nat}(h:g<K):(sN Z k K).getD g 0=(wJ Z k g).length:=by simp[sN,h]
def asz{j:Nat}(h:Z[j]?=some f):(aN Z kvs k)[j]?=some ((wT Z k f.a).map λd=>ixI (bv Z kvs j d) (wT Z k f.b)):=by have:=(ak.mp h).1;rw[aN,dm,lq this,vg];simp only[h]
theorem as3(P:Cu sz K Z kvs):WOk K Z (sN Z k K) (aN Z kvs k)where
 ls:=by simp[sN]
 la:=by simp[aN]
 sm:=λx U=>by obtain⟨g,_,rfl⟩:=bf.mp U;have:=ahz (k:=k) (g:=g) P.len;rw[af3]at this;lia
 ok:=λj f js G L=>by
  rw[asz G]at L;cases L;have mf:=az G;rw[K4 (P.Y5 f mf),K4 (P.abo f mf),dg,af3];refine⟨rfl,λx U=>?_⟩;obtain⟨d,hd,rfl⟩:=bf.mp U;obtain⟨_,_,_,_,h⟩:=ake P G hd;have:=a6p h
  rwa [af3]at this
def wA(Z:List F)(k g x:Nat):Int:=(wJ Z k g).getD x 0
def Qx(h:x<(wJ Z k g).length):(wJ Z k g)[x]?=some (wA Z k g x):=by simp[wA,h]
def Qy(h:x<(wJ Z k g).length):wA Z k g x∈wJ Z k g:=az (Qx h)
def as4(h:(wJ Z k g)[x]?=some w):wA Z k g x=w:=by simp[wA,h]
def a0h(h:w∈wI Z k):∃x,x<(wJ Z k (ed Z k w)).length/\wA Z k (ed Z k w) x=w:=by obtain⟨x,G,U⟩:=pq (Fl.mpr ⟨h,rfl⟩:w∈wJ Z k (ed Z k w));exact⟨x,G,as4 (by simp[G,U])⟩
def as5(P:Cu sz K Z kvs)(G:k<K)(h:w∈wI Z k):ed Z k w<K:=akg P G (a6w h)
def as6(P:Cu sz K Z kvs)(U:x<(wJ Z k g).length)(L:e∈wI Z g):(wJ Z k (ed Z g e))[Uk (aN Z kvs k) x (.int e)]?=some (cp Z kvs (wA Z k g x) e):=by
 have G:=Fl.mp (Qy U);rcases G4.mp L with rfl|⟨j,f,rfl,hf,e2⟩
 .rw[O5,am0]
  simpa[Uk]using Qx U
 .rw[acp (asz hf),Ls hf]
  have Wv:(wT Z k f.a)[x]?=some (.int (wA Z k g x)):=by rw[af2,e2,dm,Qx U];rfl
  have c:=Pz P G.1 (G.2▸L);have e3:bv Z kvs j (.int (wA Z k g x))=cp Z kvs (wA Z k g x) j:=rfl;rw[K3 (by rw[dm,Wv];rfl)];show(wJ Z k f.b)[ixI (bv Z kvs j (.int (wA Z k g x))) (wT Z k f.b)]?=_;rw[e3];have hm:D.int (cp Z kvs (wA Z k g x) j)∈wT Z k f.b:=by rw[af2];refine bf.mpr ⟨_,Fl.mpr ⟨c.2.1,?_⟩,rfl⟩;rw[c.2.2,G.2,Ls hf]
  have q:=aym (λd hd=>aso hd) hm;generalize ixI _ _=y at q⊢;rw[af2,dm]at q;obtain⟨v,v1,v2⟩:=cz.mp q;cases v2;exact v1
def am1(P:Cu sz K Z kvs)(hx:x<(wJ Z k g).length){g' x':Nat}(Wv:x'<(wJ Z k g').length):(g',x')∈G3 Z (aN Z kvs k) g x↔wA Z k g' x'∈Rw Z kvs k (wA Z k g x):=by
 have U:=Fl.mp (Qy hx);rw[G3,Fv,n8,bf,Rw,bf,U.2];constructor
 .rintro⟨e,G,q⟩
  have q1:ed Z g e=g':=lg Prod.fst q;have q2:Uk (aN Z kvs k) x (.int e)=x':=lg Prod.snd q;have l:=as6 P hx G;rw[q1,q2]at l;exact⟨e,G,(as4 l).symm⟩
 .rintro⟨e,G,q⟩
  have c:=Pz P U.1 (U.2.symm▸G);have L:=Fl.mp (Qy Wv);rw[q,L.2,U.2]at c;have l:=as6 P hx G;rw[q,<-c.2.2]at l;have:x'=Uk (aN Z kvs k) x (.int e):=(List.getElem?_inj Wv a0g).mp ((Qx Wv).trans l.symm);refine⟨e,G,?_⟩;show(ed Z g e,Uk (aN Z kvs k) x (.int e))=_;rw[<-this,<-c.2.2]
def pF(Z:List F)(k:Nat)(c:U1)(g x:Nat):Bool:=decide (wA Z k g x∈c)
def pR(Z:List F)(k K:Nat)(c:U1):List (List Nat):=xm (sN Z k K) (pF Z k c) K
def Wa{s:Yf}{f Z:Nat->Nat->Bool}(h:∀g x,g<K->x<s.getD g 0->f g x=Z g x):xm s f K=xm s Z K:=
 p7 λg G=>List.filter_congr λx U=>h g x (iw.mp G) (iw.mp U)
def ayu(P:Cu sz K Z kvs)(L:x<(wJ Z k g).length):xm (sN Z k K) (inR (allR Z (aN Z kvs k) [(g,x)])) K=pR Z k K (Rw Z kvs k (wA Z k g x)):=
 Wa λg' x' U G=>by rw[K4 U]at G;have:=am1 P L G;rw[inR,pF,qe,cu,cu,<-this];simp[allR]
def ayv:xm (sN Z k K) (inR (allR Z (aN Z kvs k) [])) K=pR Z k K []:=
 Wa λg' U G L=>by simp[inR,pF,allR]
def bc4(h:∀w∈wI Z k,w∈c↔w∈c'):pR Z k K c=pR Z k K c':=
 Wa λg x U G=>by rw[K4 U]at G;rw[pF,pF,qe,cu,cu];exact h _ (Fl.mp (Qy G)).1
def bc5(c:U1):pR Z k K (cr (wI Z k) c)=pR Z k K c:=bc4 λw G=>by rw[Mv];exact⟨And.right,λh=>⟨G,h⟩⟩
def a6y(P:Cu sz K Z kvs)(L:k<K)(h:pR Z k K c=pR Z k K c'):cr (wI Z k) c=cr (wI Z k) c':=by
 refine Mw λw U=>?_
 obtain⟨x,h1,h2⟩:=a0h U;have G:=as5 P L U;have e:∀c,w∈c↔x∈(pR Z k K c).getD (ed Z k w) []:=λc=>by rw[pR,K3 (Ym _ _ G),Ea,K4 G,pF,cu,h2];exact⟨λq=>⟨h1,q⟩,And.right⟩
 rw[e c,e c',h]
def kP(Z:List F)(k K:Nat)(c:U1):List (List Int):=(pR Z k K c).map λl=>l.map λ(x:Nat)=>(x:Int)
theorem acr:∀l:List Int,Ys (l.map D.int)=some l
 |[]=>rfl|a::l=>by show(Ys (l.map D.int)).map _=_;rw[acr l];rfl
theorem acs:∀l:List (List Int),Y0 (l.map tI)=some l
 |[]=>rfl|a::l=>by rw[dj];simp only[Y0];rw[acs l,show toI (tI a)=some a from acr a]
def as7(c:U1):tN (kP Z k K c)=rD (pR Z k K c):=by simp[tN,kP,rD,Ac,tI,nD,Ag]
def a6z(q:List (List Int)):toN (tN q)=some q:=acs q
def as8(c:U1):toN (rD (pR Z k K c))=some (kP Z k K c):=by rw[<-as7,a6z]
theorem Tc:∀{a b:Yf},(a.map λ(x:Nat)=>(x:Int))=b.map (λ(x:Nat)=>(x:Int))->a=b
 |[],[],_=>rfl|[],_::_,h=>nomatch h|_::_,[],h=>nomatch h
 |x::a,y::b,h=>by
  rw[dj,dj]at h;injection h with h1 h2
  rw[D_ h1,Tc h2]
theorem Qa:∀{a b:List (List Nat)},(a.map λl=>l.map λ(x:Nat)=>(x:Int))=b.map (λl=>l.map λ(x:Nat)=>(x:Int))->a=b
 |[],[],_=>rfl|[],_::_,h=>nomatch h|_::_,[],h=>nomatch h
 |x::a,y::b,h=>by
  rw[dj,dj]at h;injection h with h1 h2
  rw[Tc h1,Qa h2]
def a65(P:Cu sz K Z kvs)(G:k<K)(U:cr (wI Z k) c=c)(L:cr (wI Z k) c'=c')(h:kP Z k K c=kP Z k K c'):c=c':=by rw[<-U,<-L];exact a6y P G (Qa h)
def bc6(P:Cu sz K Z kvs)(c:U1):kP Z k K c≠[]:=λh=>by have:=lg List.length h;simp[kP,pR,xm]at this;have:=P.k1;lia
def rel(P:Cu sz K U kvs):Rel (wI U k) (Rw U kvs k):=⟨ays,λw G v Z=>bc2 P G Z,λw G v Z u L=>bc3 P G Z L⟩
def Qz(P:Cu sz K Z kvs){G:List (List Int)}(L:G.Nodup)(U:∀c∈G,Clo (wI Z k) (Rw Z kvs k) c):G.length<=33:=
 few (u:=-1) (R:=Rw Z kvs k) aar (by have:=Ul (k:=k) P.len;simp[wI]at this⊢;lia) ayt L U
def as9{M:di}(h:M[n]?=some (.lst Z)):Vp .extend (.ref n) M=true:=by simp[Vp,gn,h]
def akl{M:di}(h:M[n]?=some (.lst Z))(G:Z.length+ys.length<100000):Qg .extend (.ref n) [.vl ys] M=.ok .non (M.set n (.lst (Z++ys))):=by simp[Qg,onL,Dm,h,G]
noncomputable def An(s:Yf)(i:Nat):List (Nat×Nat):=(List.range i).flatMap λk=>(List.range (s.getD k 0)).map λx=>(k,x)
def Yo(s:Yf)(i:Nat):An s (i+1)=An s i++(List.range (s.getD i 0)).map λx=>(i,x):=by simp[An,vf]
def Um:(k,x)∈An s i↔k<i/\x<s.getD k 0:=by simp[An]
theorem aas(w:WOk K G s a)(Z:K<=3):∀i,i<=K->(An s i).length<=i*7
 |0,_=>by simp[An]
 |i+1,h=>by
  have:=aas w Z i (by lia);have:=w.s7 i;rw[Yo,o8,dg,List.length_range]
  lia
def ata(hm:1<=m)(w:WOk K hs s a)(hK:K<=3):prog.call m 22 [yg s a] M=.ok (.ref M.length) (M++[.lst ((An s K).map Hy)]):=by
 rw[call_of hm rfl];obtain⟨fl,qq,L,e,⟨rfl,⟨b2,b3,rfl⟩,rfl⟩|⟨v,rfl,h⟩⟩:=Rn (W:=⟨prog.call (m-1),prog.cls⟩) (s:=.con (Am (s.map nD) 0)) (n:=K) (t:=.names [2,3]) (b:=T5) (it:=.enm (.ix (.v 0) (.i 0))) (ρ:=[yg s a,D.ref M.length,none,none]) (M:=M++[.lst []]) (M1:=M++[.lst []]) (by simp[a0c,Ac]) (by simp[Src.len,Am,w.ls])
  (λi ρ L=>(∃b2 b3,ρ=[some (yg s a),some (.ref M.length),b2,b3])/\L=M++[.lst ((An s i).map Hy)]) (λ_ _=>False) ⟨⟨none,none,rfl⟩,by simp[An]⟩ (λ_ _ _=>rfl) (λi ρ L hi hI=>by
   obtain⟨⟨b2,b3,rfl⟩,rfl⟩:=hI;have Z:=w.s7 i;obtain⟨y,G⟩:=Cj (l:=s) (i:=i) (by rw[w.ls];exact hi);rw[K3 G]at Z;have le:=aas w hK i (e_ hi);have c1:T4.den ⟨prog.call (m-1),prog.cls⟩ [yg s a,D.ref M.length,D.int i,D.int y] (M++[.lst ((An s i).map Hy)])=.ok (.vl (((List.range y).map λx=>(i,x)).map Hy)) (M++[.lst ((An s i).map Hy)]):=by
    unfold T4;rw[S9 (g:=λx=>Hy (i,x)) (ds:=(List.range y).map nD) (ayn (by simp) (a_ Z (by decide))) (by simp;exact a_ Z (by decide)) (λx d hd=>by
     obtain⟨z,U,rfl,hx⟩:=asq hd;rw[lq (by simpa using(ak.mp U).1)]at U;cases U;exact⟨_,rfl,by simp;rfl⟩)]
    simp
   have g:=Eb M (.lst ((An s i).map Hy));have ex:=akl (ys:=((List.range y).map λx=>(i,x)).map Hy) g (by simp;lia);rw[acq,<-qj,show An s i++(List.range y).map (λx=>(i,x))=An s (i+1)by rw[Yo,K3 G]]at ex;exact⟨.tup [.int i,.int y],[some (yg s a),some (.ref M.length),some (.int i),some (.int y)],by simp[Src.item,Am,G,nD],rfl,.next,_,_,by simp[-List.map_map,T5,as9 g,c1,ex],.inl ⟨rfl,⟨some (.int i),some (.int y),rfl⟩,rfl⟩⟩)
 .have e:Zu.den ⟨prog.call (m-1),prog.cls⟩ _ _=_:=e
  simp[Fn.run,air,aiq,MW.new,e]
 .exact h.elim
def atb{W:G9}{Z:Env}{x y:Ex}{ds es:List D}(L:x.den W Z M=.ok (.tup ds) M)(G:y.den W Z M=.ok (.tup es) M)(U:ds.length=es.length):(Ka.zip (.p x y)).den W Z M=.ok (.con (Ke [ds,es] es.length)) M:=by simp[L,G,ak6,Wo,agw,U]
def a66(hm:1<=m)(hK:K<=3)(Z:∀k,s.getD k 0<=7):prog.call m 34 [rD (xm s f K),rD (xm s g K)] M=.ok (rD (xm s (λk x=>f k x||g k x) K)) M:=by
 rw[call_of hm rfl];have L:∀f,(xm s f K).length=K:=λf=>by simp[xm]
 have c:Qn.den (PW (m-1)) [some (rD (xm s f K)),some (rD (xm s g K))] M=.ok (.vl ((xm s (λk x=>f k x||g k x) K).map Ac)) M:=by
  unfold Qn;rw[S9 (g:=λi=>Ac (Vn (s.getD i 0) (λx=>f i x||g i x))) (ds:=Ke [(xm s f K).map Ac,(xm s g K).map Ac] K) (by rw[atb (ds:=(xm s f K).map Ac) (es:=(xm s g K).map Ac) (by simp[rD]) (by simp[rD]) (by simp[L])];simp[L]) (by simp[Ke];exact a_ hK (by decide)) (λi d G=>by
   have U:i<K:=by simpa[Ke]using(ak.mp G).1
   have:d=.tup [Ac (Vn (s.getD i 0) (f i)),Ac (Vn (s.getD i 0) (g i))]:=by rw[Ke,dm,lq U]at G;cases G;simp[Ym s _ U]
   subst this;have Z:=Z i;generalize s.getD i 0=B at Z;have so:=a6q (W:=PW (m-1)) (M:=M) (ρ:=[rD (xm s f K),rD (xm s g K),Ac (Vn B (f i)),Ac (Vn B (g i))]) (x:=.v 2) (y:=.v 3) (d:=Ac (Vn B (f i))) (d':=Ac (Vn B (g i))) (l1:=Vn B (f i)) (l2:=Vn B (g i)) (b:=B) (f:=λx=>f i x||g i x) (by simp) (by simp) (acn _) (acn _) (a_ (aco _ _) Z) (a_ (aco _ _) Z) (λz=>by
    rw[Ea,Ea,Bool.or_eq_true];exact⟨λh=>h.elim (λh=>⟨h.1,.inl h.2⟩) λh=>⟨h.1,.inr h.2⟩,λh=>h.2.elim (λq=>.inl ⟨h.1,q⟩) λq=>.inr ⟨h.1,q⟩⟩)
   exact⟨_,rfl,by simp[so,Di];rfl⟩)]
  simp[xm,Ke,Vn]
 simp[Fn.run,adw,adu,c,Di];rfl
section
variable{sz:Nat->Nat}{K k g x n r m p:Nat}{hs:List F}{kvs:List (List Kx×D)}{M:di}{c w:U1}{cs:List (List Int)}
def bih(P:Cu sz K hs kvs)(G:1<=m)(c Z:U1):prog.call m 34 [rD (pR hs k K c),rD (pR hs k K Z)] M=.ok (rD (pR hs k K (c++Z))) M:=by have:=a66 (M:=M) (s:=sN hs k K) (f:=pF hs k c) (g:=pF hs k Z) G P.k3 (as3 (k:=k) P).s7;rw[show xm (sN hs k K) (λg x=>pF hs k c g x||pF hs k Z g x) K=pR hs k K (c++Z)from Wa λg x _ _=>by simp[pF]]at this;exact this
def atc(P:Cu sz K hs kvs)(U:k<K)(G:∀c∈cs,cr (wI hs k) c=c)(h:cr (wI hs k) c=c):kP hs k K c∈cs.map (kP hs k K)↔c∈cs:=by
 rw[bf];constructor
 .rintro⟨d,Z,e⟩
  rw[<-a65 P U (G d Z) h e];exact Z
 .exact λq=>⟨c,q,rfl⟩
theorem a0i(P:Cu sz K hs kvs)(G:k<K):∀{cs:List (List Int)},(∀c∈cs,cr (wI hs k) c=c)->cs.Nodup->(cs.map (kP hs k K)).Nodup
 |[],_,_=>wk
 |c::cs,hc,hn=>by
  obtain⟨U,n2⟩:=ju.mp hn;have Z:∀c∈cs,cr (wI hs k) c=c:=λd L=>hc d (bx _ L)
  exact ju.mpr ⟨λq=>U ((atc P G Z (hc c (by simp))).mp q),a0i P G Z n2⟩
def a67(P:Cu sz K hs kvs)(L:k<K)(Z:M[p]?=some (.dN (cs.map (kP hs k K))))(U:∀c∈cs,cr (wI hs k) c=c)(G:cs.length<100000) :
 setOp (.ref p) (rD (pR hs k K c)) (.bl true) M=some (M.set p (.dN ((add cs (cr (wI hs k) c)).map (kP hs k K)))):=by
 have e:kP hs k K c=kP hs k K (cr (wI hs k) c):=by rw[kP,kP,bc5]
 simp only[setOp,Z,as8,mq,dg,G,jg];rw[e];have q:=atc P L U (c:=cr (wI hs k) c) aot
 congr 3
 unfold add
 by_cases h:cr (wI hs k) c∈cs
 .rw[bz h,bz (q.mpr h)]
 .rw[bc h,bc (λz=>h (q.mp z))];simp
def set_same(h:M[p]?=some o):M.set p o=M:=by
 apply su;intro i
 by_cases e:p=i
 .subst e;rw[rm h,h]
 .rw[yf e]
def atd(M:di)(p:Nat)(a b:MO):(M.set p a).set p b=M.set p b:=by simp
noncomputable abbrev EA(n:Nat)(w:D)(p:Nat)(b3 b4 b5:Option D):Env:=[some (.ref n),some w,some (.ref p),b3,b4,b5]
def a68(hm:1<=m)(P:Cu sz K hs kvs)(hk:k<K){v:Int}(hv:v∈wI hs k)(hp:M[p]?=some (.dN (cs.map (kP hs k K))))(hn:cs.Nodup)(hc:∀c∈cs,Clo (wI hs k) (Rw hs kvs k) c)(Lw:∀c∈Ij (wI hs k) (Rw hs kvs k) cs v,Clo (wI hs k) (Rw hs kvs k) c){wd:D}{b3 b5:Option D} :
 ∃c5,Pg.den (PW m) (EA n wd p b3 (some (rD (pR hs k K (Rw hs kvs k v)))) b5) M=.ok (.next,EA n wd p b3 (some (rD (pR hs k K (Rw hs kvs k v)))) c5) (M.set p (.dN ((Ij (wI hs k) (Rw hs kvs k) cs v).map (kP hs k K)))):=by
 have ln:cs.length<=33:=Qz P hn hc
 have e0:(Ka.val (.blt .Wk (.o (.v 2)))).den (PW m) (EA n wd p b3 (some (rD (pR hs k K (Rw hs kvs k v)))) b5) M=.ok (.con ((cs.map (kP hs k K)).map tN)) M:=by simp[qy,Dm,onN,hp,srcOf]
 obtain⟨qq,L,e,⟨c5,rfl⟩,rfl⟩:=Hk (W:=PW m) (s:=.con ((cs.map (kP hs k K)).map tN)) (n:=cs.length) (t:=.name 5) (b:=Jd) e0 (by simp[Src.len])
  (λi ρ L=>(∃b5,ρ=EA n wd p b3 (some (rD (pR hs k K (Rw hs kvs k v)))) b5)/\L=M.set p (.dN ((adds cs ((cs.map λc=>cr (wI hs k) (c++Rw hs kvs k v)).take i)).map (kP hs k K)))) ⟨⟨b5,rfl⟩,(set_same hp).symm⟩ (λ_ _ _=>rfl) (λi ρ L hi hI=>by
   obtain⟨⟨b5,rfl⟩,rfl⟩:=hI;obtain⟨c,Z⟩:=Cj hi;have G:∀d∈adds cs ((cs.map λc=>cr (wI hs k) (c++Rw hs kvs k v)).take i),d∈Ij (wI hs k) (Rw hs kvs k) cs v:=λd U=>by
    rw[Ij,Ro];rcases Ro.mp U with h|h
    .exact .inl h
    .exact .inr (List.mem_of_mem_take h)
   have g:=rm (o:=.dN ((adds cs ((cs.map λc=>cr (wI hs k) (c++Rw hs kvs k v)).take i)).map (kP hs k K))) hp;have st:=a67 (c:=c++Rw hs kvs k v) P hk g (λd U=>(Lw d (G d U)).1) (by have:=Qz P (aba (l:=(cs.map λc=>cr (wI hs k) (c++Rw hs kvs k v)).take i) hn) (λd U=>Lw d (G d U));lia);have a:=bih (k:=k) (M:=M.set p (.dN ((adds cs ((cs.map λc=>cr (wI hs k) (c++Rw hs kvs k v)).take i)).map (kP hs k K)))) P hm c (Rw hs kvs k v);rw[<-aou,atd]at st;have tk:(cs.map λc=>cr (wI hs k) (c++Rw hs kvs k v)).take (i+1)=(cs.map λc=>cr (wI hs k) (c++Rw hs kvs k v)).take i++[cr (wI hs k) (c++Rw hs kvs k v)]:=take_one (by rw[dm,Z];rfl);rw[<-tk]at st;exact⟨rD (pR hs k K c),EA n wd p b3 (some (rD (pR hs k K (Rw hs kvs k v)))) (some (rD (pR hs k K c))),by simp[Src.item,Z,as7],rfl,_,_,by simp[Jd,a,st],⟨some (rD (pR hs k K c)),rfl⟩,rfl⟩)
 refine⟨c5,?_⟩;have q:(cs.map λc=>cr (wI hs k) (c++Rw hs kvs k v)).take cs.length=cs.map λc=>cr (wI hs k) (c++Rw hs kvs k v):=yp (by simp)
 rw[q]at e;exact e
def wL(hs:List F)(k K:Nat):List Int:=(An (sN hs k K) K).map λe=>wA hs k e.1 e.2
def ah4(P:Cu sz K hs kvs)(U:k<K)(v:Int):v∈wL hs k K↔v∈wI hs k:=by
 rw[wL,bf];constructor
 .rintro⟨⟨g,x⟩,h,rfl⟩
  obtain⟨G,Z⟩:=Um.mp h;rw[K4 G]at Z;exact(Fl.mp (Qy Z)).1
 .intro h
  obtain⟨x,G,Z⟩:=a0h h;have:=as5 P U h;exact⟨(ed hs k v,x),Um.mpr ⟨this,by rw[K4 this];exact G⟩,Z⟩
def FC(hs:List F)(kvs:List (List Kx×D))(k K:Nat):List (List Int):=Fd (wI hs k) (Rw hs kvs k) (wL hs k K)
def ate(P:Cu sz K hs kvs)(Z:k<K)(i:Nat):∀c∈Fd (wI hs k) (Rw hs kvs k) ((wL hs k K).take i),Clo (wI hs k) (Rw hs kvs k) c:=
 λc U=>aov (rel P) (λv G=>(ah4 P Z v).mp (List.mem_of_mem_take G)) U
def ayw(hm:4<=m)(P:Cu sz K hs kvs)(hk:k<K)(h:Made n r K hs kvs M) :
 ∃M',prog.call m 32 [.ref n,yg (sN hs k K) (aN hs kvs k)] M=.ok (.vl ((O6 ltN ((FC hs kvs k K).map (kP hs k K))).map tN)) M'/\w6 M M':=by
 rw[call_of (a_ (by decide) hm) rfl];have W0:=as3 (k:=k) P;obtain⟨M1,e1,U⟩:=afz (S:=[]) (m:=m-1) (r_ hm) P h W0 (by simp[InW]) (by simp);rw[ayv]at e1;have e2:=ata (M:=M1++[.dN [kP hs k K []]]) (m:=m-1) (r_ (a_ (by decide) hm)) W0 P.k3;have g0:(M1++[MO.dN [kP hs k K []]]++[.lst ((An (sN hs k K) K).map Hy)])[M1.length]?=some (.dN ((Fd (wI hs k) (Rw hs kvs k) ((wL hs k K).take 0)).map (kP hs k K))):=by rw[o5 (Eb M1 _)];rfl
 have q0:(M1++[MO.dN [kP hs k K []]]++[.lst ((An (sN hs k K) K).map Hy)])[M1.length+1]?=some (.lst ((An (sN hs k K) K).map Hy)):=by simp
 obtain⟨qk,M',e,⟨b3,b4,b5,rfl⟩,g1,G⟩:=Hk (W:=PW (m-1)) (s:=.live (M1.length+1) (An (sN hs k K) K).length) (n:=(An (sN hs k K) K).length) (t:=.name 3) (b:=Je) (it:=.val (.call 22 (.o (.v 1)))) (ρ:=EA n (yg (sN hs k K) (aN hs kvs k)) M1.length none none none) (M:=M1++[.dN [kP hs k K []]]) (M1:=M1++[.dN [kP hs k K []]]++[.lst ((An (sN hs k K) K).map Hy)]) (by simp[e2,srcOf]) rfl
  (λi ρ M'=>(∃b3 b4 b5,ρ=EA n (yg (sN hs k K) (aN hs kvs k)) M1.length b3 b4 b5)/\M'[M1.length]?=some (.dN ((Fd (wI hs k) (Rw hs kvs k) ((wL hs k K).take i)).map (kP hs k K)))/\But M1.length (M1++[.dN [kP hs k K []]]++[.lst ((An (sN hs k K) K).map Hy)]) M') ⟨⟨none,none,none,rfl⟩,g0,λ_ _ _ h=>h⟩ (fun ρ M' h=>by
   have:=h.2.2 _ _ (by lia) q0;simp[Src.fin,this]) (λi ρ M' hi hI=>by
   obtain⟨⟨b3,b4,b5,rfl⟩,g1,G⟩:=hI;have qi:=G _ _ (show M1.length+1≠M1.length by lia) q0;obtain⟨⟨g,x⟩,he⟩:=Cj hi;obtain⟨s1,s2⟩:=Um.mp (az he);have s3:=s2;rw[K4 s1]at s3;have h':Made n r K hs kvs M':=⟨G _ _ (h_ (ye (U _ _ h.1))) (o5 (o5 (U _ _ h.1))),G _ _ (h_ (ye (U _ _ h.2))) (o5 (o5 (U _ _ h.2)))⟩;obtain⟨M2,l1,l2⟩:=afz (S:=[(g,x)]) (M:=M') (m:=m-1) (r_ hm) P h' W0 (λe he=>by
    have:e=(g,x):=by simpa using he
    subst this;exact⟨s1,s2⟩) (by simp)
   rw[ayu P s3]at l1;have hv:=(Fl.mp (Qy s3)).1;have tk:(wL hs k K).take (i+1)=(wL hs k K).take i++[wA hs k g x]:=take_one (by rw[wL,dm,he];rfl);have Zc:=ate P hk (i+1);have qq:=Qz P (Rq (L:=(wL hs k K).take (i+1))) Zc;have fe:Fd (wI hs k) (Rw hs kvs k) ((wL hs k K).take (i+1))=Ij (wI hs k) (Rw hs kvs k) (Fd (wI hs k) (Rw hs kvs k) ((wL hs k K).take i)) (wA hs k g x):=by rw[tk,a1r]
   rw[fe]at Zc qq;obtain⟨c5,l3⟩:=a68 (n:=n) (m:=m-1) (wd:=yg (sN hs k K) (aN hs kvs k)) (b3:=some (Hy (g,x))) (b5:=b5) (r_ (a_ (by decide) hm)) P hk hv (l2 _ _ g1) Rq (ate P hk i) Zc;rw[fe];generalize Ij (wI hs k) (Rw hs kvs k) (Fd (wI hs k) (Rw hs kvs k) ((wL hs k K).take i)) (wA hs k g x)=cs' at l3 qq⊢;have gl:=rm (o:=.dN (cs'.map (kP hs k K))) (l2 _ _ g1);have le:qy .len [.ref M1.length] (M2.set M1.length (.dN (cs'.map (kP hs k K))))=.ok (.int (cs'.length:Nat)) (M2.set M1.length (.dN (cs'.map (kP hs k K)))):=by simp[qy,Dm,Ml,gl]
   have nl:¬(500:Int)<(cs'.length:Int):=by lia
   refine⟨Hy (g,x),EA n (yg (sN hs k K) (aN hs kvs k)) M1.length (some (Hy (g,x))) b4 b5,by simp[Src.item,qi,he],rfl,_,_,?_,⟨some (Hy (g,x)),some (rD (pR hs k K (Rw hs kvs k (wA hs k g x)))),c5,rfl⟩,gl,λb o hb ho=>by rw[yf hb.symm];exact l2 _ _ (G b o hb ho)⟩;have Z:prog.call (m-1) 33 [.ref n,yg (sN hs k K) (aN hs kvs k),.vl [Hy (g,x)]] M'=_:=l1;simp[Je,Z,l3,le,nl])
 have tl:(wL hs k K).take (An (sN hs k K) K).length=wL hs k K:=yp (by simp[wL]);rw[tl]at g1;have e:Ph.den (PW (m-1)) _ _=_:=e;have cl:=ate P hk (An (sN hs k K) K).length;rw[tl]at cl;have ln:=Qz P Rq cl;have so:qy .Wj [.ref M1.length] M'=.ok (.vl ((O6 ltN ((FC hs kvs k K).map (kP hs k K))).map tN)) M':=by
  show onN (.ref M1.length) M' _=_;simp only[onN,g1];rw[bz ⟨by rw[dg];lia,λq=>by
   obtain⟨c,_,e⟩:=bf.mp q;exact bc6 P c e,a0i P hk (λc hc=>(cl c hc).1) Rq⟩]
  rfl
 have Z:prog.call (m-1) 33 [.ref n,yg (sN hs k K) (aN hs kvs k),.vl []] M=.ok (rD (pR hs k K [])) M1:=e1;refine⟨M',?_,λb o hb=>G b o (h_ (ye (U _ _ hb))) (o5 (o5 (U _ _ hb)))⟩;simp[Fn.run,U5,U4,Z,adh,as8,MW.new,e,so]
end
end K51
namespace MW
def Av{G U:Type}{f:G->U}{A B:List U}(p:A.Perm B):∀l:List G,B=l.map f->∃Z:List G,Z.Perm l/\A=Z.map f:=by
 induction p with
 |nil=>intro l h;exact⟨l,.refl _,h⟩
 |cons x _ ih =>
  intro l h;cases l with
  |nil=>cases h
  |cons y l =>
   rw[dj]at h;injection h with h1 h2
   obtain⟨Z,p,e⟩:=ih l h2;exact⟨y::Z,p.cons y,by rw[dj,<-e,h1]⟩
 |swap x y r =>
  intro l h
  match l,h with
  |[],h=>cases h|[_],h=>cases h
  |u::v::l,h =>
   rw[dj,dj]at h;injection h with h1 h2
   injection h2 with h2 h3
   exact⟨v::u::l,.swap u v l,by rw[dj,dj,<-h1,<-h2,<-h3]⟩
 |trans _ _ a b =>
  intro l h;obtain⟨l1,p1,e1⟩:=b l h;obtain⟨l2,L,e2⟩:=a l1 e1;exact⟨l2,L.trans p1,e2⟩
end MW
namespace K51
open MW
def atf{Z:Type}(l:Yf)(f:Nat->Z):(List.range l.length).map (λi=>f (l.getD i 0))=l.map f:=by
 apply su;intro i
 by_cases h:i<l.length
 .simp[h]
 .have:l.length<=i:=by lia
  simp[h,this]
section
variable{sz:Nat->Nat}{K k g x n r m p:Nat}{hs:List F}{kvs:List (List Kx×D)}{M:di}{c:U1}{cs:List (List Int)}
def row(hs:List F)(k:Nat)(c:U1)(g:Nat):List Int:=(Vn (wJ hs k g).length (pF hs k c g)).map (wA hs k g)
def acc(hs:List F)(k:Nat)(c:U1)(i:Nat):List Int:=(List.range i).flatMap (row hs k c)
def Yp(i:Nat):acc hs k c (i+1)=acc hs k c i++row hs k c i:=by simp[acc,vf]
def Td{v:Int}:v∈row hs k c g↔v∈wJ hs k g/\v∈c:=by
 rw[row,bf];constructor
 .rintro⟨x,h,rfl⟩
  obtain⟨G,Z⟩:=Ea.mp h;exact⟨Qy G,by simpa[pF]using Z⟩
 .rintro⟨G,Z⟩
  obtain⟨x,U,L⟩:=pq G;have:wA hs k g x=v:=as4 (by simp[U,L]);exact⟨x,Ea.mpr ⟨U,by rw[pF,this];simpa using Z⟩,this⟩
def ayx{v:Int}(P:Cu sz K hs kvs)(U:k<K):v∈acc hs k c K↔v∈wI hs k/\v∈c:=by
 rw[acc,um];constructor
 .rintro⟨g,_,h⟩
  obtain⟨Z,G⟩:=Td.mp h;exact⟨(Fl.mp Z).1,G⟩
 .rintro⟨Z,G⟩
  exact⟨ed hs k v,iw.mpr (as5 P U Z),Td.mpr ⟨Fl.mpr ⟨Z,rfl⟩,G⟩⟩
def a69:(row hs k c g).Nodup:=by
 refine qp.mpr (zf.mpr ?_);have h:=(ah1 (wJ hs k g).length (pF hs k c g));refine h.imp_of_mem fun{x y} hx hy hl e=>?_
 have Z:=(Ea.mp hx).1;have G:=(Ea.mp hy).1;have:x=y:=(List.getElem?_inj Z a0g).mp (by rw[Qx Z,Qx G,e])
 lia
theorem acu:∀i,(acc hs k c i).Nodup
 |0=>wk
 |i+1=>by
  rw[Yp];refine xu.mpr ⟨acu i,a69,λa L b U e=>?_⟩;subst e;obtain⟨g,G,Z⟩:=um.mp L;have Z:=(Fl.mp (Td.mp Z).1).2;have h2:=(Fl.mp (Td.mp U).1).2;have:=iw.mp G
  lia
def ayy(i:Nat):∀v∈acc hs k c i,v∈wI hs k:=λv h=>by obtain⟨g,_,h⟩:=um.mp h;exact(Fl.mp (Td.mp h).1).1
def akm(P:Cu sz K hs kvs)(i:Nat):(acc hs k c i).length<=6:=gb (aos (acu i) (ayy i)) (Ul P.len)
def atg(P:Cu sz K hs kvs)(Z:k<K):sortI (acc hs k c K)=cr (wI hs k) c:=
 aii (V0 _) ((a0f.filter _).imp λh=>by lia) ((Cm _).nodup_iff.mpr (acu K)) (aar.filter _) λv=>by rw[(Cm _).mem_iff,ayx P Z,Mv]
noncomputable abbrev EC(n k:Nat)(pt:D)(p:Nat)(b4 b5:Option D):Env:=[some (.ref n),some (.int k),some pt,some (.ref p),b4,b5]
def bc7(hm:3<=m)(P:Cu sz K hs kvs)(hk:k<K)(h:Made n r K hs kvs M):∃M',prog.call m 30 [.ref n,.int k,rD (pR hs k K c)] M=.ok (tI (cr (wI hs k) c)) M'/\w6 M M':=by
 rw[call_of (a_ (by decide) hm) rfl];have h0:=h.keep (w6.app M [.lst []]);obtain⟨M1,e1,L,k1⟩:=asv (k:=k) (m:=m-1) (r_ hm) P h0;have le:(M++[MO.lst []]).length=M.length+1:=by simp
 rw[le]at e1 L;have g0:M1[M.length]?=some (.lst ((acc hs k c 0).map D.int)):=k1 _ _ (Eb M _);have lp:(pR hs k K c).length=K:=by simp[pR,xm]
 obtain⟨qq,M',e,⟨b4,b5,rfl⟩,G,U⟩:=Hk (W:=PW (m-1)) (s:=.zl (M.length+1) ((pR hs k K c).map Ac)) (n:=K) (t:=.names [4,5]) (b:=Ko) (it:=.zip (.p (.call 27 (.p (.v 0) (.v 1))) (.v 2))) (ρ:=EC n k (rD (pR hs k K c)) M.length none none) (M:=M++[.lst []]) (M1:=M1) (by simp[e1,ak6,rD,Wo,agw,L,Ot,lp]) (by simp[Src.len,lp])
  (λi ρ M'=>(∃b4 b5,ρ=EC n k (rD (pR hs k K c)) M.length b4 b5)/\M'[M.length]?=some (.lst ((acc hs k c i).map D.int))/\But M.length M1 M') ⟨⟨none,none,rfl⟩,g0,λ_ _ _ h=>h⟩ (fun ρ M' h=>by
   have:=h.2.2 _ _ (by lia) L;simp[Src.fin,this,Ot,lp]) (λi ρ M' hi hI=>by
   obtain⟨⟨b4,b5,rfl⟩,G,U⟩:=hI;have qi:=U _ _ (show M.length+1≠M.length by lia) L;have ri:(Gf hs k K)[i]?=some (.vl (wT hs k i)):=by simp[Gf,hi]
   have pi:(pR hs k K c)[i]?=some (Vn (wJ hs k i).length (pF hs k c i)):=by rw[pR,Ym _ _ hi,K4 hi]
   have cc:Km.den (PW (m-1)) (EC n k (rD (pR hs k K c)) M.length (some (.vl (wT hs k i))) (some (Ac (Vn (wJ hs k i).length (pF hs k c i))))) M'=.ok (.vl ((row hs k c i).map D.int)) M':=by
    unfold Km;rw[S9 (g:=λj=>.int (wA hs k i ((Vn (wJ hs k i).length (pF hs k c i)).getD j 0))) (ds:=(Vn (wJ hs k i).length (pF hs k c i)).map nD) (by simp[srcOf,Ac]) (by rw[dg];exact a_ (aco _ _) (by rw[<-af3];exact a_ (ahz P.len) (by decide))) (λj d hd=>by
     obtain⟨y,h1,rfl,hy⟩:=asq hd;have hy:=(Ea.mp hy).1;have ix:Bj (.vl (wT hs k i)) (.int y) M'=some (.int (wA hs k i y)):=Fp rfl q_ (by rw[af2];simp[Qx hy]);exact⟨_,rfl,by simp[ix,h1]⟩)]
    rw[dg,atf _ (λx=>D.int (wA hs k i x)),row,n8];rfl
   have ex:=akl (ys:=(row hs k c i).map D.int) G (by have:=akm (k:=k) (c:=c) P (i+1);rw[Yp,o8]at this;simp;lia);rw[<-qj,<-Yp]at ex;exact⟨.tup [.vl (wT hs k i),Ac (Vn (wJ hs k i).length (pF hs k c i))],EC n k (rD (pR hs k K c)) M.length (some (.vl (wT hs k i))) (some (Ac (Vn (wJ hs k i).length (pF hs k c i)))),by simp[Src.item,qi,Ot,lp,ri,pi],rfl,_,_,by simp[-List.map_map,Ko,as9 G,cc,ex],⟨some (.vl (wT hs k i)),some (Ac (Vn (wJ hs k i).length (pF hs k c i))),rfl⟩,rm G,λb o Z ho=>by rw[yf Z.symm];exact U b o Z ho⟩)
 have e:Ru.den (PW (m-1)) _ _=_:=e;have so:qy .sortI [.ref M.length] M'=.ok (.vl ((cr (wI hs k) c).map D.int)) M':=by show Res.uy (((gn M' (.ref M.length)).bind Ys).bind _) M'=_;rw[q9 G,mq,acr,mq,bz ⟨by have:=akm (k:=k) (c:=c) P K;lia,acu K⟩,atg P hk];rfl
 refine⟨M',?_,λb o Z=>U b o (h_ (ye Z)) (k1 _ _ (o5 Z))⟩;simp[Fn.run,Xa,W9,MW.new,e,so,Di,tI]
def CR(hs:List F)(kvs:List (List Kx×D))(k K:Nat):List (List Int):=O6 ltT (FC hs kvs k K)
def cD(hs:List F)(kvs:List (List Kx×D))(k K:Nat):D:=.tup ((CR hs kvs k K).map tI)
def Uo(P:Cu sz K hs kvs)(G:k<K):c∈FC hs kvs k K↔Clo (wI hs k) (Rw hs kvs k) c:=
 ⟨λh=>aov (rel P) (λv Z=>(ah4 P G v).mp Z) h,λh=>a1s (rel P) (λv Z=>(ah4 P G v).mpr Z) h⟩
def ayz:Clo (wI hs k) (Rw hs kvs k) []:=⟨by simp[cr],λ_ h=>nomatch h⟩
def af4(P:Cu sz K hs kvs)(G:k<K){d:D}(Z:cs.Perm (FC hs kvs k K))(L:gn M d=some (cs.map tI)):qy .Uv [d] M=.ok (.vl ((CR hs kvs k K).map tI)) M:=by have ln:=Qz P Rq (λc U=>(Uo P G).mp U);show Res.uy (((gn M d).bind Y0).bind _) M=_;rw[L,mq,acs,mq,bz ⟨by rw[Z.length_eq];exact c_ ln (by decide),Z.mem_iff.mpr ((Uo P G).mpr ayz),Z.nodup_iff.mpr Rq⟩,aik (V1 aoo) Z];rfl
def am2(L:5<=m)(P:Cu sz K hs kvs)(Z:k<K)(h:Made n r K hs kvs M):∃M',prog.call m 29 [.ref n,.int k] M=.ok (cD hs kvs k K) M'/\w6 M M':=by
 rw[call_of (a_ (by decide) L) rfl];obtain⟨M1,e1,k1⟩:=ayr (k:=k) (m:=m-1) (r_ (a_ (by decide) L)) P h;rw[a6x]at e1;obtain⟨M2,e2,k2⟩:=ayw (m:=m-1) (r_ L) P Z (h.keep k1);obtain⟨cs,p1,p2⟩:=Av (Ow (lt:=ltN) ((FC hs kvs k K).map (kP hs k K))) (FC hs kvs k K) rfl;rw[p2]at e2;have ln:=Qz P Rq (λc U=>(Uo (k:=k) P Z).mp U);have lc:cs.length<=33:=by rw[p1.length_eq];exact ln
 obtain⟨ys,M3,G,rfl,k3⟩:=Y4 (W:=PW (m-1)) (k:=1) (t:=.name 3) (it:=.v 2) (e:=.call 30 (.q (.v 0) (.v 1) (.v 3))) (ρ:=[D.ref n,D.int k,D.vl ((cs.map (kP hs k K)).map tN)]) (M:=M2) (M1:=M2) (d:=.vl ((cs.map (kP hs k K)).map tN)) (ds:=(cs.map (kP hs k K)).map tN) (by simp) rfl (by simp;lia)
  (λi xs M'=>xs=(cs.take i).map tI/\w6 M2 M') ⟨rfl,w6.refl _⟩ (λ_ _ _ _=>rfl) (λi y xs M' hy hI=>by
   obtain⟨rfl,q⟩:=hI;rw[n8,dm]at hy;obtain⟨c,U,rfl⟩:=cz.mp hy;have cl:=(Uo P Z).mp (p1.mem_iff.mp (az U));obtain⟨M4,e4,k4⟩:=bc7 (c:=c) (M:=M') (m:=m-1) (r_ (a_ (by decide) L)) P Z (((h.keep k1).keep k2).keep q);rw[cl.1]at e4;have:(tN ∘ kP hs k K) c=rD (pR hs k K c):=as7 c;rw[this];exact⟨_,tI c,M4,rfl,by simp[e4],by rw[take_one U];simp,q.trans k4⟩)
 rw[dg,dg,qu]at G;have so:=af4 (M:=M3) P Z (d:=.vl (cs.map tI)) p1 rfl;refine⟨M3,?_,(k1.trans k2).trans k3⟩;have G:W8.den (PW (m-1)) [some (.ref n),some (.int k),some (.vl ((cs.map (kP hs k K)).map tN))] M2=.ok (.vl (cs.map tI)) M3:=G;simp[-List.map_map,Fn.run,adt,adq,e1,e2,G,so,Di,cD]
end
end K51
namespace K51
open MW
def ath(M:di)(v:Int)(c:U1):Qf M (.int v) (tI c)=some (decide (v∈c)):=by
 rw[tI,ayo M v _ (λd G=>by obtain⟨i,_,rfl⟩:=bf.mp G;exact⟨i,rfl⟩),List.any_map]
 congr 1
 rw[qe,zr,cu];constructor
 .rintro⟨y,Z,e⟩
  have:y=v:=by simpa[isI]using e
  exact this▸Z
 .exact λh=>⟨v,h,by simp[isI]⟩
def ati(G:1<=m){w:Int}(U:w∈wI Z k):prog.call m 19 [Bs K r Z,.int k,.int w] M=.ok (.int (ed Z k w:Nat)) M:=by
 rcases G4.mp U with rfl|⟨i,f,rfl,hf,_⟩
 .rw[amt G,O5]
 .rw[ayj G hf,Ls hf]
def clW(G:List F)(Z:List (List Kx×D))(k:Nat)(c:U1)(w:Int):Bool:=(wI G (ed G k w)).all λy=>decide (cp G Z w y∈c)
def clB(G:List F)(Z:List (List Kx×D))(k:Nat)(c:U1):Bool:=c.all (clW G Z k c)
def ay0:clB U kvs k c=true↔∀w∈c,∀v∈Rw U kvs k w,v∈c:=by
 rw[clB,ik];refine forall_congr' λw=>forall_congr' λ_=>?_
 rw[clW,ik];constructor
 .intro h v G
  obtain⟨y,Z,rfl⟩:=bf.mp G;simpa using h y Z
 .intro h y Z
  simpa using h _ (bf.mpr ⟨y,Z,rfl⟩)
def af5{Z:Type}{l:List Z}{f:Z->Bool}{i:Nat}{x:Z}(h:l[i]?=some x):(l.take (i+1)).all f=((l.take i).all f&&f x):=by rw[take_one h,List.all_append];simp
abbrev EL(K r:Nat)(hs:List F)(k:Nat)(a2 a3 a4 a5 a6 a7:Option D):Env:=[some (Bs K r hs),some (.int k),a2,a3,a4,a5,a6,a7]
def a7a(hm:1<=m)(P:Cu sz K Z kvs)(hr:M[r]?=some (.dT kvs)){w:Int}(hw:w∈wI Z k){b:Bool}{a2 a4 a7:Option D} :
 ∃U,Lf.den (PW m) (EL K r Z k a2 (some (.int w)) a4 (some (tI c)) (some (.bl b)) a7) M=.ok (.next,EL K r Z k a2 (some (.int w)) a4 (some (tI c)) (some (.bl (b&&clW Z kvs k c w))) U) M:=by
 have e0:(Ka.val (.call 18 (.p (.v 0) (.call 19 (.q (.v 0) (.v 1) (.v 3)))))).den (PW m) (EL K r Z k a2 (some (.int w)) a4 (some (tI c)) (some (.bl b)) a7) M=.ok (.con ((wI Z (ed Z k w)).map D.int)) M:=by have l1:=ati (K:=K) (r:=r) (M:=M) hm hw;have l2:=Yh (K:=K) (r:=r) (M:=M) (k:=ed Z k w) hm P.len;rw[Fv]at l2;generalize ed Z k w=g at l1 l2⊢;simp[l1,l2,srcOf]
 obtain⟨qk,G,e,⟨U,rfl⟩,rfl⟩:=Hk (W:=PW m) (s:=.con ((wI Z (ed Z k w)).map D.int)) (n:=(wI Z (ed Z k w)).length) (t:=.name 7) (b:=De) e0 (by simp[Src.len])
  (λi ρ G=>(∃U,ρ=EL K r Z k a2 (some (.int w)) a4 (some (tI c)) (some (.bl (b&&((wI Z (ed Z k w)).take i).all λy=>decide (cp Z kvs w y∈c)))) U)/\G=M) ⟨⟨a7,by simp⟩,rfl⟩ (λ_ _ _=>rfl) (λi ρ G hi hI=>by
   obtain⟨⟨U,rfl⟩,rfl⟩:=hI;obtain⟨y,L⟩:=Cj hi;have my:=az L;have ck:=Pz P hw my;have lb:=Yi (K:=K) (m:=m) (M:=G) hm hr (asx hw) (asx my) ck.1;have qq:=af5 (f:=λy=>decide (cp Z kvs w y∈c)) L;have ii:=ath G (cp Z kvs w y) c;refine⟨.int y,EL K r Z k a2 (some (.int w)) a4 (some (tI c)) (some (.bl (b&&((wI Z (ed Z k w)).take i).all λy=>decide (cp Z kvs w y∈c)))) (some (.int y)),by simp[Src.item,L],rfl,_,G,?_,⟨some (.int y),rfl⟩,rfl⟩;rw[qq,<-Bool.and_assoc];generalize(b&&((wI Z (ed Z k w)).take i).all λy=>decide (cp Z kvs w y∈c))=b';generalize hd:decide (cp Z kvs w y∈c)=q at ii;cases b' with
   | true=>simp[De,Rh,lb,ii]|false=>simp[De,Rh])
 rw[qu]at e;exact⟨U,e⟩
def a7b(hm:1<=m)(P:Cu sz K Z kvs)(hr:M[r]?=some (.dT kvs))(hc:∀w∈c,w∈wI Z k){a2 a3 a4 a7:Option D} :
 ∃U G,Lg.den (PW m) (EL K r Z k a2 a3 a4 (some (tI c)) (some (.bl true)) a7) M=.ok (.next,EL K r Z k a2 U a4 (some (tI c)) (some (.bl (clB Z kvs k c))) G) M:=by
 obtain⟨qq,L,e,⟨U,G,rfl⟩,rfl⟩:=Hk (W:=PW m) (s:=.con (c.map D.int)) (n:=c.length) (t:=.name 3) (b:=Gq) (it:=.val (.v 5)) (ρ:=EL K r Z k a2 a3 a4 (some (tI c)) (some (.bl true)) a7) (M:=M) (M1:=M) (by simp[srcOf,tI]) (by simp[Src.len])
  (λi ρ L=>(∃U G,ρ=EL K r Z k a2 U a4 (some (tI c)) (some (.bl ((c.take i).all (clW Z kvs k c)))) G)/\L=M) ⟨⟨a3,a7,by simp⟩,rfl⟩ (λ_ _ _=>rfl) (λi ρ L hi hI=>by
   obtain⟨⟨U,G,rfl⟩,rfl⟩:=hI;obtain⟨w,hw⟩:=Cj hi;obtain⟨d7,e2⟩:=a7a (c:=c) (a2:=a2) (a4:=a4) (a7:=G) (b:=(c.take i).all (clW Z kvs k c)) hm P hr (hc w (az hw));rw[<-af5 hw]at e2;exact⟨.int w,EL K r Z k a2 (some (.int w)) a4 (some (tI c)) (some (.bl ((c.take i).all (clW Z kvs k c)))) G,by simp[Src.item,hw],rfl,_,L,by simp[Gq,e2],⟨some (.int w),d7,rfl⟩,rfl⟩)
 rw[qu]at e;exact⟨U,G,e⟩
def a7c(hm:1<=m)(P:Cu sz K Z kvs):∃G,Gu.den (PW m) (EL K r Z k (some (.vl [tI []])) none none none none none) M=.ok (.next,EL K r Z k (some (.vl ((subs (wI Z k)).map tI))) G none none none none) M:=by
 have e0:(Ka.val (.call 18 (.p (.v 0) (.v 1)))).den (PW m) (EL K r Z k (some (.vl [tI []])) none none none none none) M=.ok (.con ((wI Z k).map D.int)) M:=by have L:=Yh (K:=K) (r:=r) (M:=M) (k:=k) hm P.len;rw[Fv]at L;simp[L,srcOf]
 obtain⟨qq,M',e,⟨G,rfl⟩,rfl⟩:=Hk (W:=PW m) (s:=.con ((wI Z k).map D.int)) (n:=(wI Z k).length) (t:=.name 3) (b:=Gs) e0 (by simp[Src.len])
  (λi ρ M'=>(∃G,ρ=EL K r Z k (some (.vl ((subs ((wI Z k).take i)).map tI))) G none none none none)/\M'=M) ⟨⟨none,rfl⟩,rfl⟩ (λ_ _ _=>rfl) (λi ρ M' hi hI=>by
   obtain⟨⟨G,rfl⟩,rfl⟩:=hI;obtain⟨w,hw⟩:=Cj hi;have ls:(subs ((wI Z k).take i)).length<=64:=by
    rw[Wy];have:((wI Z k).take i).length<=6:=gb (List.length_take_le _ _) (by have:=Ul (k:=k) P.len;lia)
    exact Ak (by decide) this
   have cc:Gr.den (PW m) (EL K r Z k (some (.vl ((subs ((wI Z k).take i)).map tI))) (some (.int w)) none none none none) M'=.ok (.vl (((subs ((wI Z k).take i)).map (·++[w])).map tI)) M':=by
    unfold Gr;rw[Bv (d:=.vl ((subs ((wI Z k).take i)).map tI)) (ds:=(subs ((wI Z k).take i)).map tI) (M1:=M') (g:=λd=>match d with|.tup l=>.tup (l++[.int w])|_=>.non) (by simp) rfl (by simp;lia) (λd hd=>by
     obtain⟨c,hc,rfl⟩:=bf.mp hd;have cl:c.length<=6:=gb (Rr.mp hc).length_le (gb (List.length_take_le _ _) (by have:=Ul (k:=k) P.len;lia))
     have U:Eg .add (tI c) (.tup [.int w]) M'=.ok (.tup (c.map D.int++[.int w])) M':=bz (by simp;lia);exact⟨_,rfl,by simp[U];rfl⟩)]
    simp[tI,Ag]
   have U:Eg .add (.vl ((subs ((wI Z k).take i)).map tI)) (.vl (((subs ((wI Z k).take i)).map (·++[w])).map tI)) M'=.ok (.vl ((subs ((wI Z k).take (i+1))).map tI)) M':=by rw[take_one hw,aow,dbl,qj];exact bz (by simp;lia)
   exact⟨.int w,EL K r Z k (some (.vl ((subs ((wI Z k).take i)).map tI))) (some (.int w)) none none none none,by simp[Src.item,hw],rfl,_,M',by simp[-List.map_map,Gs,cc,U],⟨some (.int w),rfl⟩,rfl⟩)
 rw[qu]at e;exact⟨G,e⟩
def ah5(hm:2<=m)(P:Cu sz K Z kvs)(hk:k<K)(hr:M[r]?=some (.dT kvs)):∃M',prog.call m 36 [Bs K r Z,.int k] M=.ok (cD Z kvs k K) M'/\w6 M M':=by
 rw[call_of (a_ (by decide) hm) rfl];obtain⟨c3,e3⟩:=a7c (k:=k) (r:=r) (M:=M) (m:=m-1) (r_ hm) P;have ls:(subs (wI Z k)).length<=64:=by rw[Wy];exact Ak (by decide) (Ul P.len)
 obtain⟨qv,M',e,⟨b3,b5,b6,L,rfl⟩,G,U⟩:=Hk (W:=PW (m-1)) (s:=.con ((subs (wI Z k)).map tI)) (n:=(subs (wI Z k)).length) (t:=.name 5) (b:=Df) (it:=.val (.v 2)) (ρ:=EL K r Z k (some (.vl ((subs (wI Z k)).map tI))) c3 (some (.ref M.length)) none none none) (M:=M++[.lst []]) (M1:=M++[.lst []]) (by simp[srcOf]) (by simp[Src.len])
  (λi ρ M'=>(∃b3 b5 b6 L,ρ=EL K r Z k (some (.vl ((subs (wI Z k)).map tI))) b3 (some (.ref M.length)) b5 b6 L)/\M'[M.length]?=some (.lst ((((subs (wI Z k)).take i).filter (clB Z kvs k)).map tI))/\But M.length (M++[.lst []]) M') ⟨⟨c3,none,none,none,rfl⟩,Eb M _,λ_ _ _ h=>h⟩ (λ_ _ _=>rfl) (λi ρ M' hi hI=>by
   obtain⟨⟨b3,b5,b6,L,rfl⟩,G,U⟩:=hI;obtain⟨c,hc⟩:=Cj hi;have sb:=Rr.mp (az hc);have qk:M'[r]?=some (.dT kvs):=U _ _ (h_ (ye hr)) (o5 hr);obtain⟨d3,d7,e1⟩:=a7b (c:=c) (m:=m-1) (a2:=some (.vl ((subs (wI Z k)).map tI))) (a3:=b3) (a4:=some (.ref M.length)) (a7:=L) (r_ hm) P qk (λw hw=>sb.subset hw);have ap:=Dr (d:=tI c) G (by
    rw[dg];have:=v7 (clB Z kvs k) ((subs (wI Z k)).take i);have:=List.length_take_le i (subs (wI Z k));have:((subs (wI Z k)).take i).length<=(subs (wI Z k)).length:=by rw[Ao];lia
    lia)
   refine⟨tI c,EL K r Z k (some (.vl ((subs (wI Z k)).map tI))) b3 (some (.ref M.length)) (some (tI c)) b6 L,by simp[Src.item,hc],rfl,?_⟩;rw[take_one hc,List.filter_append];cases q:clB Z kvs k c with
   |true =>
    rw[q]at e1;exact⟨_,M'.set M.length (.lst ((((subs (wI Z k)).take i).filter (clB Z kvs k)).map tI++[tI c])),by simp[Df,e1,Eh G,ap],⟨d3,some (tI c),some (.bl true),d7,rfl⟩,by rw[rm G];simp[q],λb o hb ho=>by rw[yf hb.symm];exact U b o hb ho⟩
   |false =>
    rw[q]at e1;exact⟨_,M',by simp[Df,e1],⟨d3,some (tI c),some (.bl false),d7,rfl⟩,by rw[G];simp[q],U⟩)
 rw[qu]at G;have e:Lh.den (PW (m-1)) _ _=_:=e;have pm:((subs (wI Z k)).filter (clB Z kvs k)).Perm (FC Z kvs k K):=ain ((avf aar).filter _) Rq λc=>by rw[Uo P hk,jq,Rr,ay0];exact⟨λh=>⟨abb aar h.1,h.2⟩,λh=>⟨ag1 h.1,h.2⟩⟩
 have so:=af4 P hk pm (q9 G);refine⟨M',?_,λb o hb=>U b o (h_ (ye hb)) (o5 hb)⟩;have qq:Gu.den (PW (m-1)) [some (Bs K r Z),some (.int k),some (.vl [.tup []]),none,none,none,none,none] M=_:=e3;simp[-List.map_map,Fn.run,Pk,Pj,qq,MW.new,e,so,Di,cD]
section
variable{W:G9}{ρ:Env}{M M1:di}{t:Tg}{it:Ka}{ds:List D}
def acv{e:Ex}{k:Nat}(qq:it.den W ρ M=.ok (.con ds) M1)(hl:ds.length<=100000)(I:Nat->List D->di->Prop)(h0:I 0 [] M1)(step:∀i y G M,ds[i]?=some y->I i G M->∃Z x M',t.put y (ρ++List.replicate k none)=some Z/\e.den W Z M=.ok x M'/\I (i+1) (G++[x]) M') :
 ∃U M',(Ex.comp k t it e).den W ρ M=.ok (.vl U) M'/\I ds.length U M':=by
 rw[Ei,qq];obtain⟨U,M',g,h⟩:=Fz (fin:=(Src.con ds).fin) (item:=(Src.con ds).item) (body:=λd M=>(Res.uy (t.put d (ρ++List.replicate k none)) M).bind λL M=>(e.den W L M).bind λx M'=>.ok (some x) M') I (n:=ds.length) (λi G M hi h=>by
  obtain⟨Z,x,M',a,b,c⟩:=step i ds[i] G M (by simp[hi]) h;exact⟨ds[i],some x,M',by simp[Src.item,hi],by rw[a];simp[b],by simpa using c⟩) (λ_ _ _=>rfl) ds.length 0 [] M1 (rz _) h0
 refine⟨U,M',?_,by simpa using h⟩;show(yt (.con ds) _ M1).bind _=_;rw[yt,show(Src.con ds).len=ds.length from rfl,bz hl,g];rfl
end
noncomputable def kyT(c:U1):List Kx:=c.map Sum.inl
theorem af6:∀c:List Int,Wm (c.map D.int)=some (kyT c)
 |[]=>rfl
 |i::c=>by
  rw[dj];simp only[Wm,agq];rw[af6 c];rfl
def a0k(c:U1):Rc (tI c)=some (kyT c):=af6 c
theorem akn:∀{a b:U1},kyT a=kyT b->a=b
 |[],[],_=>rfl|[],_::_,h=>nomatch h|_::_,[],h=>nomatch h
 |x::a,y::b,h=>by
  rw[kyT,kyT,dj,dj]at h;injection h with h1 h2
  cases h1;rw[akn h2]
section
variable{sz:Nat->Nat}{K k g x n r m p:Nat}{hs:List F}{kvs:List (List Kx×D)}{M:di}{c:U1}{cs:List (List Int)}
def a7d(hm:1<=m)(nd:cs.Nodup)(hl:cs.length<=1000):∃Z,prog.call m 24 [.tup (cs.map tI)] M=.ok (.ref M.length) (M++[.dT Z])/\∀(j:Nat) c,cs[j]?=some c->Bp Z (kyT c)=some (.int j):=by
 rw[call_of hm rfl];obtain⟨qq,U,e,⟨b2,b3,rfl⟩,Z,rfl,g2,g3⟩:=Hk (W:=PW (m-1)) (s:=.con (Am (cs.map tI) 0)) (n:=cs.length) (t:=.names [2,3]) (b:=Kl) (it:=.enm (.v 0)) (ρ:=[D.tup (cs.map tI),D.ref M.length,none,none]) (M:=M++[.dT []]) (M1:=M++[.dT []]) (by simp) (by simp[Src.len,Am])
  (λi ρ U=>(∃b2 b3,ρ=[some (.tup (cs.map tI)),some (.ref M.length),b2,b3])/\∃Z,U=M++[.dT Z]/\Z.length<=i/\∀(j:Nat) c,j<i->cs[j]?=some c->Bp Z (kyT c)=some (.int j)) ⟨⟨none,none,rfl⟩,[],rfl,cg _,λ_ _ h=>nomatch h⟩ (λ_ _ _=>rfl) (λi ρ U hi hI=>by
   obtain⟨⟨b2,b3,rfl⟩,Z,rfl,g2,g3⟩:=hI;obtain⟨c,L⟩:=Cj hi;have st:=agz (d:=.int i) (Eb M (.dT Z)) (a0k c) (by lia);rw[acq]at st;have pl:=akf Z (kyT c) (.int i);refine⟨.tup [.int i,tI c],[some (.tup (cs.map tI)),some (.ref M.length),some (.int i),some (tI c)],by simp[Src.item,Am,L],rfl,_,M++[.dT (Fy Z (kyT c) (.int i))],by simp[Kl,st],⟨some (.int i),some (tI c),rfl⟩,_,rfl,by lia,λj d hj G=>?_⟩;rw[afy]
   by_cases q:j=i
   .subst q;rw[L]at G;cases G;rw[bz rfl]
   .rw[bc (λz=>q ?_)]
    .exact g3 j d (by lia) G
    .have:=akn z
     subst this;exact(List.getElem?_inj (ak.mp G).1 nd).mp (G.trans L.symm))
 have e:Rt.den (PW (m-1)) _ _=_:=e;exact⟨Z,by simp[Fn.run,W2,Wz,MW.new,e],λj c h=>g3 j c (ak.mp h).1 h⟩
def bh(hs:List F)(kvs:List (List Kx×D))(b:Nat)(j:Nat)(c:U1):List Int:=(wI hs b).filter λy=>decide (cp hs kvs j y∈c)
def ay1{j:Nat}(Z:hs[j]?=some f):(j:Int)∈wI hs f.a:=G4.mpr (.inr ⟨j,f,rfl,Z,rfl⟩)
def atk(P:Cu sz K hs kvs){j:Nat}(G:hs[j]?=some f)(hc:Clo (wI hs f.a) (Rw hs kvs f.a) c):Clo (wI hs f.b) (Rw hs kvs f.b) (bh hs kvs f.b j c):=by
 refine⟨abb aar List.filter_sublist,λy hy v hv=>?_⟩;obtain⟨Z,U⟩:=jq.mp hy;have U:cp hs kvs j y∈c:=by simpa using U
 obtain⟨z,L,rfl⟩:=bf.mp hv;have e:=Ls (k:=f.a) G;have ck:=Pz P (ay1 G) (y:=y) (by rw[e];exact Z);have as:=af1 P (ay1 G) (y:=y) (z:=z) (by rw[e];exact Z) (by rw[e];exact L);refine jq.mpr ⟨(Pz P Z L).2.1,?_⟩;rw[cu,<-as];exact hc.2 _ U _ (bf.mpr ⟨z,by rw[ck.2.2,e];exact L,rfl⟩)
noncomputable def qI(q:Int->Bool)(d:D):Bool:=match d with|.int i=>q i|_=>false
def af7(l:U1)(q:Int->Bool):(l.map D.int).filter (qI q)=(l.filter q).map D.int:=by rw[List.filter_map];rfl
def bc8(Z:3<=m)(P:Cu sz K hs kvs)(h:Made n r K hs kvs M){j:Nat}(G:hs[j]?=some f):prog.call m 31 [.ref n,.int j,tI c] M=.ok (tI (bh hs kvs f.b j c)) (M++[.lst (yu hs f.b)]):=by
 rw[call_of (a_ (by decide) Z) rfl];have U:=h.keep (w6.app M [.lst (yu hs f.b)]);have g0:=(Dg (M:=M) (W:=PW (m-1)) (n:=n) (ρ:=[D.ref n,D.int j,tI c,none]) (o:=.v 0) (mm:=1) (es:=.z) (ds:=[]) (fi:=2) (by simp) (by simp) h.1 rfl).trans (Uj (r_ (a_ (by decide) Z)) h);have g1:=(Dg (M:=M) (W:=PW (m-1)) (n:=n) (ρ:=[D.ref n,D.int j,tI c,D.int f.b]) (o:=.v 0) (mm:=3) (es:=.o (.v 3)) (ds:=[.int f.b]) (fi:=4) (by simp) (by simp) h.1 rfl).trans (ack (r_ (a_ (by decide) Z)) h P.len);have c1:Fb.den (PW (m-1)) [some (.ref n),some (.int j),some (tI c),some (.int f.b)] M=.ok (.vl ((bh hs kvs f.b j c).map D.int)) (M++[.lst (yu hs f.b)]):=by
  unfold Fb;rw[Gz (d:=.ref M.length) (ds:=yu hs f.b) (M1:=M++[.lst (yu hs f.b)]) (q:=qI λy=>decide (cp hs kvs j y∈c)) (g:=id) g1 (by simp[gn]) (a_ (Hx P.len) (by decide)) (λd L=>by
   rw[Fv]at L;obtain⟨y,hy,rfl⟩:=bf.mp L;have ck:=Pz P (ay1 G) (y:=y) (by rw[Ls G];exact hy);have g2:=(Dg (M:=M++[.lst (yu hs f.b)]) (W:=PW (m-1)) (n:=n) (ρ:=[D.ref n,D.int j,tI c,D.int f.b,D.int y]) (o:=.v 0) (mm:=2) (es:=.p (.v 1) (.v 4)) (ds:=[.int j,.int y]) (fi:=3) (by simp) (by simp) U.1 rfl).trans (aap (r_ Z) U ck.1);exact⟨_,rfl,by simp[-Hi,g2,ath,qI],λ_=>by simp⟩)]
  rw[Fv,af7];simp[bh]
 have tv:qy .tuple [.vl ((bh hs kvs f.b j c).map D.int)] (M++[.lst (yu hs f.b)])=.ok (tI (bh hs kvs f.b j c)) _:=Di _ _;simp[-Hi,Fn.run,Nv,Nu,g0,U9 G,R8,c1,tv]
def Uq(P:Cu sz K hs kvs)(Z:k<K):c∈CR hs kvs k K↔Clo (wI hs k) (Rw hs kvs k) c:=by rw[CR,(Ow _).mem_iff,Uo P Z]
def a0l:(CR hs kvs k K).Nodup:=(Ow _).nodup_iff.mpr Rq
def Yq(P:Cu sz K hs kvs)(Z:k<K):(CR hs kvs k K).length<=33:=Qz P a0l λc h=>(Uq P Z).mp h
noncomputable def ixT(c:U1)(cs:List (List Int)):Nat:=cs.findIdx λd=>decide (d=c)
def ay2(h:c∈cs):cs[ixT c cs]?=some c:=by
 have Z:ixT c cs<cs.length:=List.findIdx_lt_length_of_exists ⟨c,h,by simp⟩
 have:=List.findIdx_getElem (w:=Z);simp only[cu]at this;rw[dz Z];exact lg some this
def trA(hs:List F)(kvs:List (List Kx×D))(K j:Nat):List Nat:=match hs[j]? with
 |some f=>(CR hs kvs f.a K).map λc=>ixT (bh hs kvs f.b j c) (CR hs kvs f.b K)
 |none=>[]
def Q0(hs:List F)(kvs:List (List Kx×D))(K:Nat):List D:=(List.range K).map λk=>cD hs kvs k K
def trD(hs:List F)(kvs:List (List Kx×D))(K:Nat):D:=.tup [.tup [.tup ((List.range K).map λk=>nD (CR hs kvs k K).length),.tup ((List.range hs.length).map λj=>Ac (trA hs kvs K j))],.tup (Q0 hs kvs K)]
def ako{k:Nat}(Z:k<K):Bj (.tup (Q0 hs kvs K)) (.int k) M=some (cD hs kvs k K):=Iz q_ (by simp[Q0,Z])
def atl{j:Nat}(Z:hs[j]?=some f):trA hs kvs K j=(CR hs kvs f.a K).map λc=>ixT (bh hs kvs f.b j c) (CR hs kvs f.b K):=by simp only[trA,Z]
def Te{Z:Type}(f:Nat->Z)(i:Nat):(List.range (i+1)).map f=(List.range i).map f++[f i]:=by simp[vf]
def af8{W:G9}{Z:Env}{x y:Nat}(L:Z[x]?=some (some (.tup (Q0 hs kvs K))))(U:y=Z.length)(hK:K<=3) :
 (Ex.comp 1 (.name y) (.val (.v x)) (.l (.v y))).den W Z M=.ok (.vl ((List.range K).map λk=>nD (CR hs kvs k K).length)) M:=by
 subst U;rw[S9 (g:=λk=>nD (CR hs kvs k K).length) (ds:=Q0 hs kvs K) (by simp[L,srcOf]) (by simp[Q0];lia) (λi d G=>by
  have hi:i<K:=by simpa[Q0]using(ak.mp G).1
  have:d=cD hs kvs i K:=by simpa[Q0,hi]using G.symm
  subst this;exact⟨_,rfl,by simp[qy,Dm,Ml,cD,nD]⟩)]
 simp[Q0]
noncomputable abbrev ET(n:Nat)(rw':D)(p:Nat)(b3 b4 b5 b6:Option D):Env:=[some (.ref n),some rw',some (.ref p),b3,b4,b5,b6]
def a7e(hm:3<=m)(P:Cu sz K hs kvs)(h:Made n r K hs kvs M){j q:Nat}(G:hs[j]?=some f){kv:List (List Kx×D)}(hq:M[q]?=some (.dT kv))(L:∀(i:Nat) c,(CR hs kvs f.b K)[i]?=some c->Bp kv (kyT c)=some (.int i)){b6:Option D} :
 ∃M',Ql.den (PW m) (ET n (.tup (Q0 hs kvs K)) p (some (.int j)) (some (eD f)) (some (.ref q)) b6) M=.ok (.vl ((trA hs kvs K j).map nD)) M'/\w6 M M':=by
 have U:=az G;obtain⟨ys,M',e,rfl,Z⟩:=acv (W:=PW m) (t:=.name 7) (k:=1) (it:=.val (.ix (.v 1) (.ix (.v 4) (.i 0)))) (e:=.ix (.v 5) (.call 31 (.q (.v 0) (.v 3) (.v 7)))) (ds:=(CR hs kvs f.a K).map tI) (ρ:=ET n (.tup (Q0 hs kvs K)) p (some (.int j)) (some (eD f)) (some (.ref q)) b6) (M:=M) (M1:=M) (by simp[U8,ako (P.Y5 f U),cD,srcOf]) (by have:=Yq P (P.Y5 f U);simp;lia)
  (λi xs M'=>xs=((CR hs kvs f.a K).take i).map (λc=>nD (ixT (bh hs kvs f.b j c) (CR hs kvs f.b K)))/\w6 M M') ⟨rfl,w6.refl _⟩ (λi y xs M' hy hI=>by
   obtain⟨rfl,Z⟩:=hI;rw[dm]at hy;obtain⟨c,hc,rfl⟩:=cz.mp hy;have cl:=(Uq P (P.Y5 f U)).mp (az hc);have cb:=bc8 (c:=c) (M:=M') hm P (h.keep Z) G;have lk:=L _ _ (ay2 ((Uq P (P.abo f U)).mpr (atk P G cl)));have ix:=Zo (b:=tI (bh hs kvs f.b j c)) (o5 (X:=[.lst (yu hs f.b)]) (Z _ _ hq)) (a0k _);rw[lk]at ix;exact⟨_,_,M'++[.lst (yu hs f.b)],rfl,by simp[cb,ix];rfl,by rw[take_one hc];simp[nD],Z.trans (w6.app _ _)⟩)
 refine⟨M',?_,Z⟩;rw[dg,qu]at e;unfold Ql;rw[e,atl G,n8];rfl
def am3(Z:6<=m)(P:Cu sz K hs kvs)(h:Made n r K hs kvs M):∃M',prog.call m 28 [.ref n] M=.ok (trD hs kvs K) M'/\w6 M M':=by
 rw[call_of (a_ (by decide) Z) rfl];have k3:=P.k3;have hl:=P.len;have g0:=(Dg (M:=M) (W:=PW (m-1)) (n:=n) (ρ:=[D.ref n,none,none,none,none,none,none]) (o:=.v 0) (mm:=0) (es:=.z) (ds:=[]) (fi:=1) (by simp) (by simp) h.1 rfl).trans (kinds_ok (r_ (a_ (by decide) Z)) h);obtain⟨ys,M1,c3,rfl,k1⟩:=Rm (W:=PW (m-1)) (k:=1) (t:=.name 7) (it:=.meth (.v 0) 0 .z) (e:=.call 29 (.p (.v 0) (.v 7))) (n:=K) (ρ:=[D.ref n,none,none,none,none,none,none]) (M:=M) (M1:=M) g0 (by lia)
  (λi xs M'=>xs=(List.range i).map (λk=>cD hs kvs k K)/\w6 M M') ⟨rfl,w6.refl _⟩ (λi xs M' hi hI=>by
   obtain⟨rfl,q⟩:=hI;obtain⟨M2,e2,k2⟩:=am2 (k:=i) (m:=m-1) (r_ Z) P hi (h.keep q);exact⟨_,cD hs kvs i K,M2,rfl,by simp[e2],by rw[Te],q.trans k2⟩)
 have c3:W7.den (PW (m-1)) [some (.ref n),none,none,none,none,none,none] M=.ok (.vl (Q0 hs kvs K)) M1:=c3;have h1:=(h.keep k1).keep (w6.app M1 [.lst []]);have g1:=(Dg (M:=M1++[.lst []]) (W:=PW (m-1)) (n:=n) (ρ:=ET n (.tup (Q0 hs kvs K)) M1.length none none none none) (o:=.v 0) (mm:=1) (es:=.z) (ds:=[]) (fi:=2) (by simp) (by simp) h1.1 rfl).trans (Uj (r_ (a_ (by decide) Z)) h1);obtain⟨qq,M2,e,⟨L,b4,U,rfl⟩,p2,k2⟩:=Hk (W:=PW (m-1)) (s:=.con (Am (hs.map eD) 0)) (n:=hs.length) (t:=.names [3,4]) (b:=Qm) (it:=.enm (.meth (.v 0) 1 .z)) (ρ:=ET n (.tup (Q0 hs kvs K)) M1.length none none none none) (M:=M1++[.lst []]) (M1:=M1++[.lst []]) (by rw[Vz,g1];rfl) (by simp[Src.len,Am])
  (λi G M'=>(∃L b4 U,G=ET n (.tup (Q0 hs kvs K)) M1.length L b4 U none)/\M'[M1.length]?=some (.lst ((List.range i).map λj=>Ac (trA hs kvs K j)))/\w6 M1 M') ⟨⟨none,none,none,rfl⟩,Eb M1 _,w6.app _ _⟩ (λ_ _ _=>rfl) (λi G M' hi hI=>by
   obtain⟨⟨L,b4,U,rfl⟩,q1,q2⟩:=hI;obtain⟨f,hf⟩:=Cj hi;have mf:=az hf;obtain⟨kv,e1,e2⟩:=a7d (M:=M') (m:=m-1) (r_ (a_ (by decide) Z)) (a0l (hs:=hs) (kvs:=kvs) (k:=f.b) (K:=K)) (by have:=Yq P (P.abo f mf);lia);obtain⟨M3,e3,k3⟩:=a7e (M:=M'++[.dT kv]) (m:=m-1) (p:=M1.length) (b6:=none) (r_ (a_ (by decide) Z)) P (((h.keep k1).keep q2).keep (w6.app _ _)) hf (Eb M' _) e2;have q3:=k3 _ _ (o5 q1);have ap:=Dr (d:=Ac (trA hs kvs K i)) q3 (by simp;lia);rw[<-Te (λj=>Ac (trA hs kvs K j))]at ap;have tv:=Di M3 ((trA hs kvs K i).map nD);have e1:prog.call (m-1) 24 [cD hs kvs f.b K] M'=_:=e1;refine⟨.tup [.int i,eD f],ET n (.tup (Q0 hs kvs K)) M1.length (some (.int i)) (some (eD f)) U none,by simp[Src.item,Am,hf],rfl,_,_,?_,⟨some (.int i),some (eD f),some (.ref M'.length),rfl⟩,rm q3,Yn (cg _) (q2.trans ((w6.app _ _).trans k3))⟩;simp[Qm,R8,ako (P.abo f mf),e1,e3,tv,Eh (o5 (X:=[.dT kv]) q1)];exact ap▸rfl)
 have e:W6.den (PW (m-1)) _ _=_:=e;have c1:W5.den (PW (m-1)) (ET n (.tup (Q0 hs kvs K)) M1.length L b4 U none) M2=_:=af8 rfl rfl k3;have tv:qy .tuple [.ref M1.length] M2=.ok (.tup ((List.range hs.length).map λj=>Ac (trA hs kvs K j))) M2:=by simp[qy,Dm,Mr (q9 p2)]
 refine⟨M2,?_,k1.trans k2⟩;simp[Fn.run,adp,ado,c3,Di,MW.new,e,c1,tv,trD]
end
theorem a0m(M:di)(n:Nat):∀a b:List Int,Uw (Mi M (n+1)) (a.map D.int) (b.map D.int)=some (decide (a=b))
 |[],[]=>rfl|[],_::_=>rfl|_::_,[]=>rfl
 |x::a,y::b=>by
  rw[dj,dj,Hj (show Mi M (n+1) (.int x) (.int y)=some (decide (x=y))from rfl) (a0m M n a b)]
  congr 1
  rw[qe];simp
theorem a0n(M:di)(c:U1):∀Z:List (List Int),Qe M (tI c) (Z.map tI)=some (Z.map λd=>decide (d=c))
 |[]=>rfl
 |d::Z=>by
  rw[dj,Qe,a0n M c Z,show Bq M (tI d) (tI c)=some (decide (d=c))from a0m M 4 d c];rfl
def ay3(h:c∈cs):Qg .J9 (.tup (cs.map tI)) [tI c] M=.ok (.int (ixT c cs:Nat)) M:=by
 have e:Wn M (tI c) (cs.map tI)=some (ixT c cs):=by rw[Wn,a0n,mq,Yk,List.findIdx?_eq_some_iff_findIdx_eq];exact⟨List.findIdx_lt_length_of_exists ⟨c,h,by simp⟩,rfl⟩
 show Res.uy ((Wn M (tI c) (cs.map tI)).map _) M=_;rw[e];rfl
abbrev EU(K r:Nat)(hs:List F)(rw':D)(p:Nat)(b3 b4 b5 b6 b7 b8:Option D):Env:=[some (Bs K r hs),some rw',some (.ref p),b3,b4,b5,b6,b7,b8]
def a7f(hm:1<=m)(P:Cu sz K Z kvs)(hr:M[r]?=some (.dT kvs)){j q:Nat}(hj:Z[j]?=some f)(hq:M[q]?=some (.lst []))(qk:r≠q){b7 b8:Option D} :
 ∃L G M',Lj.den (PW m) (EU K r Z (.tup (Q0 Z kvs K)) p (some (.int j)) (some (.int f.a)) (some (.int f.b)) (some (.ref q)) b7 b8) M=.ok (.next,EU K r Z (.tup (Q0 Z kvs K)) p (some (.int j)) (some (.int f.a)) (some (.int f.b)) (some (.ref q)) L G) M'/\M'[q]?=some (.lst ((trA Z kvs K j).map nD))/\But q M M':=by
 have mf:=az hj;obtain⟨qv,M',e,⟨L,G,rfl⟩,U,g2⟩:=Hk (W:=PW m) (s:=.con ((CR Z kvs f.a K).map tI)) (n:=(CR Z kvs f.a K).length) (t:=.name 7) (b:=Gw) (it:=.val (.ix (.v 1) (.v 4))) (ρ:=EU K r Z (.tup (Q0 Z kvs K)) p (some (.int j)) (some (.int f.a)) (some (.int f.b)) (some (.ref q)) b7 b8) (M:=M) (M1:=M) (by simp[ako (P.Y5 f mf),cD,srcOf]) (by simp[Src.len])
  (λi ρ M'=>(∃L G,ρ=EU K r Z (.tup (Q0 Z kvs K)) p (some (.int j)) (some (.int f.a)) (some (.int f.b)) (some (.ref q)) L G)/\M'[q]?=some (.lst (((CR Z kvs f.a K).take i).map λc=>nD (ixT (bh Z kvs f.b j c) (CR Z kvs f.b K))))/\But q M M') ⟨⟨b7,b8,rfl⟩,hq,λ_ _ _ h=>h⟩ (λ_ _ _=>rfl) (λi ρ M' hi hI=>by
   obtain⟨⟨L,G,rfl⟩,U,g2⟩:=hI;obtain⟨c,hc⟩:=Cj hi;have cl:=(Uq P (P.Y5 f mf)).mp (az hc);have bm:=(Uq P (P.abo f mf)).mpr (atk P hj cl);have qq:=g2 _ _ qk hr;have c2:Gv.den (PW m) (EU K r Z (.tup (Q0 Z kvs K)) p (some (.int j)) (some (.int f.a)) (some (.int f.b)) (some (.ref q)) (some (tI c)) G) M'=.ok (.vl ((bh Z kvs f.b j c).map D.int)) M':=by
    unfold Gv;have lw:=Yh (K:=K) (r:=r) (M:=M') (k:=f.b) hm P.len;rw[Gz (d:=.vl (yu Z f.b)) (ds:=yu Z f.b) (M1:=M') (q:=qI λy=>decide (cp Z kvs j y∈c)) (g:=id) (by simp[lw]) rfl (a_ (Hx P.len) (by decide)) (λd hd=>by
     rw[Fv]at hd;obtain⟨y,hy,rfl⟩:=bf.mp hd;have ck:=Pz P (ay1 hj) (y:=y) (by rw[Ls hj];exact hy);have lb:=Yi (K:=K) (m:=m) (M:=M') hm qq (show(-1:Int)<=j by lia) (asx hy) ck.1;exact⟨_,rfl,by simp[lb,ath,qI],λ_=>by simp⟩)]
    rw[Fv,af7];simp[bh]
   have tv:qy .tuple [.vl ((bh Z kvs f.b j c).map D.int)] M'=.ok (tI (bh Z kvs f.b j c)) M':=Di _ _;have ix:Qg .J9 (cD Z kvs f.b K) [tI (bh Z kvs f.b j c)] M'=.ok (.int (ixT (bh Z kvs f.b j c) (CR Z kvs f.b K):Nat)) M':=ay3 bm;have ty:Vp .J9 (cD Z kvs f.b K) M'=true:=rfl;have ap:=Dr (d:=nD (ixT (bh Z kvs f.b j c) (CR Z kvs f.b K))) U (by have:=Yq P (P.Y5 f mf);rw[dg,Ao];lia);exact⟨tI c,EU K r Z (.tup (Q0 Z kvs K)) p (some (.int j)) (some (.int f.a)) (some (.int f.b)) (some (.ref q)) (some (tI c)) G,by simp[Src.item,hc],rfl,EU K r Z (.tup (Q0 Z kvs K)) p (some (.int j)) (some (.int f.a)) (some (.int f.b)) (some (.ref q)) (some (tI c)) (some (.vl ((bh Z kvs f.b j c).map D.int))),M'.set q (.lst (((CR Z kvs f.a K).take i).map (λc=>nD (ixT (bh Z kvs f.b j c) (CR Z kvs f.b K)))++[nD (ixT (bh Z kvs f.b j c) (CR Z kvs f.b K))])),by
    rw[nD]at ap;simp[Gw,c2,Eh U,ako (P.abo f mf),ty,tv,ix,ap,nD],⟨_,_,rfl⟩,by rw[rm U,take_one hc];simp,λb o hb ho=>by rw[yf hb.symm];exact g2 b o hb ho⟩)
 rw[qu]at U;refine⟨L,G,M',e,?_,g2⟩;rw[U,atl hj,n8];rfl
def ah6(hm:3<=m)(P:Cu sz K Z kvs)(hr:M[r]?=some (.dT kvs)):∃M',prog.call m 37 [Bs K r Z] M=.ok (trD Z kvs K) M'/\w6 M M':=by
 rw[call_of (a_ (by decide) hm) rfl];have k3:=P.k3;have hl:=P.len;obtain⟨ys,M1,c3,rfl,k1⟩:=Rm (W:=PW (m-1)) (k:=1) (t:=.name 9) (it:=.ix (.v 0) (.i 0)) (e:=.call 36 (.p (.v 0) (.v 9))) (n:=K) (ρ:=[Bs K r Z,none,none,none,none,none,none,none,none]) (M:=M) (M1:=M) (by simp[asj]) (by lia)
  (λi xs M'=>xs=(List.range i).map (λk=>cD Z kvs k K)/\w6 M M') ⟨rfl,w6.refl _⟩ (λi xs M' hi hI=>by
   obtain⟨rfl,q⟩:=hI;obtain⟨M2,e2,k2⟩:=ah5 (k:=i) (m:=m-1) (r_ hm) P hi (q _ _ hr);exact⟨_,cD Z kvs i K,M2,rfl,by simp[e2],by rw[Te],q.trans k2⟩)
 have c3:Lp.den (PW (m-1)) [some (Bs K r Z),none,none,none,none,none,none,none,none] M=.ok (.vl (Q0 Z kvs K)) M1:=c3;obtain⟨qk,M2,e,⟨b3,b4,b5,b6,L,U,rfl⟩,p2,k2⟩:=Dl (W:=PW (m-1)) (t:=.name 3) (b:=Gx) (it:=.l (.ix (.v 0) (.i 1))) (n:=Z.length) (ρ:=EU K r Z (.tup (Q0 Z kvs K)) M1.length none none none none none none) (M:=M1++[.lst []]) (M1:=M1++[.lst []]) (by simp[Yg,Xe]) (by lia)
  (λi G M'=>(∃b3 b4 b5 b6 L U,G=EU K r Z (.tup (Q0 Z kvs K)) M1.length b3 b4 b5 b6 L U)/\M'[M1.length]?=some (.lst ((List.range i).map λj=>Ac (trA Z kvs K j)))/\w6 M1 M') ⟨⟨none,none,none,none,none,none,rfl⟩,Eb M1 _,w6.app _ _⟩ (λi G M' hi hI=>by
   obtain⟨⟨b3,b4,b5,b6,L,U,rfl⟩,q1,q2⟩:=hI;obtain⟨f,hf⟩:=Cj hi;have qq:=q2 _ _ (k1 _ _ hr);obtain⟨c7,c8,M3,e3,g3,t3⟩:=a7f (p:=M1.length) (M:=M'++[.lst []]) (m:=m-1) (b7:=L) (b8:=U) (r_ (a_ (by decide) hm)) P (o5 qq) hf (Eb M' _) (h_ (ye qq));have q3:=t3 _ _ (h_ (ye q1)) (o5 q1);have ap:=Dr (d:=Ac (trA Z kvs K i)) q3 (by simp;lia);rw[<-Te (λj=>Ac (trA Z kvs K j))]at ap;have tv:qy .tuple [.ref M'.length] M3=.ok (Ac (trA Z kvs K i)) M3:=by simp[qy,Dm,Mr (q9 g3),Ac]
   have pe:∀G,(Tg.names [4,5]).put (eD f) G=some ((G.set 4 (some (.int f.a))).set 5 (some (.int f.b))):=λ_=>rfl
   refine⟨_,.next,EU K r Z (.tup (Q0 Z kvs K)) M1.length (some (.int i)) (some (.int f.a)) (some (.int f.b)) (some (.ref M'.length)) c7 c8,_,rfl,?_,.inl rfl,⟨_,_,_,_,_,_,rfl⟩,rm (o:=.lst ((List.range (i+1)).map λj=>Ac (trA Z kvs K j))) q3,Yn (cg _) (q2.trans λb o ho=>t3 b o (h_ (ye ho)) (o5 ho))⟩;simp[Gx,Yg,U9 hf,pe,MW.new,e3,Eh q3,tv,ap])
 have e:Ln.den (PW (m-1)) _ _=_:=e;have c1:Li.den (PW (m-1)) (EU K r Z (.tup (Q0 Z kvs K)) M1.length b3 b4 b5 b6 L U) M2=_:=af8 rfl rfl k3;have tv:qy .tuple [.ref M1.length] M2=.ok (.tup ((List.range Z.length).map λj=>Ac (trA Z kvs K j))) M2:=by simp[qy,Dm,Mr (q9 p2)]
 refine⟨M2,?_,k1.trans k2⟩;simp[Fn.run,Pq,Pn,c3,Di,MW.new,e,c1,tv,trD]
theorem akp:∀n,allB (List.replicate n (.bl true))=some true
 |0=>rfl|n+1=>by rw[List.replicate_succ,allB,akp n];rfl
def same_int(G:1<=m)(i:Int):prog.call m 35 [.int i,.int i] M=.ok (.bl true) M:=by rw[call_of G rfl];have Z:qy .isSeq [.int i] M=.ok (.bl false) M:=rfl;have L:qy .isBool [.int i] M=.ok (.bl false) M:=rfl;have U:Bq M (.bl false) (.bl false)=some true:=rfl;simp[Fn.run,N5,Nz,Z,L,U,Rh]
def Gg(hm:1<=m){ds:List D}(U:ds.length<=100000)(h:∀d∈ds,prog.call (m-1) 35 [d,d] M=.ok (.bl true) M):prog.call m 35 [.tup ds,.tup ds] M=.ok (.bl true) M:=by
 rw[call_of hm rfl];have e1:qy .isSeq [.tup ds] M=.ok (.bl true) M:=rfl;have e2:qy .isTuple [.tup ds] M=.ok (.bl true) M:=rfl;have e3:qy .isList [.tup ds] M=.ok (.bl false) M:=rfl;have e4:∀b,Bq M (.bl b) (.bl b)=some true:=λb=>by cases b<;>rfl
 have e6:qy .len [.tup ds] M=.ok (.int ds.length) M:=rfl;have c:Jf.den (PW (m-1)) [some (.tup ds),some (.tup ds)] M=.ok (.vl (List.replicate ds.length (.bl true))) M:=by
  unfold Jf;rw[S9 (g:=λ_=>.bl true) (ds:=Ke [ds,ds] ds.length) (atb (by simp) (by simp) rfl) (by simpa[Ke]using U) (λi L Z=>by
   have G:i<ds.length:=by simpa[Ke]using(ak.mp Z).1
   have:L=.tup [ds[i],ds[i]]:=by rw[Ke,dm,lq G]at Z;cases Z;simp[G]
   subst this;exact⟨[some (.tup ds),some (.tup ds),some ds[i],some ds[i]],rfl,by simp[h _ (ph G)]⟩)]
  simp[Ke,List.map_const']
 have al:qy .all [.vl (List.replicate ds.length (.bl true))] M=.ok (.bl true) M:=by show Res.uy ((allB _).map D.bl) M=_;rw[akp];rfl
 simp[Fn.run,N5,Nz,c,e1,e2,e3,e4,e6,al,agx]
def ay4(hm:5<=m)(P:Cu sz K G kvs):prog.call m 35 [trD G kvs K,trD G kvs K] M=.ok (.bl true) M:=by
 have k3:=P.k3;have hl:=P.len;refine Gg (by lia) (by simp) λd Z=>?_
 have Z:d=.tup [.tup ((List.range K).map λk=>nD (CR G kvs k K).length),.tup ((List.range G.length).map λj=>Ac (trA G kvs K j))]\/d=.tup (Q0 G kvs K):=by simpa using Z
 rcases Z with rfl|rfl
 .refine Gg (by lia) (by simp) λd Z=>?_
  have Z:d=.tup ((List.range K).map λk=>nD (CR G kvs k K).length)\/d=.tup ((List.range G.length).map λj=>Ac (trA G kvs K j)):=by simpa using Z
  rcases Z with rfl|rfl
  .refine Gg (by lia) (by simp;lia) λd Z=>?_
   obtain⟨i,_,rfl⟩:=bf.mp Z;exact same_int (by lia) _
  .refine Gg (by lia) (by simp;lia) λd Z=>?_
   obtain⟨j,hj,rfl⟩:=bf.mp Z;obtain⟨f,L⟩:=Cj (iw.mp hj);refine Gg (by lia) (by have:=Yq P (P.Y5 f (az L));rw[dg,atl L,dg];lia) λd Z=>?_
   obtain⟨i,_,rfl⟩:=bf.mp Z;exact same_int (by lia) _
 .refine Gg (by lia) (by simp[Q0];lia) λd Z=>?_
  obtain⟨k,U,rfl⟩:=bf.mp Z;have U:=iw.mp U;refine Gg (by lia) (by have:=Yq P U;rw[dg];lia) λd Z=>?_
  obtain⟨c,hc,rfl⟩:=bf.mp Z;have:=((Uq P U).mp hc).1;refine Gg (by lia) (by
   have h1:=(ag1 this).length_le;have h2:=Ul (k:=k) hl;rw[dg];lia) λd Z=>?_
  obtain⟨i,_,rfl⟩:=bf.mp Z;exact same_int (by lia) _
def atm{body:D->di->Res (Option D)}{d0 d1 x0 x1:D}(Z:body d0 M=.ok (some x0) M1)(G:body d1 M1=.ok (some x1) M2):yt (.con [d0,d1]) body M=.ok [x0,x1] M2:=by simp[yt,Src.len,Ce,Src.item,Src.fin,Z,G]
def atn{k:Nat}{t:Tg}{it e:Ex}{d0 d1 x0 x1:D}{Z G:Env}(hi:it.den W U M=.ok (.vl [d0,d1]) M)(p0:t.put d0 (U++List.replicate k none)=some Z)(h0:e.den W Z M=.ok x0 M1)(p1:t.put d1 (U++List.replicate k none)=some G)(h1:e.den W G M1=.ok x1 M2) :
 (Ex.comp k t (.val it) e).den W U M=.ok (.vl [x0,x1]) M2:=by
 rw[Ei,Ii,hi];have:=atm (d0:=d0) (d1:=d1) (x0:=x0) (x1:=x1) (M:=M) (M1:=M1) (M2:=M2) (body:=λd M=>(Res.uy (t.put d (U++List.replicate k none)) M).bind λL M=>(e.den W L M).bind λx M'=>.ok (some x) M') (by rw[p0];simp[h0]) (by rw[p1];simp[h1]);simp only[Res.z7];show(yt (.con [d0,d1]) _ M).bind _=_;rw[this];rfl
structure Two(n r a:Nat)(sz:Nat->Nat)(K:Nat)(hs:List F)(kvs:List (List Kx×D))(M:di):Prop where
 pat:Cu sz K hs kvs
 made:Made n a K hs kvs M
 tab:M[r]?=some (.dT kvs)
theorem Two.keep{n r a:Nat}{sz:Nat->Nat}{K:Nat}{G:List F}{Z:List (List Kx×D)}{M M':di}(T:Two n r a sz K G Z M)(k:w6 M M'):Two n r a sz K G Z M':=⟨T.pat,T.made.keep k,k _ _ T.tab⟩
noncomputable abbrev EW(a0 a1 a2 a3 a4 a5:Option D):Env:=[a0,a1,a2,a3,a4,a5]
def akq(hm:6<=m)(T:Two n r a sz K Z kvs M){a0 a1 a2 a3:Option D} :
 ∃M',V4.den (PW m) (EW a0 a1 a2 a3 (some (Bs K r Z)) (some (.ref n))) M=.ok (.next,EW a0 a1 a2 a3 (some (Bs K r Z)) (some (.ref n))) M'/\w6 M M':=by
 obtain⟨M1,e1,U⟩:=am3 (m:=m) hm T.pat T.made;obtain⟨G,e2,L⟩:=ah6 (m:=m) (by lia) T.pat (U _ _ T.tab);have e3:=ay4 (M:=G) (m:=m) (by lia) T.pat;refine⟨G,?_,U.trans L⟩;simp[V4,e1,e2,e3]
def a7g{m:Nat}{ns:U1}{M:di}(hm:7<=m):∃M',prog.call m 38 [.fz (ns.map D.int)] M=.ok (.bl true) M':=by
 rw[call_of (by lia) rfl];obtain⟨n0,f0,s0,o0⟩:=ady (m:=m-1) (k:=0) (ns:=ns) (M:=M) (by lia);have zk:Has M.length f0 (M++[.lst [.int n0,.bl f0]]):=⟨n0,by simp,o0⟩;obtain⟨K0,U,q7,Z,qq,M1,e0,p0,z3,P0,t0⟩:=Xd (m:=m-1) (by lia) zk;obtain⟨n1,f1,s1,o1⟩:=ady (m:=m-1) (k:=1) (ns:=ns) (M:=M1) (by lia);have q6:Has M1.length f1 (M1++[.lst [.int n1,.bl f1]]):=⟨n1,by simp,o1⟩;obtain⟨K1,L,q8,G,qv,M2,e1,p1,z4,P1,t1⟩:=Xd (m:=m-1) (by lia) q6;have q4:M2[U]?=some (.dT qq):=t1.keep U _ (by have:=ye p0;lia) (o5 p0);have d0:qy .dict [.ref U] M2=.ok (.ref M2.length) (M2++[.dT qq]):=by simp[qy,Dm,Vy,q4,P0.sm,MW.new]
 have q5:(M2++[.dT qq]++[.ins 3 []])[M2.length+1]?=some (.ins 3 []):=by simp
 obtain⟨M4,a0,i0,m0,z5,z9,k0⟩:=ai2 (M:=M2++[.dT qq]++[.ins 3 []]) (m:=m-1) (r:=M2.length) (n:=M2.length+1) (by lia) P0 (by simp) q5;have q1:w6 M2 M4:=λx o h=>k0 x o (by have:=ye h;lia) (o5 (o5 h))
 have d1:qy .dict [.ref L] M4=.ok (.ref M4.length) (M4++[.dT qv]):=by simp[qy,Dm,Vy,q1 _ _ p1,P1.sm,MW.new]
 have zv:(M4++[.dT qv]++[.ins 3 []])[M4.length+1]?=some (.ins 3 []):=by simp
 obtain⟨M5,a1,i1,m1,z2,z1,k1⟩:=ai2 (M:=M4++[.dT qv]++[.ins 3 []]) (m:=m-1) (r:=M4.length) (n:=M4.length+1) (by lia) P1 (by simp) zv;have q2:w6 M4 M5:=λx o h=>k1 x o (by have:=ye h;lia) (o5 (o5 h))
 have T0:Two (M2.length+1) U a0 q7 K0 Z qq M5:=⟨P0,m0.keep q2,q2 _ _ (q1 _ _ q4)⟩;have T1:Two (M4.length+1) L a1 q8 K1 G qv M5:=⟨P1,m1,q2 _ _ (q1 _ _ p1)⟩;have c1:aiu.den (PW (m-1)) [some (.fz (ns.map D.int)),some (.vl [Bs K0 U Z,Bs K1 L G]),none,none,none,none] M2=.ok (.vl [.ref (M2.length+1),.ref (M4.length+1)]) M5:=by have cl:(prog.cls)[3]?=some ⟨0,[(0,1),(1,2),(2,3),(3,4),(4,5)]⟩:=rfl;simp at i0 i1;exact atn (M1:=M4) (d0:=Bs K0 U Z) (d1:=Bs K1 L G) (x0:=.ref (M2.length+1)) (x1:=.ref (M4.length+1)) (by simp) rfl (by simp[asj,Yg,asl,d0,cl,i0]) rfl (by simp[asj,Yg,asl,d1,cl,i1])
 have q0:∃qk M',ait.den (PW (m-1)) (EW (some (.fz (ns.map D.int))) (some (.vl [Bs K0 U Z,Bs K1 L G])) (some (.vl [.ref (M2.length+1),.ref (M4.length+1)])) none none none) M5=.ok (.next,qk) M':=by
  obtain⟨qk,M',e,_⟩:=Dl (W:=PW (m-1)) (t:=.name 3) (b:=abd) (it:=.i 2) (n:=2) (ρ:=EW (some (.fz (ns.map D.int))) (some (.vl [Bs K0 U Z,Bs K1 L G])) (some (.vl [.ref (M2.length+1),.ref (M4.length+1)])) none none none) (M:=M5) (M1:=M5) (by simp) (by decide)
   (λ_ ρ M'=>(∃b3 b4 b5,ρ=EW (some (.fz (ns.map D.int))) (some (.vl [Bs K0 U Z,Bs K1 L G])) (some (.vl [.ref (M2.length+1),.ref (M4.length+1)])) b3 b4 b5)/\w6 M5 M') ⟨⟨none,none,none,rfl⟩,w6.refl _⟩
   (λi ρ M6 hi hI=>by
    obtain⟨⟨b3,b4,b5,rfl⟩,q⟩:=hI;obtain⟨z0,M8,e3,⟨c4,c5,rfl⟩,q3⟩:=Hk (W:=PW (m-1)) (t:=.names [4,5]) (b:=V4) (it:=.zip (.p (.v 1) (.v 2))) (s:=.con [.tup [Bs K0 U Z,.ref (M2.length+1)],.tup [Bs K1 L G,.ref (M4.length+1)]]) (n:=2) (ρ:=EW (some (.fz (ns.map D.int))) (some (.vl [Bs K0 U Z,Bs K1 L G])) (some (.vl [.ref (M2.length+1),.ref (M4.length+1)])) (some (.int i)) b4 b5) (M:=M6) (M1:=M6) (by simp[ak6,Wo,agw,Ke,vf]) rfl
     (λ_ ρ M'=>(∃b4 b5,ρ=EW (some (.fz (ns.map D.int))) (some (.vl [Bs K0 U Z,Bs K1 L G])) (some (.vl [.ref (M2.length+1),.ref (M4.length+1)])) (some (.int i)) b4 b5)/\w6 M5 M') ⟨⟨b4,b5,rfl⟩,q⟩ (λ_ _ _=>rfl)
     (λl ρ M8 hl hI=>by
      obtain⟨⟨b4,b5,rfl⟩,q⟩:=hI
      match l,hl with
      |0,_ =>
       obtain⟨M9,e9,k9⟩:=akq (m:=m-1) (by lia) (T0.keep q) (a0:=some (.fz (ns.map D.int))) (a1:=some (.vl [Bs K0 U Z,Bs K1 L G])) (a2:=some (.vl [.ref (M2.length+1),.ref (M4.length+1)])) (a3:=some (.int i));exact⟨_,_,rfl,Ga _ _ _ _ _,_,M9,e9,⟨_,_,rfl⟩,q.trans k9⟩
      |1,_ =>
       obtain⟨M9,e9,k9⟩:=akq (m:=m-1) (by lia) (T1.keep q) (a0:=some (.fz (ns.map D.int))) (a1:=some (.vl [Bs K0 U Z,Bs K1 L G])) (a2:=some (.vl [.ref (M2.length+1),.ref (M4.length+1)])) (a3:=some (.int i));exact⟨_,_,rfl,Ga _ _ _ _ _,_,M9,e9,⟨_,_,rfl⟩,q.trans k9⟩
      | l+2,hl=>exact absurd hl (by lia))
    have e3:ais.den (PW (m-1)) _ _=_:=e3;exact⟨_,.next,_,M8,rfl,by simp[abd,e3],.inl rfl,⟨some (.int i),c4,c5,rfl⟩,q3⟩)
  exact⟨qk,M',e⟩
 obtain⟨qk,M',q0⟩:=q0;refine⟨M',?_⟩;simp at s0 s1;have zw:prog.call (m-1) 17 [.ref M.length] (M++[.lst [.int n0,.bl f0]])=.ok (Bs K0 U Z) M1:=e0;have zz:prog.call (m-1) 17 [.ref M1.length] (M1++[.lst [.int n1,.bl f1]])=.ok (Bs K1 L G) M2:=e1;simp[Fn.run,ao1,azk,s0,s1,zw,zz,c1,q0]
open PySem L2
open PySem.W
set_option maxHeartbeats 0 in
def all_mk{l:OpenLaw}{K:Frag}{fs:Xt}{cs:List FuncData}{C:Addr}(qq:mg "law"= some (.ref G))
 (aC:Ck.Oo K mg tab (fs++[G]) tab.cls [none,none,none,some C] prog.cls) (aG:Ck.Ui mg tab.fns (fs++[G])) (aF:Ck.ach K Ds sts (fs++[G]) (cs++[fnOf "law" "law" (Hc (top 47)) (Dw (top 47)) (Ar (top 47)) .none kW dc pm an cd ct])) (aV:Ck.acj mg tab.axw) (aB:Ck.AllB mg Ck.Om) (h1:fs.length=38) (h2:cs.length=38) :
 ∃fd:FuncData,(∀(s:Shared)(v:Value),BindsTo s fd ⟨[v],[]⟩ [("script",v)])/\∀Z:Heap,K.In Z->Z.Ns mainGlobals mg->Ff l.prog w K mg Z CX0 170 G fd ["script"] (Ck.akd K):=by
 refine⟨fnOf "law" "law" (Hc (top 47)) (Dw (top 47)) (Ar (top 47)) .none kW dc pm an cd ct,λs v=>.of_eq rfl,λZ _ _=>?_⟩;obtain⟨d,a,f,g1,U,L,g4,g5⟩:=Ck.a6l (P:=l.prog) (w:=w) (base:=Z) (n:=10) (i:=38) (F:=ao1) bib chk bic bid bie aF aG aC aV aB rfl;cases g1;rw[<-h1]at U;rw[<-h2]at L;rw[o6 (cg _),Nat.sub_self]at U L;cases U;cases L;exact g5.imp λvs H Q E hh=>Ck.ayi (λns hl=>a7g (by decide)) hh
end K51
open PySem PySem.W PyProof.Rows
namespace PySem.W.Fast
def tw4241364392195142297:=Nat
def tw423161936014104702:=Nat
def tw17842589477721551380:=Nat
def tw620158056414945924:=Nat
def tw16261352041776367617:=Nat
def tw10497817322984732453:=Nat
def tw2322674310445119652:=Nat
def tw13331337600282341697:=Nat
def tw18422785169680416930:=Nat
def tw1983475635164940536:=Nat
def tw17580332897466501871:=Nat
def tw11529549439316891999:=Nat
def tw8221362743435729222:=Nat
def tw16906524354325404318:=Nat
def tw9807791691900853764:=Nat
def tw15451963848096459733:=Nat
def tw17403749894003014391:=Nat
def tw15840188343781680315:=Nat
def tw4385082665438152169:=Nat
def tw8188507975470562120:=Nat
def tw996927115243682285:=Nat
def tw15896115770232175071:=Nat
def tw11262834089267280164:=Nat
def tw8660698139623138144:=Nat
def tw4971196825489775646:=Nat
def tw16315577109907879075:=Nat
def tw2502796453321954484:=Nat
def tw5138533938744642340:=Nat
def tw329609250400970329:=Nat
def tw3450670850541372021:=Nat
def tw2084941464831383664:=Nat
def tw1143726579482687558:=Nat
def tw15822639044065404738:=Nat
def tw18168813991796588261:=Nat
def tw15217690924339921892:=Nat
def tw15972280969443819823:=Nat
def tw15502850279344676619:=Nat
def tw9134901348350368275:=Nat
def tw13858121493972246787:=Nat
def tw3824693087116897130:=Nat
def tw11545041000926213196:=Nat
def tw9725329848600362683:=Nat
def tw3358257260317021744:=Nat
def tw10134995556114647351:=Nat
def tw7720326622697728326:=Nat
def tw3662461028235163408:=Nat
def tw13808960256664392353:=Nat
def tw16584903611170873717:=Nat
def tw2849414409017394981:=Nat
def tw14455000337695902156:=Nat
def tw1399053016183882886:=Nat
def tw12333573081685809863:=Nat
def tw16757916319993973289:=Nat
def tw7138648540562970253:=Nat
def tw1123839076834069647:=Nat
def tw14682351465520481222:=Nat
def tw16203269986856002092:=Nat
def tw13415164903580852514:=Nat
def tw5635087652040976509:=Nat
def tw4934461850878356857:=Nat
def tw11769923585334428073:=Nat
def tw17104064139096614218:=Nat
def tw12541271125899332563:=Nat
def tw293885750309169998:=Nat
def tw8781219326935529459:=Nat
def tw12133208709504149783:=Nat
def tw2479948163800298276:=Nat
def tw18322227676365893471:=Nat
def tw4720589862857990562:=Nat
def tw13884358455176580976:=Nat
def tw14468179941176746775:=Nat
def tw16825879660939086295:=Nat
def tw10405792713826885412:=Nat
def tw10116214076601421490:=Nat
def tw15938725201131808891:=Nat
def tw48545931609538506:=Nat
def tw5942645152164066726:=Nat
def tw14636857735837546357:=Nat
def tw10330272255544311873:=Nat
def tw2331768629748759711:=Nat
def tw14953862947224033637:=Nat
def tw10797189864269398448:=Nat
def tw3114518684070273154:=Nat
def tw4088422238611731108:=Nat
def tw4570702745116638985:=Nat
def tw6883092546430038864:=Nat
def tw3595954795942404428:=Nat
def tw9225766918059557308:=Nat
def tw1763968693671553706:=Nat
def tw3304810913849497995:=Nat
def tw13598624572193687451:=Nat
def tw5616249707286210005:=Nat
def tw2399777315021398893:=Nat
def tw11017159888427500850:=Nat
def tw7622680106926648430:=Nat
def tw8478974020193977276:=Nat
def tw15081678549753520834:=Nat
def tw9254085397581500238:=Nat
def tw17074554858031262149:=Nat
def tw14689094496709540390:=Nat
def tw2844562291904158458:=Nat
def tw14762203749818888940:=Nat
def tw18081095046251803265:=Nat
def tw12658068484436614279:=Nat
def tw14127536175539216069:=Nat
def tw17930980696753263802:=Nat
def tw16279389012800428141:=Nat
def tw12633091086716995146:=Nat
def tw18080641173825671765:=Nat
def tw12126475345803808352:=Nat
def tw1942547599660642760:=Nat
def tw16949735869232262244:=Nat
def tw4467125393127528237:=Nat
def tw11205969233524195252:=Nat
def tw9077895020857992602:=Nat
def tw14060731895577530675:=Nat
def tw7161415079594434832:=Nat
def tw13051589398228738093:=Nat
def tw7984498602354637232:=Nat
def tw5548201841202372860:=Nat
def tw3790353910433370153:=Nat
def tw166004877422345691:=Nat
def tw3767793451001250276:=Nat
def tw17577308915153541039:=Nat
def tw4961332916768589356:=Nat
def tw15667894597762197470:=Nat
def tw15705291160076848658:=Nat
def tw16784115070311470938:=Nat
def tw15298038496147816879:=Nat
def tw2770611896180466072:=Nat
def tw9078804544251996999:=Nat
def tw9024614070299269885:=Nat
def tw15004641428402211247:=Nat
def tw7282527070557239838:=Nat
def tw1489057445737214378:=Nat
def tw13729923129397221379:=Nat
def tw13713553646171287510:=Nat
def tw5179194883186653933:=Nat
def tw14997825360419544432:=Nat
def tw10660613336607489049:=Nat
def tw12022689429631746648:=Nat
def tw7623346997197564676:=Nat
def tw16201248258669892227:=Nat
def tw5581154607656787850:=Nat
def tw17471126658163359791:=Nat
def tw5947358104193144138:=Nat
def tw4338448163950466982:=Nat
def tw14971216409717338991:=Nat
def tw13475204661006192644:=Nat
def tw2480908507262127882:=Nat
def tw16221314192009898326:=Nat
def tw12564584269621958143:=Nat
def tw10493744934899606024:=Nat
def tw11386791081226490755:=Nat
def tw9663878746732048904:=Nat
def tw6424255715227534419:=Nat
def tw879163269089270404:=Nat
def tw17440743715909029493:=Nat
def tw13430298577225687158:=Nat
def tw1380279906162494064:=Nat
def tw10278910651873408097:=Nat
def tw7999895740257497302:=Nat
def tw2393655351856034614:=Nat
def tw9621180738609397350:=Nat
def tw397631872598708838:=Nat
def tw8495732346087451863:=Nat
def tw17047911066165906229:=Nat
def tw7866305643272239164:=Nat
def tw605186120891537534:=Nat
def tw13272455891025338409:=Nat
def tw16105781046713480506:=Nat
def tw8675936644360029435:=Nat
def tw8922834925474132810:=Nat
def tw1098077591266898475:=Nat
def tw17393189463645769098:=Nat
def tw11701968321745564669:=Nat
def tw3533137691435063317:=Nat
def tw10028245155993973546:=Nat
def tw7186739160386159281:=Nat
def tw391897529198374377:=Nat
def tw17516311007886481569:=Nat
def tw1591592942171429837:=Nat
def tw6559746295392440363:=Nat
def tw5743786779050095772:=Nat
def tw16168018199382340804:=Nat
def tw9074363995110003161:=Nat
def tw11860225384689397457:=Nat
def tw4707215990982660086:=Nat
def tw13218147169775889594:=Nat
def tw8361522797323932825:=Nat
def tw6144981344261678947:=Nat
def tw578812632856402444:=Nat
def tw14631018259277499330:=Nat
def tw9099621164766934207:=Nat
def tw5926910905153307956:=Nat
end PySem.W.Fast
set_option maxRecDepth 100000 in
set_option maxHeartbeats 0 in
theorem PySem.Challenge.cw_mapwright_k51_truths_holds : PySem.Challenge.rw_mapwright_k51_truths.Holds := by
 w_on;o_law;k_head;(case hw=>w_witness2)
 k_fill
 refine Ck.walk (l:=PySem.Challenge.rw_mapwright_k51_truths) rfl rfl (λw h Y=>PySem.W.kIn_of Y) ?F
 case F =>
  intro w mg fa h KX G hmg;have hl:=mg_of KX G (n :="law") (v:=.ref _) (by k_is);cases hmg.symm.trans hl;exact K51.all_mk (fs:=[_,_,_,_,_,_,_,_,_,_,_,_,_,_,_,_,_,_,_,_,_,_,_,_,_,_,_,_,_,_,_,_,_,_,_,_,_,_]) (cs:=[_,_,_,_,_,_,_,_,_,_,_,_,_,_,_,_,_,_,_,_,_,_,_,_,_,_,_,_,_,_,_,_,_,_,_,_,_,_]) hmg
   (by
    refine Ck.cO (Ck.cO (Ck.cO (Ck.cS ⟨mg_of KX G (by k_is),⟨by k_is,by k_is,by k_is,by k_is⟩,⟨_,rfl,⟨by k_is,by k_is,by k_is,by k_is⟩⟩,?_,?_⟩ Ck.cN)))
    .repeat (first|exact Ck.mN|refine Ck.mC rfl rfl ⟨by k_is,by k_is,by k_is⟩ ?_)
    .repeat (first|exact Ck.nN|refine Ck.nC (by k_is) ?_))
   (by repeat (first|exact Ck.gN|refine Ck.gO ?_|refine Ck.gS (mg_of KX G (by k_is)) ?_))
   (by repeat (first|exact Ck.fN|refine Ck.fE ⟨by k_is,by k_is,by k_is⟩ ?_))
   (by repeat (first|exact Ck.vN|refine Ck.vC (mg_of KX G (by k_is)) ?_))
   (by repeat (first|exact Ck.bN|refine Ck.bC (mg_none_of KX G (by k_is)) ?_)) rfl rfl
