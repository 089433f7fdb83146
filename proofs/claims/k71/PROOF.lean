import PyProof.Rows.All
import Wide.All
import OpenK.AllK
import Wide.FinOn
import Lean
import PyProof.EqAt
import PyProof.EqKinds
import PyProof.TupleCall
import PyProof.StationsW
import OpenK.KOwn
import KE.KIsAll
import PyProof.ExcArgsOwn
import PyProof.ExcAttrAll.ValueError
import PyProof.RulesAs
import PyProof.Rows.ListMul
import PyProof.Rows.ListMulArg
import PyProof.NeKinds
import PyProof.Rows.MinMaxN
import PyProof.EnumMake
import PyProof.ZipIter
import PyProof.Rows.ZipGen
import PyProof.DictWalks
import PyProof.SetScanFacts
import PyProof.TupleKey
import PyProof.SetKind
import PyProof.IsRules
import PyProof.Rules
import PyProof.Rows.SetFrom
import KE.KDictList
import KE.KDictOf
import PyProof.AttrMissHeap
import PyProof.Conv_int_bool
import PyProof.ExcBaseAll.ValueError
import PySem.Challenge.RW_mapwright_k71_sayings_refused
set_option Elab.async false
set_option linter.all false
set_option tactic.hygienic false
set_option genSizeOf false
set_option genInjectivity false
set_option maxRecDepth 100000
abbrev Zl:=List PySem.Value
abbrev Zp:=List (PySem.Addr×PySem.Obj)
abbrev Zs:=PySem.Str->Option PySem.Value
abbrev Y1:=PySem.Value->PySem.Shared->Prop
abbrev Y2:=Option (PySem.Str×Nat)
abbrev Y3:=List Nat
abbrev Ya:=List PySem.Expr
abbrev Yf:=List PySem.Str
abbrev X0:=List (PySem.Str×PySem.NameKind)
abbrev X1:=List PySem.Addr
abbrev X9:=List Int
abbrev Xs:=List (PySem.Str×PySem.Addr)
abbrev Xt:=Array PySem.Value
def wg:=@Array.getElem?_eq_getElem
def jf:=@Array.getElem?_eq_some_iff
def o7:=@Array.getElem?_toList
def rm:=@Array.length_toList
def ao:=@Bool.and_eq_true
def j4:=@Bool.and_eq_true_iff
def yq:=@Bool.eq_iff_iff
def gm:=@Bool.false_eq_true
def dw:=@Bool.false_ne_true
def jb:=@Function.comp_def
def yo:=@Int.emod_lt_of_pos
def Ac:=@Int.emod_nonneg
def gq:=@Int.natCast_nonneg
def jk:=@Int.toNat_natCast
def jg:=@List.all_eq_true
def Aa:=@List.any_cons
def o8:=@List.append_assoc
def kh:=@List.append_nil
def Ab:=@List.cons.inj
def yh:=@List.dropLast_concat_getLast
def sr:=@List.drop_eq_getElem_cons
def xf:=@List.eq_nil_iff_forall_not_mem
def uf:=@List.eq_nil_of_length_eq_zero
def zq:=@List.filterMap_cons
def m7:=@List.find?_cons
def Ad:=@List.foldl_cons
def qz:=@List.getD_eq_getElem?_getD
def gw:=@List.getElem?_append_left
def n8:=@List.getElem?_append_right
def du:=@List.getElem?_eq_getElem
def yu:=@List.getElem?_eq_none
def ak:=@List.getElem?_eq_some_iff
def ie:=@List.getElem?_map
def ur:=@List.getElem?_replicate
def uh:=@List.getElem?_set_ne
def vd:=@List.getElem?_set_self
def wy:=@List.getElem?_zipIdx
def zf:=@List.getElem_inj
def uc:=@List.getElem_mem
def xq:=@List.getElem_of_mem
def nj:=@List.isEmpty_iff
def gr:=@List.length_append
def gj:=@List.length_cons
def xu:=@List.length_eq_zero_iff
def vz:=@List.length_filter_le
def bu:=@List.length_map
def jn:=@List.length_pos_iff
def yj:=@List.length_pos_of_mem
def nu:=@List.length_replicate
def Ae:=@List.length_set
def nq:=@List.lookup_cons
def gf:=@List.map_append
def rn:=@List.map_congr_left
def dq:=@List.map_cons
def ir:=@List.map_map
def bx:=@List.mem_append
def ig:=@List.mem_append_left
def fu:=@List.mem_append_right
def dh:=@List.mem_cons
def bh:=@List.mem_cons_of_mem
def cz:=@List.mem_cons_self
def yz:=@List.mem_erase_of_ne
def qi:=@List.mem_filter
def zg:=@List.mem_flatMap
def n6:=@List.mem_iff_getElem?
def di:=@List.mem_map
def bc:=@List.mem_of_getElem?
def ji:=@List.mem_range
def jm:=@List.mem_singleton
def Ak:=@List.ne_nil_of_mem
def oh:=@List.nodup_append
def kj:=@List.nodup_cons
def yg:=@List.not_mem_nil
def Af:=@List.of_mem_zip
def zj:=@List.range'_succ
def uv:=@List.range_succ
def dm:=@List.size_toArray
def Ag:=@List.sum_append
def t7:=@List.take_append_drop
def qd:=@List.take_length
def yl:=@List.take_of_length_le
def m5:=@List.take_succ
def Am:=@Nat.le_of_lt
def wz:=@Nat.le_of_lt_succ
def bf:=@Nat.le_refl
def qg:=@Nat.le_succ
def au:=@Nat.le_trans
def m8:=@Nat.lt_irrefl
def fc:=@Nat.lt_of_lt_of_le
def ju:=@Nat.lt_or_ge
def ud:=@Nat.lt_succ_self
def su:=@Nat.ne_of_gt
def gh:=@Nat.ne_of_lt
def qj:=@Nat.not_lt_zero
def sy:=@Nat.zero_add
def ik:=@Nat.zero_le
def jy:=@Ne.symm
def jc:=@Option.bind_eq_some_iff
def iz:=@Option.isSome_iff_exists
def bw:=@Option.map_eq_some_iff
def rz:=@Option.map_some
def iu:=@Option.some.inj
def xg:=@PyProof.Rows.callWith_builtin1
def qu:=@PyProof.Rows.callWith_type1
def m9:=@PyProof.Rows.slot_tuple_getitem
def qp:=@PySem.F.called_set
def u0:=@PySem.F.slot_dict_keyiterator_next
def ug:=@PySem.F.slot_dict_valueiterator_next
def u5:=@PySem.F.slot_enumerate_next
def qy:=@PySem.F.slot_tuple_iterator_next
def vf:=@PySem.F.slot_tuple_mul
def jj:=@PySem.Heap.SameBut.update
def aq:=@PySem.Heap.get?_push_of_some
def bj:=@PySem.Heap.get?_push_size
def lz:=@PySem.Heap.get?_update_self
def az:=@PySem.Heap.lt_size
def j5:=@PySem.Heap.size_push
def m6:=@PySem.Obj.data_mapFields
def u6:=@PySem.Obj.isFreed_of_fields
def za:=@PySem.W.looks_findIn
def zr:=@PySem.W.looks_subIn
def jw:=@PySem.W.mg_none_of
def dg:=@PySem.W.mg_of
def vm:=@PySem.codeAny_call_builtin
def xx:=@PySem.mem_of_lookup
def o4:=@PySem.wpAny_Call_Name_kw
def aa:=@PySem.wpAny_bind
def je:=@PySem.wpAny_callSpecial?_slot
def jo:=@PySem.wpAny_call_entry
def uw:=@PySem.wpAny_dictEntries
def d8:=@PySem.wpAny_field
def vg:=@PySem.wpAny_forIn_list
def jz:=@PySem.wpAny_holding
def qe:=@PySem.wpAny_isInstance
def t8:=@PySem.wpAny_ite_false
def qw:=@PySem.wpAny_loadPart_at
def j6:=@PySem.wpAny_mono
def iw:=@PySem.wpAny_newObj_type
def ql:=@PySem.wpAny_passesOwn
def aj:=@PySem.wpAny_pure
def o5:=@PySem.wpAny_pyIter_tuple
def p8:=@PySem.wpAny_seqItems
def um:=@PySem.wpAny_setField
def j0:=@PySem.wpAny_setField_rec
def j9:=@PySem.wpAny_truthy_bool
def ux:=@PySem.wpAny_typeNameOfWhole_keyiter
def uy:=@PySem.wpAny_typeNameOfWhole_valiter
def yc:=@beq_eq_false_iff_ne
def xn:=@beq_iff_eq
def zm:=@beq_self_eq_true
def o9:=@congrArg
def my:=@decide_eq_false
def vo:=@decide_eq_true
def d7:=@decide_eq_true_eq
def jt:=@if_false
def bz:=@if_neg
def cg:=@if_pos
def km:=@if_true
def iy:=@of_decide_eq_true
abbrev Fg:=PySem.W.Frag
def a_{a b c:Nat}(h:a<=b)(k:b<=c):a<=c:=au h k
def b_{a b c:Nat}(h:a<b)(k:b<=c):a<c:=fc h k
def c_{a b c:Nat}(h:a<=b)(k:b<c):a<c:=Nat.lt_of_le_of_lt h k
def d_{a b c:Nat}(h:a<b)(k:b<c):a<c:=Nat.lt_trans h k
def e_{a b:Nat}(h:a<b):a<=b:=Am h
def f_{a b:Nat}(h:a=b):a<=b:=Nat.le_of_eq h
def g_{a b:Nat}(h:a=b):b<=a:=Nat.le_of_eq h.symm
def i_{a b:Nat}(h:b<a):a≠b:=su h
def j_{a b:Nat}(h:b<=a):¬a<b:=Nat.not_lt_of_le h
def l_{p:Prop}{a b:Nat}(h:a<b)(k:b<=a):p:=absurd h (Nat.not_lt_of_le k)
def m_{a b:Nat}(h:a<b):(a:Int)<(b:Int):=Int.ofNat_lt.mpr h
def q_{a:Nat}:(0:Int)<=(a:Int):=gq a
def r_{a b c:Nat}(h:a+c<=b):a<=b-c:=Nat.le_sub_of_add_le h
def s_{a b:Nat}(h:¬a<b):b<=a:=Nat.le_of_not_lt h
def t_{a b:Nat}(h:¬a<=b):b<a:=Nat.lt_of_not_le h
def u_{a b:Nat}(h:a<=b)(k:b<=a):a=b:=Nat.le_antisymm h k
def v_{a b c:Nat}(h:a<=b):a+c<=b+c:=Nat.add_le_add_right h c
def w_{a b c:Nat}(h:a<=b):c+a<=c+b:=Nat.add_le_add_left h c
def x_{a b:Nat}:a<=a+b:=Nat.le_add_right a b
def z_{a b:Nat}(h:a<b+1):a<=b:=wz h
def A_{a b:Nat}(h:a<=b):a<b+1:=Nat.lt_succ_of_le h
def C_{a b:Nat}:a-b<=a:=Nat.sub_le a b
def D_{a b:Nat}(h:(a:Int)=(b:Int)):a=b:=Int.ofNat_inj.mp h
def hG{P:Prop}(h:∀G:Prop,(P->G)->G):P:=h P id
noncomputable section
namespace STb
open PySem
def Zc{prog:Program}{w:World}{A:Around}{G:Type}{Q:G->Shared->Prop}{E:Y1}{s:Shared}(U:A.handled=none)(q:∀Z x,(∀b o,s.heap.get? b=some o->Z.get? b=some o)->(∃o,Z.get? x=some o/\o.cls=.type "StopIteration")->E (.ref x) { s with heap:=Z }):wpAny (model prog w) A (newExc (.type "StopIteration") [] >>= raiseNew) Q E s:=by simp only[newExc,newTuple];refine aa (aa (iw (aa (m:=firstArgMember _ _) (wpAny_of_eq (a:=Value.none) (by first|rfl|(simp only[firstArgMember];rfl)) (iw ?_ (by size_fits)))) (by size_fits)));simp only[raiseNew];refine aa (wpAny_handled ?_);rw[U];exact aa (aj (wpAny_throw (q _ _ (λb o e=>aq _ (aq _ e)) ⟨_,bj _ rfl,rfl⟩)))
open PySem SetTable
def Srt(Z:Array Nat):Prop:=∀(i j a b:Nat),Z[i]?=some a->Z[j]?=some b->i<j->a<b
def aqw(hs:Srt U):∀(Z G hi:Nat),G<=hi->hi<=U.size->hi-G<=Z ->
 (∀(i a:Nat),U[i]?=some a->i<G->a<j)->(∀(i a:Nat),U[i]?=some a->hi<=i->j<=a) ->
 below.go U j Z G hi<=U.size/\(∀(i a:Nat),U[i]?=some a->i<below.go U j Z G hi->a<j)/\(∀(i a:Nat),U[i]?=some a->below.go U j Z G hi<=i->j<=a):=by
 intro Z
 induction Z with
 |zero =>
  intro G hi h1 h2 h3 h4 h5;unfold below.go;have:G=hi:=by lia
  subst this;exact⟨h2,h4,h5⟩
 |succ Z ih =>
  intro G hi h1 h2 h3 h4 h5;unfold below.go
  by_cases Nj:G<hi
  .simp only[cg Nj]
   have hm:(G+hi) / 2<U.size:=by lia
   have hg:U[(G+hi) / 2]?=some U[(G+hi) / 2]:=by simp[hm]
   have qq:U.getD ((G+hi) / 2) j=U[(G+hi) / 2]:=by simp[Array.getD,hm]
   rw[qq]
   by_cases hc:U[(G+hi) / 2]<j
   .rw[cg hc]
    refine ih _ _ (by lia) h2 (by omega) (λi a e l=>?_) h5
    by_cases R:i=(G+hi) / 2
    .subst R;rw[hg] at e;cases e;exact hc
    .exact Nat.lt_trans (hs _ _ _ _ e hg (by lia)) hc
   .rw[bz hc]
    refine ih _ _ (by lia) (e_ hm) (by omega) h4 (λi a e l=>?_)
    by_cases R:i=(G+hi) / 2
    .subst R;rw[hg] at e;cases e;exact s_ hc
    .have:=hs _ _ _ _ hg e (by lia);exact e_ (c_ (s_ hc) this)
  .rw[bz Nj]
   have:G=hi:=u_ h1 (s_ Nj);subst this;exact⟨h2,h4,h5⟩
def Jr(G:Srt Z):below Z j<=Z.size/\(∀(i a:Nat),Z[i]?=some a->i<below Z j->a<j)/\(∀(i a:Nat),Z[i]?=some a->below Z j<=i->j<=a) :=
 aqw G _ _ _ (ik _) (bf _) C_ (λi a _ h=>absurd h (qj _)) (λi a e h=>by
  have:=(jf.mp e).1;lia)
def below_at(U:Srt Z)(h:Z[i]?=some j):below Z j=i:=by
 obtain⟨h1,R,h3⟩:=Jr (j:=j) U;rcases Nat.lt_trichotomy (below Z j) i with l|l|l
 .have li:=(jf.mp h).1
  have G:Z[below Z j]?=some Z[below Z j]:=by simp
  have a:=h3 _ _ G (bf _);have b:=U _ _ _ _ G h l
  lia
 .exact l
 .have:=R _ _ h l;lia
def Xw(j:Nat):has #[] j=false:=by simp[has]
set_option tactic.hygienic true in
def Rn{t:SetTable}(Z:Srt t.place):t.slot j=.live i↔t.place[i]?=some j:=by
 unfold slot;constructor
 .intro h
  dsimp only at h;split at h
  .rename_i e;cases h;simpa using e
  .split at h<;>cases h
 .intro h
  dsimp only;rw[below_at Z h,h];simp
def ad1{t:SetTable}(G:Srt t.place)(Z:t.dummies=#[]):t.slot j=.empty↔∀i:Nat,t.place[i]?≠some j:=by
 constructor
 .intro h i e
  rw[(Rn G).mpr e] at h;cases h
 .intro h
  unfold slot;dsimp only;rw[Z,Xw,bz (by simpa using h _)];rfl
def Nk(Z:Array α)(p:Nat)(x:α)(hp:p<=Z.size)(i:Nat):(insertAt Z p x)[i]?=if i<p then Z[i]? else if i=p then some x else Z[i-1]?:=by
 rw[<- o7,toList_insertAt];have U:(Z.toList.take p).length=p:=by simp;lia
 by_cases G:i<p
 .rw[cg G,gw (b_ G (g_ U)),List.getElem?_take,cg G,o7]
 .rw[bz G,n8 (a_ (f_ U) (s_ G)),U]
  by_cases R:i=p
  .subst R;simp
  .rw[bz R]
   obtain⟨q,hq⟩:∃q,i=p+q+1:=⟨i-p-1,by lia⟩;subst hq;rw[show p+q+1-p=q+1 by lia,List.getElem?_cons_succ,List.getElem?_drop,show p+q+1-1=p+q by lia,o7]
def Pk(Z:Array α)(p:Nat)(x:α):(insertAt Z p x).size=Z.size+1:=by have:=(insertAt_perm Z p x).length_eq;simpa using this
noncomputable def up(p i:Nat):Nat:=if i<p then i else i+1
def Ou(Z:Array α)(p:Nat)(x:α)(G:p<=Z.size)(i:Nat):(insertAt Z p x)[up p i]?=Z[i]?:=by
 rw[Nk Z p x G];unfold up
 by_cases h:i<p
 .simp[h]
 .rw[bz h,bz (j_ (a_ (s_ h) x_)),bz (i_ (A_ (s_ h)))];rfl
def Ji(Z:Array α)(p:Nat)(x:α)(G:p<=Z.size):(insertAt Z p x)[p]?=some x:=by rw[Nk Z p x G];simp
def Np(p i:Nat):i=p\/∃k,i=up p k:=by
 unfold up;rcases Nat.lt_trichotomy i p with h|h|h
 .exact .inr ⟨i,by simp[h]⟩
 .exact .inl h
 .exact .inr ⟨i-1,by rw[bz (by omega)];lia⟩
def aqx(hs:Srt U)(hn:∀i:Nat,U[i]?≠some j):Srt (insertAt U (below U j) j):=by
 obtain⟨R,h2,h3⟩:=Jr (j:=j) hs;intro a b x y G Z l;rcases Np (below U j) a with rfl|⟨a',rfl⟩<;>rcases Np (below U j) b with hb|⟨b',rfl⟩
 .subst hb;lia
 .rw[Ji _ _ _ R] at G
  rw[Ou _ _ _ R] at Z;cases G;have:below U j<=b':=by unfold up at l;split at l<;>omega
  have g:=h3 _ _ Z this;rcases Nat.lt_or_eq_of_le g with g|g
  .exact g
  .subst g;exact absurd Z (hn _)
 .subst hb
  rw[Ji _ _ _ R] at Z;rw[Ou _ _ _ R] at G;cases Z;exact h2 _ _ G (by unfold up at l;split at l<;>omega)
 .rw[Ou _ _ _ R] at G Z
  exact hs _ _ _ _ G Z (by unfold up at l;split at l<;>split at l<;>omega)
noncomputable def adv(m:Nat)(p:Probe):Probe:=({ SetTable.fresh 0 0 true with mask:=m }:SetTable).advance p
def aw7(t:SetTable)(p:Probe):t.advance p=adv t.mask p:=rfl
def Zd(h:p.more > 0):adv m p={ p with j:=p.j+1,more:=p.more-1 }:=cg h
def U4(h:¬p.more > 0):adv m p={ p with j:=(leap m p.i p.perturb).1,more:=runEnd m (leap m p.i p.perturb).1-(leap m p.i p.perturb).1,i:=(leap m p.i p.perturb).1,perturb:=(leap m p.i p.perturb).2 }:=bz h
noncomputable def beg(m i pt:Nat):Probe:={ j:=i,more:=runEnd m i-i,i:=i,perturb:=pt,dummy:=none }
def P(m:Nat)(h:Int):Nat->Probe
 |0=>beg m (bits h%(m+1)) (bits h)|n+1=>adv m (P m h n)
def aba(t:SetTable)(h:Int):t.probeStart h=P t.mask h 0:=rfl
theorem Ze(m:Nat)(h:Int):∀n,(P m h n).dummy=none
 |0=>rfl
 |n+1=>by
  show(adv m (P m h n)).dummy=none
  by_cases q:(P m h n).more > 0
  .rw[Zd q];exact Ze m h n
  .rw[U4 q];exact Ze m h n
noncomputable def I(m:Nat)(h:Int):Nat->Nat
 |0=>bits h%(m+1)|T+1=>(I m h T*5+1+bits h / 32 ^ (T+1))%(m+1)
def aqy(m i:Nat):runEnd m i-i<=9:=by unfold runEnd;split<;>lia
theorem abb{m:Nat}{h:Int}{n i pt:Nat}(e:P m h n=beg m i pt):∀c,c<=runEnd m i-i->P m h (n+c)={ j:=i+c,more:=runEnd m i-i-c,i:=i,perturb:=pt,dummy:=none }
 |0,_=>by rw[Nat.add_zero,e];rfl
 |c+1,hc=>by
  have:=abb e c (by lia);show adv m (P m h (n+c))=_;rw[this,Zd (by show 0<runEnd m i-i-c;lia)];simp only
  congr 1
def aky(e:P m h n=beg m i pt):P m h (n+(runEnd m i-i)+1)=beg m ((i*5+1+pt / 32)%(m+1)) (pt / 32):=by show adv m (P m h (n+(runEnd m i-i)))=_;rw[abb e _ (bf _),U4 (by simp)];rfl
theorem akz(m:Nat)(h:Int):∀T,∃n,n<=10*T/\P m h n=beg m (I m h T) (bits h / 32 ^ T)
 |0=>⟨0,ik _,by simp[P,I]⟩
 |T+1=>by
  obtain⟨n,G,Z⟩:=akz m h T;have:=aqy m (I m h T);refine⟨_,?_,(aky Z).trans ?_⟩
  .lia
  .rw[Nat.div_div_eq_div_mul,<- Nat.pow_succ];rfl
noncomputable def f5(m x:Nat):Nat:=(x*5+1)%(m+1)
def it(m:Nat):Nat->Nat->Nat
 |0,x=>x|k+1,x=>f5 m (it m k x)
theorem U5(m a x:Nat):∀k,it m (a+k) x=it m k (it m a x)
 |0=>rfl|k+1=>by show f5 m (it m (a+k) x)=_;rw[U5 m a x k];rfl
def Cov(m:Nat):Prop:=∀i j,i<=m->j<=m->∃k,k<=m/\it m k i=j
def aw8(h0:it m (m+1) 0=0)(h:∀j,j<=m->∃k,k<=m/\it m k 0=j):Cov m:=λi j hi R=>by
 obtain⟨a,la,G⟩:=h i hi;obtain⟨b,lb,Z⟩:=h j R
 by_cases U:a<=b
 .refine⟨b-a,a_ C_ lb,?_⟩
  rw[<- G,<- U5,show a+(b-a)=b by lia,Z]
 .refine⟨m+1+b-a,by omega,?_⟩
  rw[<- G,<- U5,show a+(m+1+b-a)=(m+1)+b by lia,U5,h0,Z]
def orb(m:Nat):Nat->Nat->List Nat
 |0,_=>[]|k+1,x=>x::orb m k (f5 m x)
theorem afw{m:Nat}:∀{k x j:Nat},j∈orb m k x->∃q,q<k/\it m q x=j
 |0,_,_,h=>by simp[orb] at h
 |k+1,x,j,h=>by
  simp only[orb,dh] at h;rcases h with rfl|h
  .exact⟨0,A_ (ik _),rfl⟩
  .obtain⟨q,l,e⟩:=afw h
   refine⟨1+q,by lia,?_⟩;rw[U5];exact e
def Pn(G:it m (m+1) 0=0)(h:((List.range (m+1)).all λj=>(orb m (m+1) 0).contains j)=true):Cov m :=
 aw8 G λj Z=>by have:=jg.mp h j (by simp;exact A_ Z);obtain⟨q,l,e⟩:=afw (by simpa using this);exact⟨q,z_ l,e⟩
def Msk(m:Nat):Prop:=m=7\/m=15\/m=31\/m=63\/m=127
def bbl:Cov 7:=Pn (by decide+kernel) (by decide+kernel)
def a3b:Cov 15:=Pn (by decide+kernel) (by decide+kernel)
def a3c:Cov 31:=Pn (by decide+kernel) (by decide+kernel)
def a3d:Cov 63:=Pn (by decide+kernel) (by decide+kernel)
def aw9:Cov 127:=Pn (by decide+kernel) (by decide+kernel)
def Msk.cov(h:Msk m):Cov m:=by
 rcases h with rfl|rfl|rfl|rfl|rfl
 .exact bbl
 .exact a3b
 .exact a3c
 .exact a3d
 .exact aw9
def aqz(h:Int):bits h<2 ^ 64:=by
 unfold bits;have G:=Ac h (b:=2 ^ 64) (by decide);have Z:=yo h (b:=2 ^ 64) (by decide)
 lia
theorem a3e(m:Nat)(h:Int):∀T,I m h T<=m
 |0=>wz (Nat.mod_lt (bits h) (Nat.succ_pos m))|T+1=>wz (Nat.mod_lt (I m h T*5+1+bits h / 32 ^ (T+1)) (Nat.succ_pos m))
theorem ak0(m:Nat)(h:Int):∀k,I m h (13+k)=it m k (I m h 13)
 |0=>rfl
 |k+1=>by
  show(I m h (13+k)*5+1+bits h / 32 ^ (13+k+1))%(m+1)=f5 m (it m k (I m h 13));have:bits h / 32 ^ (13+k+1)=0:=by
   apply Nat.div_eq_of_lt;refine fc (aqz h) ?_
   calc 2 ^ 64<=32 ^ 13:=by decide
    _<=32 ^ (13+k+1):=Nat.pow_le_pow_right (by decide) (a_ x_ x_)
  rw[this,ak0 m h k];rfl
def cover(G:Msk m)(h:Int)(j:Nat)(Z:j<=m):∃T,T<=13+m/\I m h T=j:=by obtain⟨k,U,e⟩:=G.cov (I m h 13) j (a3e m h 13) Z;exact⟨13+k,w_ U,(ak0 m h k).trans e⟩
def aq0(G:Msk m)(h:Int)(j:Nat)(Z:j<=m):∃n,n<10*turns m/\(P m h n).j=j:=by obtain⟨T,lT,e⟩:=cover G h j Z;obtain⟨n,R,U⟩:=akz m h T;exact⟨n,by unfold turns;lia,by rw[U];exact e⟩
def mod_le(a m:Nat):a%(m+1)<=m:=wz (Nat.mod_lt a (Nat.succ_pos m))
def Ro(h:i<=m):i<=runEnd m i/\runEnd m i<=m:=by unfold runEnd;split<;>omega
theorem a3f(m:Nat)(h:Int):∀n,(P m h n).j+(P m h n).more<=m
 |0=>by
  have:=Ro (mod_le (bits h) m);show bits h%(m+1)+(runEnd m (bits h%(m+1))-bits h%(m+1))<=m
  omega
 |n+1=>by
  have Z:=a3f m h n;show(adv m (P m h n)).j+(adv m (P m h n)).more<=m
  by_cases q:(P m h n).more > 0
  .rw[Zd q];simp only;lia
  .rw[U4 q]
   have:=Ro (mod_le ((P m h n).i*5+1+(P m h n).perturb / 32) m);show(leap m (P m h n).i (P m h n).perturb).1+(runEnd m (leap m (P m h n).i (P m h n).perturb).1-(leap m (P m h n).i (P m h n).perturb).1)<=m
   have e:(leap m (P m h n).i (P m h n).perturb).1=((P m h n).i*5+1+(P m h n).perturb / 32)%(m+1):=rfl;rw[e];omega
def bbm(m:Nat)(h:Int)(n:Nat):(P m h n).j<=m:=by have:=a3f m h n;lia
def Occ(t:SetTable)(j:Nat):Prop:=∃i:Nat,t.place[i]?=some j
structure Zf(t:SetTable)(es:Array (Int×Value)):Prop where
 msk:Msk t.mask
 dum:t.dummies=#[]
 siz:t.place.size=es.size
 srt:Srt t.place
 bnd:∀(i j:Nat),t.place[i]?=some j->j<=t.mask
 ful:t.place.size<=t.mask
 rch:∀(i j:Nat) e,t.place[i]?=some j->es[i]?=some e->∃n,(P t.mask e.1 n).j=j/\∀m,m<n->Occ t (P t.mask e.1 m).j
theorem Zf.fits(k:Zf t es):t.fits es.size=true:=by unfold SetTable.fits fill;rw[k.dum];simp[k.siz];have:=k.ful;have:=k.siz;lia
def Msk.odd(h:Msk m):m%2=1:=by rcases h with rfl|rfl|rfl|rfl|rfl<;>rfl
def Zf.way(k:Zf t es):t.gaveWay=false:=by unfold gaveWay;rw[k.msk.odd];rfl
def ak1(hs:Srt G)(h:G.size<=m):∃j,j<=m/\∀i:Nat,G[i]?≠some j:=by
 apply Classical.byContradiction;intro hn;have all:∀j,j<=m->∃i:Nat,G[i]?=some j:=λj U=>by apply Classical.byContradiction;intro hc;exact hn ⟨j,U,λi e=>hc ⟨i,e⟩⟩
 have:∀j,j<=m->∀i:Nat,G[i]?=some j->j<=i:=by
  intro j
  induction j with
  |zero=>intro _ i _;exact ik _
  |succ j ih =>
   intro U i e;obtain⟨R,Z⟩:=all j (by lia);have:=ih (by lia) R Z;rcases Nat.lt_trichotomy i R with l|l|l
   .have:=hs _ _ _ _ e Z l;lia
   .subst l;rw[e] at Z;injection Z with Z;exact a_ (f_ Z) this
   .exact a_ (v_ this) l
 obtain⟨i,e⟩:=all m (bf _);have h1:=this m (bf _) i e;have h2:=(jf.mp e).1;exact l_ h2 (a_ h h1)
structure Fst(t:SetTable)(h:Int)(N:Nat):Prop where
 lt:N<10*turns t.mask
 emp:¬Occ t (P t.mask h N).j
 occ:∀m,m<N->Occ t (P t.mask h m).j
def least{p:Nat->Prop}:∀{n:Nat},p n->∃k,k<=n/\p k/\∀m,m<k->¬p m:=by
 intro n
 induction n using Nat.strongRecOn with
 |ind n U =>
  intro h
  by_cases G:∃m,m<n/\p m
  .obtain⟨m,l,Z⟩:=G
   obtain⟨k,R,a,b⟩:=U m l Z;exact⟨k,e_ (c_ R l),a,b⟩
  .exact⟨n,bf _,h,λm l Z=>G ⟨m,l,Z⟩⟩
def Zf.fst(k:Zf t es)(h:Int):∃N,Fst t h N:=by obtain⟨j,Z,e⟩:=ak1 k.srt k.ful;obtain⟨n,R,G⟩:=aq0 k.msk h j Z;obtain⟨N,l,a,b⟩:=least (p:=λn=>¬Occ t (P t.mask h n).j) (n:=n) (λ⟨i,c⟩=>e i (by rw[G] at c;exact c));exact⟨N,c_ l R,a,λm U=>Classical.not_not.mp (b m U)⟩
theorem ak2(k:Zf t es)(F:Fst t h N)(G:Nat->Int):∀(Z n:Nat),n<=N->N-n<Z ->
 (probe.go t G h Z (P t.mask h n)=some (.empty (P t.mask h N).j none)/\∀m,n<=m->m<N->∀i:Nat,t.place[i]?=some (P t.mask h m).j->G i≠h)
\/∃m i:Nat,n<=m/\m<N/\t.place[i]?=some (P t.mask h m).j/\G i=h/\(∀q,n<=q->q<m->∀i:Nat,t.place[i]?=some (P t.mask h q).j->G i≠h)
 /\probe.go t G h Z (P t.mask h n)=some (.candidate (P t.mask h m).j i (P t.mask h (m+1))):=by
 intro Z
 induction Z with
 |zero=>intro n _ l;omega
 |succ Z ih =>
  intro n hn l;unfold probe.go
  by_cases e:n=N
  .subst e
   left
   rw[(ad1 k.srt k.dum).mpr (λi c=>F.emp ⟨i,c⟩)];simp only;rw[Ze];exact⟨rfl,λm a b=>by lia⟩
  .obtain⟨i,hi⟩:=F.occ n (by lia)
   rw[(Rn k.srt).mpr hi];simp only[aw7];have qq:adv t.mask (P t.mask h n)=P t.mask h (n+1):=rfl;rw[qq]
   by_cases R:G i=h
   .right
    refine⟨n,i,bf _,by lia,hi,R,λq a b=>by lia,?_⟩;rw[cg (by simp[R])]
   .rw[bz (by simp[R])]
    have un:∀U:Nat,t.place[U]?=some (P t.mask h n).j->G U≠h:=λU e'=>by have a:=below_at k.srt e';have b:=below_at k.srt hi;rw[<- a,b];exact R
    rcases ih (n+1) (by lia) (by lia) with⟨a,b⟩|⟨m,U,a,b,c,d,e1,e2⟩
    .left
     refine⟨a,λm x y=>?_⟩
     by_cases q:m=n
     .subst q;exact un
     .exact b m (by lia) y
    .right
     refine⟨m,U,by lia,b,c,d,λq x y=>?_,e2⟩
     by_cases z:q=n
     .subst z;exact un
     .exact e1 q (by lia) y
def Zf.ahead(k:Zf t es)(F:Fst t h N){i:Nat}(G:es[i]?=some e)(U:e.1=h):∃m,m<N/\t.place[i]?=some (P t.mask h m).j:=by
 have R:i<t.place.size:=by rw[k.siz];exact(jf.mp G).1
 have Z:t.place[i]?=some t.place[i]:=by simp[R]
 obtain⟨n,a,b⟩:=k.rch i _ e Z G;subst U;refine⟨n,?_,by rw[a];exact Z⟩;rcases Nat.lt_trichotomy n N with l|l|l
 .exact l
 .subst l;exact absurd ⟨i,by rw[a];exact Z⟩ F.emp
 .exact absurd (b N l) F.emp
def Zg(G:Srt t.place)(q:Nat):Occ (t.put j).1 q↔q=j\/Occ t q:=by
 obtain⟨Z,U,R⟩:=Jr (j:=j) G;constructor
 .rintro⟨i,e⟩
  have e:(insertAt t.place (below t.place j) j)[i]?=some q:=e;rcases Np (below t.place j) i with rfl|⟨i',rfl⟩
  .rw[Ji _ _ _ Z] at e;cases e;exact .inl rfl
  .rw[Ou _ _ _ Z] at e;exact .inr ⟨i',e⟩
 .rintro(rfl|⟨i,e⟩)
  .exact⟨_,Ji _ _ _ Z⟩
  .exact⟨up (below t.place j) i,(Ou _ _ _ Z i).trans e⟩
theorem Zf.put(k:Zf t es)(F:Fst t h N)(room:t.place.size+1<=t.mask) :
 Zf (t.put (P t.mask h N).j).1 (insertAt es (t.put (P t.mask h N).j).2 (h,x)):=by
 obtain⟨R,h2,h3⟩:=Jr (j:=(P t.mask h N).j) k.srt;have U:below t.place (P t.mask h N).j<=es.size:=by rw[<- k.siz];exact R
 refine⟨k.msk,?_,?_,?_,?_,?_,?_⟩
 .show(if has t.dummies _ then _ else t.dummies)=#[]
  rw[k.dum,Xw];rfl
 .show(insertAt t.place _ _).size=(insertAt es _ _).size
  rw[Pk,Pk,k.siz]
 .exact aqx k.srt (λi e=>F.emp ⟨i,e⟩)
 .intro i j e
  rcases(Zg k.srt j).mp ⟨i,e⟩ with rfl|⟨i',e'⟩
  .exact bbm _ _ _
  .exact k.bnd i' j e'
 .show(insertAt t.place _ _).size<=t.mask
  rw[Pk];exact room
 .intro i j e G Z
  have G:(insertAt t.place (below t.place (P t.mask h N).j) (P t.mask h N).j)[i]?=some j:=G;have Z:(insertAt es (below t.place (P t.mask h N).j) (h,x))[i]?=some e:=Z;show ∃n,(P t.mask e.1 n).j=j/\∀m,m<n->Occ (t.put (P t.mask h N).j).1 (P t.mask e.1 m).j
  rcases Np (below t.place (P t.mask h N).j) i with rfl|⟨i',rfl⟩
  .rw[Ji _ _ _ R] at G
   rw[Ji _ _ _ U] at Z;cases G;cases Z;exact⟨N,rfl,λm l=>(Zg k.srt _).mpr (.inr (F.occ m l))⟩
  .rw[Ou _ _ _ R] at G
   rw[Ou _ _ _ U] at Z;obtain⟨n,a,b⟩:=k.rch i' j e G Z;exact⟨n,a,λm l=>(Zg k.srt _).mpr (.inr (b m l))⟩
abbrev OcO(ow:Array (Option Nat))(j:Nat):Prop:=∃i,ow[j]?=some (some i)
structure Own(m:Nat)(ow:Array (Option Nat))(hs:X9):Prop where
 siz:ow.size=m+1
 cnt:ow.toList.countP Option.isSome=hs.length
 lt:∀(j i:Nat),ow[j]?=some (some i)->i<hs.length
 inj:∀(j j' i:Nat),ow[j]?=some (some i)->ow[j']?=some (some i)->j=j'
 at':∀(i:Nat) h,hs[i]?=some h->∃j n,ow[j]?=some (some i)/\(P m h n).j=j/\∀q,q<n->OcO ow (P m h q).j
def getD_none{Z:Array (Option Nat)}(G:Z.size=m+1)(h:(Z.getD j (some 0)).isNone=true):Z[j]?=some none:=by
 by_cases l:j<Z.size
 .simp[Array.getD,l] at h;simp[l,h]
 .simp[Array.getD,l] at h
def getD_some(U:Z.size=m+1)(G:j<=m)(h:¬(Z.getD j (some 0)).isNone=true):OcO Z j:=by
 have l:j<Z.size:=by lia
 simp[Array.getD,l] at h;unfold OcO;rw[show Z[j]?=some Z[j] by simp[l]];cases e:Z[j] with
 |none=>exact absurd e h|some i=>exact⟨i,rfl⟩
def aiy(hz:G.size=m+1)(h:Int):∀(Z T n:Nat),P m h n=beg m (I m h T) (bits h / 32 ^ T)->(∀q,q<n->OcO G (P m h q).j) ->
 (∃k,k<Z/\G[I m h (T+k)]?=some none)->∃j R,layClean.free m G Z (I m h T) (bits h / 32 ^ T)=some j/\(P m h R).j=j/\G[j]?=some none/\∀q,q<R->OcO G (P m h q).j:=by
 intro Z
 induction Z with
 |zero=>rintro T n _ _ ⟨k,l,_⟩;lia
 |succ Z ih =>
  rintro T n e hq ⟨k,lk,ek⟩;have hI:=a3e m h T;obtain⟨r1,r2⟩:=Ro hI;unfold layClean.free;cases hf:(List.range (runEnd m (I m h T)+1-I m h T)).find? λk=>(G.getD (I m h T+k) (some 0)).isNone with
  |some c =>
   obtain⟨a,b,d⟩:=List.find?_range_eq_some.mp hf;have b:=ji.mp b;refine⟨_,n+c,rfl,by rw[abb e c (by omega)],getD_none hz a,λq l=>?_⟩
   by_cases hn:q<n
   .exact hq q hn
   .obtain⟨c',rfl⟩:∃c',q=n+c':=⟨q-n,by lia⟩
    rw[abb e c' (by lia)];show OcO G (I m h T+c');exact getD_some hz (by lia) (λhh=>by
     have:=d c' (by lia);simp only[hh] at this;cases this)
  |none =>
   have Ov:=List.find?_eq_none.mp hf;have U:∀c,c<=runEnd m (I m h T)-I m h T->OcO G (I m h T+c):=λc hc=>getD_some hz (by lia) (Ov c (ji.mpr (by lia)))
   cases k with
   |zero =>
    obtain⟨i,ei⟩:=U 0 (ik _);rw[Nat.add_zero] at ek ei;rw[ek] at ei;cases ei
   |succ k =>
    have pe:bits h / 32 ^ T / 32=bits h / 32 ^ (T+1):=by rw[Nat.div_div_eq_div_mul,<- Nat.pow_succ]
    have:=ih (T+1) (n+(runEnd m (I m h T)-I m h T)+1) (by rw[aky e,pe];rfl) (λq l=>?_) ⟨k,by lia,by rw[show T+1+k=T+(k+1) by lia];exact ek⟩
    .obtain⟨j,R,e1,e2⟩:=this
     refine⟨j,R,?_,e2⟩;rw[<- e1];show layClean.free m G Z ((I m h T*5+1+bits h / 32 ^ T / 32)%(m+1)) (bits h / 32 ^ T / 32)=_;rw[pe];rfl
    .by_cases hn:q<n
     .exact hq q hn
     .obtain⟨c',rfl⟩:∃c',q=n+c':=⟨q-n,by lia⟩
      rw[abb e c' (by lia)];show OcO G (I m h T+c');exact U c' (by lia)
def Own.room(k:Own m Z hs)(h:hs.length<=m):∃j,j<=m/\Z[j]?=some none:=by
 apply Classical.byContradiction;intro R;have:Z.toList.countP Option.isSome=Z.toList.length:=List.countP_eq_length.mpr λa ha=>by
  obtain⟨j,U,e⟩:=xq ha;cases a with
  |some i=>rfl
  |none =>
   have G:j<Z.size:=by simpa using U
   refine absurd ⟨j,by have:=k.siz;exact z_ (b_ G (f_ this)),?_⟩ R;rw[<- o7,du U,e]
 rw[k.cnt] at this;have:=k.siz;simp at *
 lia
theorem Own.free(R:Msk m)(k:Own m Z hs)(hl:hs.length<=m)(h:Int):∃j G,layClean.free m Z (turns m) (bits h%(m+1)) (bits h)=some j/\(P m h G).j=j/\Z[j]?=some none/\∀q,q<G->OcO Z (P m h q).j:=by obtain⟨j,U,e⟩:=k.room hl;obtain⟨T,lT,eT⟩:=cover R h j U;have:=aiy k.siz h (turns m) 0 0 (by simp[P,I]) (λq l=>by lia) ⟨T,by unfold turns;lia,by rw[sy,eT];exact e⟩;simpa[I] using this
def Own.lay(k:Own m Z G)(e1:(P m h n').j=j)(e2:Z[j]?=some none)(e3:∀q,q<n'->OcO Z (P m h q).j) :
 Own m (Z.setIfInBounds j (some G.length)) (G++[h]):=by
 have lj:j<Z.size:=(jf.mp e2).1
 have get:∀q:Nat,(Z.setIfInBounds j (some G.length))[q]?=if j=q then some (some G.length) else Z[q]?:=λq=>by rw[Array.getElem?_setIfInBounds];split<;>simp_all
 have R:∀q,OcO Z q->OcO (Z.setIfInBounds j (some G.length)) q:=λq ⟨i,e⟩=>by refine⟨i,?_⟩;rw[get,bz (λh=>by subst h;rw[e2] at e;cases e)];exact e
 refine⟨by simp[k.siz],?_,λq i e=>?_,λq q' i e U=>?_,λi h' e=>?_⟩
 .rw[Array.toList_setIfInBounds,List.countP_set (by simpa using lj),k.cnt]
  have:Z.toList[j]'(by simpa using lj)=none:=by have:=(jf.mp e2).2;simpa using this
  rw[this];simp
 .rw[get] at e
  split at e
  .cases e;simp
  .have:=k.lt q i e;simp;exact A_ (e_ this)
 .rw[get] at e U
  split at e<;>split at U
  .lia
  .cases e;have:=k.lt _ _ U;lia
  .cases U;have:=k.lt _ _ e;lia
  .exact k.inj q q' i e U
 .by_cases l:i<G.length
  .rw[gw l] at e
   obtain⟨j',n,a,b,c⟩:=k.at' i h' e;refine⟨j',n,?_,b,λq l=>R _ (c q l)⟩;rw[get,bz (λh=>by subst h;rw[e2] at a;cases a)];exact a
  .have hi:i=G.length:=by
    have:=(ak.mp e).1;simp at this;exact u_ (z_ this) (s_ l)
   subst hi;simp at e;subst e;exact⟨j,n',by rw[get,cg rfl],e1,λq l=>R _ (e3 q l)⟩
theorem afx{m:Nat}(hm:Msk m):∀(Z G:X9)(R:Array (Option Nat)),Own m R G->G.length+Z.length<=m+1 ->
 ∃U,Z.foldl (λqq h=>do
  let (owner,k) <- qq
  let j <- layClean.free m owner (turns m) (bits h%(m+1)) (bits h)
  pure (owner.setIfInBounds j (some k),k+1)) (some (R,G.length))=some (U,G.length+Z.length)/\Own m U (G++Z)
 |[],G,R,k,_=>⟨R,rfl,by simpa using k⟩
 |h::Z,G,R,k,l=>by
  obtain⟨j,n',e0,e1,e2,e3⟩:=k.free hm (by simp at l;lia) h;have k':=k.lay e1 e2 e3;obtain⟨U,a,b⟩:=afx hm Z (G++[h]) _ k' (by simp at l ⊢;lia);refine⟨U,?_,by simpa using b⟩;rw[Ad];have:(do
   let (owner,k) <- some (R,G.length)
   let j <- layClean.free m owner (turns m) (bits h%(m+1)) (bits h)
   pure (owner.setIfInBounds j (some k),k+1))=some (R.setIfInBounds j (some G.length),(G++[h]).length):=by
   show(layClean.free m R (turns m) (bits h%(m+1)) (bits h) >>= _)=_;rw[e0];simp
  rw[this,a]
  simp;lia
def ak3(U:Msk m)(G:Array Int)(l:G.size<=m+1):∃Z,layClean m G=some Z/\Own m Z G.toList:=by have R:Own m (Array.replicate (m+1) none) []:=⟨by simp,by simp,λj i e=>by simp[Array.getElem?_replicate] at e,λj j' i e=>by simp[Array.getElem?_replicate] at e,λi h e=>by simp at e⟩;obtain⟨Z,a,b⟩:=afx U G.toList [] _ R (by simpa using l);refine⟨Z,?_,by simpa using b⟩;unfold layClean;rw[<- Array.foldl_toList];exact(o9 (Option.map (·.1)) a).trans rfl
noncomputable def lv(m:Nat)(Z:Array (Option Nat)):List (Nat×Nat):=(List.range (m+1)).filterMap λj=>(Z.getD j none).map (j,·)
def Ow(k:Own m Z R):(j,i)∈lv m Z↔Z[j]?=some (some i):=by
 unfold lv;rw[List.mem_filterMap];constructor
 .rintro⟨q,a,b⟩
  obtain⟨i',G,U⟩:=bw.mp b;cases U;have:j<Z.size:=by rw[k.siz];exact ji.mp a
  simp[Array.getD,this] at G;simp[this,G]
 .intro e
  have l:=(jf.mp e).1;refine⟨j,ji.mpr (by rw[<- k.siz];exact l),?_⟩;have:Z.getD j none=some i:=by simp[Array.getD,l,(jf.mp e).2]
  rw[this];rfl
def ak4(m:Nat)(U:Array (Option Nat)):(lv m U).Pairwise λa b=>a.1<b.1:=by unfold lv;refine List.Pairwise.filterMap _ (λa a' G b R b' Z=>?_) List.pairwise_lt_range;obtain⟨_,_,rfl⟩:=bw.mp R;obtain⟨_,_,rfl⟩:=bw.mp Z;exact G
def aq1(k:Own m G U):((lv m G).map (·.2)).Perm (List.range U.length):=by
 refine(List.perm_ext_iff_of_nodup ?_ List.nodup_range).mpr λi=>?_
 .rw[List.nodup_iff_pairwise_ne,List.pairwise_map]
  refine(ak4 m G).imp_of_mem fun{a b} Z hb Nj e=>?_
  have:=k.inj a.1 b.1 a.2 ((Ow k).mp Z) (by rw[e];exact(Ow k).mp hb);exact l_ Nj (g_ this)
 .rw[di,ji]
  constructor
  .rintro⟨a,Z,rfl⟩;exact k.lt _ _ ((Ow k).mp Z)
  .intro l
   obtain⟨j,n,a,_⟩:=k.at' i _ (du l);exact⟨(j,i),(Ow k).mpr a,rfl⟩
theorem ak5{G U:Type}{g:G->Option U}:∀{l:List G},(∀x∈l,(g x).isSome=true)->∀q:Nat,(l.filterMap g)[q]?=l[q]?.bind g
 |[],_,q=>by simp
 |x::l,h,q=>by
  have Z:=h x (cz ..);obtain⟨y,e⟩:=iz.mp Z;rw[List.filterMap_cons_some e];cases q with
  |zero=>simp[e]|succ q=>simpa using ak5 (λx Z=>h x (bh _ Z)) q
def aq2(hm:Msk m)(fg mv:Nat)(ld pl:Bool)(G:Array (Int×Value))(l:G.size<=m) :
 ∃t Z,laid m fg mv ld pl (G.map (·.1))=some (t,Z)/\t.mask=m/\Zf t (Z.filterMap (G[·]?))/\(Z.filterMap (G[·]?)).toList.Perm G.toList/\(Z.filterMap (G[·]?)).size=G.size
 /\t.led=ld/\t.plain=pl/\t.finger=fg/\Z.toList.Perm (List.range G.size):=by
 obtain⟨U,e,k⟩:=ak3 hm (G.map (·.1)) (by simp;exact a_ l x_);have Xx:=aq1 k;simp at Xx;have qq:(lv m U).length=G.size:=by have:=Xx.length_eq;simpa using this
 have qk:((((lv m U).map (·.2)).toArray).filterMap (G[·]?)).size=G.size:=by have:=(Xx.filterMap (G[·]?)).length_eq;rw[filterMap_getElem?_range] at this;rw[<- rm,Array.toList_filterMap,this];simp
 refine⟨{ mask:=m,place:=((lv m U).map (·.1)).toArray,dummies:=#[],finger:=fg,led:=ld,moves:=mv,plain:=pl },((lv m U).map (·.2)).toArray,?_,rfl,?_,?_,?_,rfl,rfl,rfl,Xx⟩
 .unfold laid;rw[e];rfl
 .have q0:∀x∈(lv m U).map (·.2),(G[x]?).isSome=true:=λx hx=>by
   have:=ji.mp (Xx.mem_iff.mp hx)
   simp;exact this
  have get:∀q:Nat,((((lv m U).map (·.2)).toArray).filterMap (G[·]?))[q]?=((lv m U)[q]?).bind λa=>G[a.2]?:=λq=>by rw[<- o7,Array.toList_filterMap,ak5 q0,ie];cases(lv m U)[q]?<;>rfl
  have R:∀q j:Nat,(((lv m U).map (·.1)).toArray)[q]?=some j↔∃i,(lv m U)[q]?=some (j,i):=λq j=>by
   simp only[List.getElem?_toArray,ie,bw];constructor
   .rintro⟨a,h,rfl⟩;exact⟨a.2,h⟩
   .rintro⟨i,h⟩;exact⟨_,h,rfl⟩
  refine⟨hm,rfl,?_,?_,?_,?_,?_⟩
  .show(((lv m U).map (·.1)).toArray).size=_
   rw[qk];simp[qq]
  .intro i j a b ea eb lt
   obtain⟨i1,e1⟩:=(R i a).mp ea;obtain⟨i2,e2⟩:=(R j b).mp eb;obtain⟨l1,g1⟩:=ak.mp e1;obtain⟨l2,g2⟩:=ak.mp e2;have:=List.pairwise_iff_getElem.mp (ak4 m U) i j l1 l2 lt;rw[g1,g2] at this;exact this
  .intro i j e
   obtain⟨i1,e1⟩:=(R i j).mp e;have:=(Ow k).mp (bc e1);have:=(jf.mp this).1;rw[k.siz] at this;show j<=m
   exact z_ this
  .show(((lv m U).map (·.1)).toArray).size<=m
   simp[qq];exact l
  .intro q j e' hp he
   obtain⟨i,e1⟩:=(R q j).mp hp;rw[get,e1] at he;have he:G[i]?=some e':=he;obtain⟨j',n,a,b,c⟩:=k.at' i e'.1 (by simp[he]);have hj:=k.inj j j' i ((Ow k).mp (bc e1)) a;subst hj;refine⟨n,b,λw lw=>?_⟩;obtain⟨i',qv⟩:=c w lw;obtain⟨z,hz⟩:=n6.mp ((Ow k).mpr qv);exact⟨z,(R z _).mpr ⟨i',hz⟩⟩
 .rw[Array.toList_filterMap]
  have:=Xx.filterMap (G[·]?);rw[filterMap_getElem?_range] at this;exact this
 .exact qk
def aiz:∀n,n<32->Msk (sizeAbove (grown n)-1)/\n<=sizeAbove (grown n)-1/\n+1<=sizeAbove (grown n)-1/\¬(n*5 >= (sizeAbove (grown n)-1)*3)/\sizeAbove (grown n)<=128:=by unfold Msk;decide+kernel
section
variable{prog:Program}{w:World}{K:Type}[DecidableEq K]{knd:KeyKind prog w K}{A:Around}{E:Y1}{s:Shared}
def ad3(n:Nat)(h:carriedByValue v=true):ofAClassStatement n v=pure false:=by cases v<;>first|(simp[carriedByValue] at h;done)|(unfold ofAClassStatement;rfl)
def U6(hk:IsTupleKey knd s.heap ks a)(h:Q false s):wpAny (model prog w) A (ofAClassStatement 8 (.ref a)) Q E s:=by
 have hT:=hk.typeIs;obtain⟨o,G,n,ho,_,hd,hi⟩:=hk;unfold ofAClassStatement;refine aa (wpAny_typeOf hT ?_);show wpAny _ _ (if("tuple"=="tuple")=true then _ else _) _ _ s;rw[cg (by decide)];refine aa (aj ?_);simp only[Bool.not_true,gm,jt];refine aa (p8 ho hd ?_);refine aa ?_;show wpAny _ _ (forIn G _ _) _ _ s;rw[<- Array.forIn_toList];refine vg _ (λZ r s'=>r.1=none/\s'=s/\∀v∈Z,carriedByValue v=true) _ ?_ ?_ _ _ ⟨rfl,rfl,hi.byValue⟩
 .rintro v Z r s' ⟨R,rfl,Ov⟩
  rw[ad3 _ (Ov v cz)];refine aa (aj ?_);simp only[gm,jt];exact aj ⟨rfl,rfl,λu U=>Ov u (bh _ U)⟩
 .rintro⟨r1,r2⟩ s' ⟨R,rfl,_⟩
  simp only at R;subst R;exact aj h
def ak6(hk:IsTupleKey knd s.heap ks a)(hs:∀v∈st,∃ks b,v=.ref b/\IsTupleKey knd s.heap ks b)(h:Q false s) :
 wpAny (model prog w) A (searchCouldBeSeen (.ref a) st) Q E s:=by
 unfold searchCouldBeSeen;refine aa ?_;refine vg _ (λZ r U=>r.1=none/\U=s/\∀v∈Z,∃ks b,v=.ref b/\IsTupleKey knd s.heap ks b) _ ?_ ?_ _ _ ⟨rfl,rfl,hs⟩
 .rintro v Z r U ⟨R,rfl,Ov⟩
  obtain⟨qq,b,rfl,hb⟩:=Ov v cz;have G:∀v∈Z,∃ks b,v=.ref b/\IsTupleKey knd U.heap ks b:=λv hv=>Ov v (bh _ hv)
  dsimp only;split
  .exact aj ⟨rfl,rfl,G⟩
  .refine aa (wpAny_eqIsQuiet_tuple hk ?_)
   simp only[Bool.not_true,gm,jt];refine aa (wpAny_eqIsQuiet_tuple hb ?_);simp only[Bool.not_true,gm,jt];refine aa (U6 hk ?_);simp only[gm,jt];refine aa (U6 hb ?_);simp only[gm,jt];exact aj ⟨rfl,rfl,G⟩
 .rintro⟨r1,r2⟩ U ⟨R,rfl,_⟩
  simp only at R;subst R;exact aj h
def ent(knd:KeyKind prog w K)(x:List K×Addr):Int×Value:=(tupleKeyHash knd x.1,.ref x.2)
def ad4{G:Array (Int×Value)}{Z:List (List K×Addr)}(U:G.toList=Z.map (ent knd))(j:Nat):G[j]?=(Z[j]?).map (ent knd):=by rw[<- o7,U,ie]
def ai0{xs:List (List K×Addr)}(hu:A.units<cLine)(hk:IsTupleKey knd s.heap k p)(ho:s.heap.get? a=some o)(hd:o.data=.set es ep t)(T:Zf t es)(he:es.toList=xs.map (ent knd))(hx:∀x∈xs,IsTupleKey knd s.heap x.1 x.2)(hn:(xs.map (·.1)).Nodup)(F:Fst t (tupleKeyHash knd k) N)(z0:∀(i:Nat) x,xs[i]?=some x->x.1=k->Q (.there (if adding then none else some i)) s)(zk:(∀x∈xs,x.1≠k)->Q (.free (P t.mask (tupleKeyHash knd k) N).j false) s) :
 ∀(G n:Nat)(st:Option Probe),n<=N->N-n<G->st.getD (t.probeStart (tupleKeyHash knd k))=P t.mask (tupleKeyHash knd k) n ->
  (∀m,m<n->∀(i:Nat) x,t.place[i]?=some (P t.mask (tupleKeyHash knd k) m).j->xs[i]?=some x->x.1≠k) ->
  wpAny (model prog w) A (setSearchFrom a (.ref p) (tupleKeyHash knd k) adding G st) Q E s:=by
 intro G
 induction G with
 |zero=>intro n st _ l;omega
 |succ G ih =>
  intro n st q6 l T8 q2;unfold setSearchFrom;refine aa (wpAny_setState_of ho hd T.fits ?_);dsimp only;rw[T.way,T8];simp only[gm,jt];have z1:=ak2 T F (λi=>(es[i]?.map (·.1)).getD 0) (10*turns t.mask) n q6 (by have:=F.lt;exact c_ C_ this);generalize qq:t.probe _ (tupleKeyHash knd k) (P t.mask (tupleKeyHash knd k) n)=pr;have qq:t.probe (λi=>(es[i]?.map (·.1)).getD 0) (tupleKeyHash knd k) (P t.mask (tupleKeyHash knd k) n)=pr:=qq;have Gw:∀(i j:Nat),t.place[i]?=some j->∃x,xs[i]?=some x/\es[i]?=some (ent knd x):=λi j e=>by
   have li:i<es.size:=by rw[<- T.siz];exact(jf.mp e).1
   have lx:i<xs.length:=by have:=o9 List.length he;simp at this;exact b_ li (f_ this)
   refine⟨xs[i],by simp[lx],?_⟩;rw[ad4 he];simp[lx]
  rcases z1 with⟨e,zv⟩|⟨m,i,h1,h2,h3,h4,h5,e⟩
  .have e:pr=_:=qq.symm.trans e
   subst e;dsimp only;refine aj (zk λx zz Z=>?_);obtain⟨i,hi⟩:=n6.mp zz;have U:es[i]?=some (ent knd x):=by rw[ad4 he,hi];rfl
   obtain⟨m,lm,hp⟩:=T.ahead F U (by unfold ent;rw[Z])
   by_cases q3:m<n
   .exact q2 m q3 i x hp hi Z
   .refine zv m (s_ q3) lm i hp ?_
    rw[U];show tupleKeyHash knd x.1=_;rw[Z]
  .have e:pr=_:=qq.symm.trans e
   subst e;dsimp only;obtain⟨x,q1,U⟩:=Gw i _ h3;have zw:=hx x (bc q1);have q5:∀{R:Bool->Shared->Prop},R false s->wpAny (model prog w) A (searchCouldBeSeen (.ref p) ((es.filter (·.1==tupleKeyHash knd k)).toList.map (·.2))) R E s:=λhR=>ak6 hk (λv hv=>by
    obtain⟨y,hy,rfl⟩:=di.mp hv;have q4:y∈es.toList:=by simp at hy;simpa using hy.1
    rw[he] at q4;obtain⟨z,hz,rfl⟩:=di.mp q4;exact⟨z.1,z.2,rfl,hx z hz⟩) hR
   rcases Bool.eq_false_or_eq_true t.led with a3k|a3k
   all_goals
    simp only[a3k,Bool.not_true,Bool.not_false,gm,jt,km]
    first
    |(rw[U];show wpAny _ _ (holding [.ref x.2] (eqBool (.ref x.2) (.ref p)) >>= _) _ _ _)
    |(refine aa (q5 ?_);simp only[gm,jt];rw[U];show wpAny _ _ (holding [.ref x.2] (eqBool (.ref x.2) (.ref p)) >>= _) _ _ _)
    refine aa (jz (wpAny_eqBool_tuple hu zw hk ?_));refine aa (wpAny_setState_of ho hd T.fits ?_);dsimp only;have q7:t.sameMemory t.moves t.mask=some true:=by unfold sameMemory;simp
    rw[q7];dsimp only;rw[cg rfl,(Rn T.srt).mpr h3];dsimp only;rw[U]
    by_cases Z:x.1=k
    .have q0:decide (x.1=k)=true:=by simp[Z]
     rw[q0];have hq:=z0 i x q1 Z;cases adding
     .simp only[Bool.false_and,gm,jt]
      refine aa (wpAny_isSame_ref_self ?_);refine aa (aj ?_);simpa using aj hq
     .simp only[Bool.and_self,km]
      exact aj hq
    .have q0:decide (x.1=k)=false:=by simp[Z]
     rw[q0];simp only[Bool.and_false,gm,jt];refine aa (wpAny_isSame_ref_self ?_);refine aa (aj ?_);simp only[km];refine ih (m+1) _ h2 (by lia) rfl λm' z4 i' x' qv qk=>?_
     by_cases hc:m'<n
     .exact q2 m' hc i' x' qv qk
     .by_cases hm:m'=m
      .subst hm
       have ei:i'=i:=by rw[<- below_at T.srt qv,<- below_at T.srt h3]
       subst ei;rw[q1] at qk;cases qk;exact Z
      .intro z2
       have z3:es[i']?=some (ent knd x'):=by rw[ad4 he,qk];rfl
       refine h5 m' (s_ hc) (by lia) i' qv ?_;rw[z3];show tupleKeyHash knd x'.1=_;rw[z2]
end
section
variable{prog:Program}{w:World}{K:Type}[DecidableEq K]{knd:KeyKind prog w K}{pk:List K×Addr->Prop}{A:Around}{E:Y1}{s:Shared}
noncomputable abbrev bt(w:World):Bool:=w.params.followText "set-order"
def a90(h:Q (bt w) s):wpAny (model prog w) A setsByText Q E s:=by unfold setsByText;exact aa (wpAny_askSetting (aj h))
structure aq5(knd:KeyKind prog w K)(pk:List K×Addr->Prop)(h:Heap)(a:Addr)(xs:List (List K×Addr))(o:Obj)(es:Array (Int×Value))(ep:Nat)(t:SetTable):Prop where
 get:h.get? a=some o
 exa:o.ExactSet
 dat:o.data=.set es ep t
 tab:Zf t es
 ent:es.toList=xs.map (ent knd)
 keys:∀x∈xs,IsTupleKey knd h x.1 x.2/\pk x
 nod:(xs.map (·.1)).Nodup
 led:t.led=!bt w
 pla:t.plain=true
def U7(knd:KeyKind prog w K)(pk:List K×Addr->Prop)(h:Heap)(a:Addr)(S:List K->Prop)(n:Nat):Prop:=∃Z o U G t,aq5 knd pk h a Z o U G t/\(∀k,S k↔k∈Z.map (·.1))/\Z.length=n/\t.place.size*5<t.mask*3
theorem aq5.size(X:aq5 knd pk h a Z o es G t):es.size=Z.length:=by have:=o9 List.length X.ent;simpa using this
def axf(p:Addr)(Z:Array (Int×Value)):byScan (.ref p) Z=false:=by unfold byScan;simp[Value.scannable]
def ak7(h:Msk m):10*turns m<100000:=by rcases h with rfl|rfl|rfl|rfl|rfl<;>decide
def ad5(hu:A.units<cLine)(hk:IsTupleKey knd s.heap k p)(X:aq5 knd pk s.heap a U o es ep t)(F:Fst t (tupleKeyHash knd k) N)(Z:∀(i:Nat) x,U[i]?=some x->x.1=k->Q (.there (if adding then none else some i)) s)(G:(∀x∈U,x.1≠k)->Q (.free (P t.mask (tupleKeyHash knd k) N).j false) s) :
 wpAny (model prog w) A (setSearch a (.ref p) (tupleKeyHash knd k) adding) Q E s:=by
 unfold setSearch;exact ai0 hu hk X.get X.dat X.tab X.ent (λx R=>(X.keys x R).1) X.nod F Z G 100000 0 none (ik _) (by have:=F.lt;have:=ak7 X.tab.msk;lia) (aba _ _) (λm l=>by lia)
def a92(hu:A.units<cLine)(hk:IsTupleKey knd s.heap k p)(R:U7 knd pk s.heap a S n)(h:∀r:Option Nat,(r.isSome=true↔S k)->Q r s):wpAny (model prog w) A (setFind a (.ref p) (tupleKeyHash knd k)) Q E s:=by
 obtain⟨xs,o,es,ep,t,X,U,_,_⟩:=R;obtain⟨N,F⟩:=X.tab.fst (tupleKeyHash knd k);unfold setFind setFindIn;refine aa (wpAny_setState_of X.get X.dat X.tab.fits ?_);dsimp only;rw[axf];simp only[gm,jt];refine aa (ad5 hu hk X F (λi x hi G=>?_) (λZ=>?_))
 .simp only[gm,jt]
  exact aj (h _ (by simp;exact(U k).mpr (di.mpr ⟨x,bc hi,G⟩)))
 .dsimp only
  refine aj (h _ ?_);simp only[Option.isSome_none,gm,false_iff];intro hs;obtain⟨x,G,e⟩:=di.mp ((U k).mp hs);exact Z x G e
end
def Pq{α β:Type}{f:α->β}:∀{l R:List β},l.Perm R->∀{xs:List α},R=xs.map f->∃Z:List α,l=Z.map f/\Z.Perm xs:=by
 intro l R p
 induction p with
 |nil=>intro xs e;cases xs with
  |nil=>exact⟨[],rfl,.nil⟩|cons _ _=>cases e
 |cons a p ih =>
  intro xs e;cases xs with
  |nil=>cases e
  |cons x xs =>
   simp only[dq,List.cons.injEq] at e;obtain⟨Z,U,p1⟩:=ih e.2;exact⟨x::Z,by simp[U,e.1],p1.cons x⟩
 |swap a b l =>
  intro xs e
  match xs,e with
  |x::y::xs,e =>
   simp only[dq,List.cons.injEq] at e;obtain⟨rfl,rfl,rfl⟩:=e;exact⟨y::x::xs,rfl,.swap x y xs⟩
 |trans p q qq G =>
  intro xs e;obtain⟨ys,U,p1⟩:=G e;obtain⟨zs,e2,p2⟩:=qq U;exact⟨zs,e2,p2.trans p1⟩
section
variable{prog:Program}{w:World}{K:Type}[DecidableEq K]{knd:KeyKind prog w K}{pk:List K×Addr->Prop}{A:Around}{E:Y1}{s:Shared}
def Xy(h:n<=128):n<=sizeLine:=by rw[sizeLine_eq];exact a_ h (by decide)
end
section
variable{prog:Program}{w:World}{K:Type}[DecidableEq K]{knd:KeyKind prog w K}{pk:List K×Addr->Prop}{A:Around}{E:Y1}{s:Shared}
def Ig(hT:s.TypeIs v T)(G:isSubtype (.type T) (.type "set")=pure false)(Z:isSubtype (.type T) (.type "frozenset")=pure false)(h:Q false s) :
 wpAny (model prog w) A (Builtin.Frozenset.isAnySet v) Q E s:=by
 unfold Builtin.Frozenset.isAnySet;refine aa (qe hT G ?_);exact qe hT Z h
def bib(hT:s.TypeIs v "set")(h:Q true s):wpAny (model prog w) A (Builtin.Frozenset.isAnySet v) Q E s:=by unfold Builtin.Frozenset.isAnySet;refine aa (qe hT sub_set_self ?_);exact aj h
def Dl(w:World):Obj:={ cls:=.type "set",dict:=none,data:=.set #[] 0 (.fresh 0 0 (!bt w)) }
theorem U7.get(U:U7 knd pk h a S n):∃o Z G t,h.get? a=some o/\o.ExactSet/\o.data=.set Z G t/\t.fits Z.size=true :=
 let ⟨_,o,Z,G,t,X,_⟩:=U;⟨o,Z,G,t,X.get,X.exa,X.dat,X.tab.fits⟩
def U7.typeIs(Z:U7 knd pk s.heap a S n):s.TypeIs (.ref a) "set" :=
 let ⟨o,_,_,_,ho,hc,_⟩:=Z.get;⟨o,ho,hc.1⟩
def U7.congr(G:U7 knd pk h a S n)(e:∀k,S k↔Z k):U7 knd pk h a Z n :=
 let ⟨xs,o,es,ep,t,X,hm,r⟩:=G;⟨xs,o,es,ep,t,X,λk=>(e k).symm.trans (hm k),r⟩
end
section
variable{prog:Program}{w:World}{K:Type}[DecidableEq K]{knd:KeyKind prog w K}{pk:List K×Addr->Prop}{A:Around}{E:Y1}{s:Shared}
def aq6(Z:R (.ref s.heap.objs.size) { s with heap:=s.heap.push (Dl w) }) :
 codeAny (model prog w) A (.call (.builtin "set.__new__") ⟨[.type "set",v],[]⟩) (wants R E) s:=by
 refine vm F.plain_set_new F.entry_set_new (wpAny_of_eq (F.newCall_set_1 v) ?_);have G:=sub_set_self;unfold Builtin.«set.__new__» Builtin.Frozenset.newClass
 wp_walk
 exact wpAny_askSetting (aj (aa (wpAny_alloc (aj (aj Z)))))
set_option maxHeartbeats 3200000 in
def abd{R:Shared->Prop}(qk:wpAny (model prog w) A.in1.in1 (Builtin.Frozenset.updateFrom "set.__init__" s.heap.objs.size x) (λ_ s'=>R s') E { s with heap:=s.heap.push (Dl w) })(h:∀s',R s'->Q (.ref s.heap.objs.size) s') :
 wpAny (model prog w) A (call (.type "set") [x]) Q E s:=by
 obtain⟨c,tl,q4⟩:=qp.mro;have q2:=qp.made;have q1:=qp.sub;refine wpAny_call (codeAny_of_tree ?_);show wpAny _ _ (callAny (.type "set") _) _ _ _;refine aj ⟨Code.quiet_builtin _ (by decide+kernel),codeAny_builtin F.entry_type_call ?_⟩;rw[Around.under_plain (weight_type_call_type "set" [x] []) rfl];have h1:=qp.notType;have h2:=qp.canCreate;have q0:=F.typeCall_set_1 x
 repeat (any_goals (first|assumption|wp_step))
 refine codeAny_mono (aq6 (v:=x) (E:=E) (R:=λobj U=>obj=.ref s.heap.objs.size/\U={ s with heap:=s.heap.push (Dl w) }) ⟨rfl,rfl⟩) λr U hr=>?_
 cases r with
 |error e=>exact hr
 |ok fl =>
  cases fl with
  |ret obj =>
   obtain⟨rfl,rfl⟩:=hr;have hS:(s.heap.push (Dl w)).get? s.heap.objs.size=some (Dl w):=bj _ rfl;have hT:Shared.TypeIs { s with heap:=s.heap.push (Dl w) } (.ref s.heap.objs.size) "set" := ⟨_,hS,rfl⟩;have q5:=qp.init.lookup;have q3:=qp.init.bind (.ref s.heap.objs.size)
   repeat (any_goals (first|assumption|wp_step))
   refine codeAny_mono (vm (R:=wants (λr G=>r=.none/\R G) E) qp.init.plain F.entry_set_init (check_set_init_1 hT ?_)) λqv G Z=>?_
   .unfold Builtin.«set.__init__» noKeywords
    generalize hUF:Builtin.Frozenset.updateFrom=UF at qk ⊢;unfold Dl at hS hT qk ⊢
    wp_walk
    exact j6 qk (λ_ s' hr=>aj ⟨rfl,hr⟩) (λe s' he=>he)
   .cases qv with
    |error e=>exact Z
    |ok qq =>
     cases qq with
     |ret r =>
      obtain⟨rfl,hq⟩:=Z
      repeat (any_goals (first|assumption|wp_step))
      exact h _ hq
     |_=>exact Z.elim
  |_=>exact hr.elim
end
open PyProof.Rows (F.entry_set_update_loop F.plain_set_update_loop)
section
variable{prog:Program}{w:World}{K:Type}[DecidableEq K]{knd:KeyKind prog w K}{pk:List K×Addr->Prop}{A:Around}{E:Y1}{s:Shared}
def ai2{Z:X1}(R:IsTupleKey knd h ks p)(hp:p∉Z)(G:∀b o,b∉Z->h.get? b=some o->U.get? b=some o):IsTupleKey knd U ks p :=
 let ⟨o,items,n,ho,r⟩:=R;⟨o,items,n,G p o hp ho,r⟩
def U7.moved{Z:X1}(R:U7 knd pk h a S n)(ha:a∉Z)(hw:∀(b:Addr) (ks:List K),b∈Z->¬IsTupleKey knd h ks b)(U:∀b o,b∉Z->h.get? b=some o->h'.get? b=some o):U7 knd pk h' a S n :=
 let ⟨xs,o,es,ep,t,X,r⟩:=R
 ⟨xs,o,es,ep,t,⟨U a o ha X.get,X.exa,X.dat,X.tab,X.ent,λx G=>⟨ai2 (X.keys x G).1 (λhc=>hw _ _ hc (X.keys x G).1) U,(X.keys x G).2⟩,X.nod,X.led,X.pla⟩,r⟩
end
def aq7(k:Zf t es)(F:Fst t h N)(room:t.place.size+1<=t.mask) :
 layNew t es h x=(insertAt es (t.put (P t.mask h N).j).2 (h,x),(t.put (P t.mask h N).j).1,false,false):=by
 have e:t.freeSlot h=some ((P t.mask h N).j,false):=by
  unfold freeSlot probe;rw[aba];rcases ak2 k F (λ_=>h+1) (10*turns t.mask) 0 (ik _) (by have:=F.lt;exact c_ C_ this) with⟨a,_⟩|⟨m,i,_,_,_,c,_⟩
  .rw[a];rfl
  .lia
 have f:=(k.put (x:=x) F room).fits;unfold layNew;rw[e];show(insertAt es (t.put (P t.mask h N).j).2 (h,x),(t.put (P t.mask h N).j).1.orStandIn (insertAt es (t.put (P t.mask h N).j).2 (h,x)).size,false,!(t.put (P t.mask h N).j).1.fits (insertAt es (t.put (P t.mask h N).j).2 (h,x)).size)=_;unfold orStandIn;rw[cg f,f];rfl
def ai3(hm:Msk (sizeAbove wanted-1))(hz:es.size<=sizeAbove wanted-1) :
 ∃G t',relayAll t es wanted=(G,t',false)/\t'.mask=sizeAbove wanted-1/\Zf t' G/\G.toList.Perm es.toList/\t'.led=t.led/\t'.plain=t.plain:=by
 obtain⟨t',Z,e,e1,R,p,sz,hl,hp,_,U⟩:=aq2 hm t.finger (t.movedTo (sizeAbove wanted-1)) t.led t.plain es hz;have er:t.relaid (es.map (·.1)) wanted=some (t',Z):=e;refine⟨Z.filterMap (es[·]?),t',?_,e1,R,p,hl,hp⟩;unfold relayAll;rw[er];dsimp only;rw[cg];rw[ao];exact⟨by unfold coversAll;exact List.isPerm_iff.mpr U,R.fits⟩
noncomputable def enI(x:Int×Tok):Int×Value:=(hashInt x.1,.int x.1 x.2)
structure ad7(w:World)(h:Heap)(a:Addr)(xs:List (Int×Tok))(o:Obj)(es:Array (Int×Value))(ep:Nat)(t:SetTable):Prop where
 get:h.get? a=some o
 exa:o.ExactSet
 dat:o.data=.set es ep t
 tab:Zf t es
 ent:es.toList=xs.map enI
 nod:(xs.map (·.1)).Nodup
 led:t.led=!bt w
 pla:t.plain=true
def De(w:World)(h:Heap)(a:Addr)(S:Int->Prop)(n:Nat):Prop:=∃Z o U G t,ad7 w h a Z o U G t/\(∀k,S k↔k∈Z.map (·.1))/\Z.length=n/\t.place.size*5<t.mask*3
theorem ad7.size(X:ad7 w h a Z o es G t):es.size=Z.length:=by have:=o9 List.length X.ent;simpa using this
def ad7.elems(X:ad7 w h a G o es U t):ElemsOf (intKind prog w) es.toList:=λe Z=>by rw[X.ent] at Z;obtain⟨x,_,rfl⟩:=di.mp Z;exact⟨⟨x.1,by simp[enI,intKind,Value.isInt],rfl⟩,rfl⟩
def a3m(X:ad7 w h a xs o es U t)(T':Zf t' Z)(he:Z.toList=G.map enI)(hn:(G.map (·.1)).Nodup)(hl:t'.led=!bt w)(hp:t'.plain=true) :
 ad7 w (h.update a (Obj.putSet Z t')) a G { o with data:=.set Z (U+1) t' } Z (U+1) t':=by
 have R:(h.update a (Obj.putSet Z t')).get? a=some { o with data:=.set Z (U+1) t' }:=by have:=lz (Obj.putSet Z t') X.get (by rw[putSet_of Z t' X.dat];rfl);rw[putSet_of Z t' X.dat] at this;exact this
 exact⟨R,X.exa,rfl,T',he,hn,hl,hp⟩
theorem De.get(U:De w h a S n):∃o Z G t,h.get? a=some o/\o.ExactSet/\o.data=.set Z G t/\t.fits Z.size=true :=
 let ⟨_,o,Z,G,t,X,_⟩:=U;⟨o,Z,G,t,X.get,X.exa,X.dat,X.tab.fits⟩
theorem U8:∀{a b:X9},a.Nodup->(∀x∈a,x∈b)->a.length<=b.length
 |[],_,_,_=>ik _
 |x::a,b,h,s=>by
  obtain⟨U,G⟩:=kj.mp h;have:=U8 (b:=b.erase x) G λy Z=>(yz (λe:y=x=>U (e▸Z))).mpr (s y (.tail _ Z))
  rw[List.length_erase_of_mem (s x (.head _))] at this;have:=yj (s x (.head _));rw[gj];lia
def De.le(G:De w h a S n){B:X9}(R:∀k,S k->k∈B):n<=B.length:=by obtain⟨xs,o,es,ep,t,X,Z,rfl,_⟩:=G;rw[<- bu (f:=(·.1))];exact U8 X.nod λk U=>R k ((Z k).mpr U)
def De.congr(G:De w h a S n)(e:∀k,S k↔Z k):De w h a Z n :=
 let ⟨xs,o,es,ep,t,X,hm,r⟩:=G;⟨xs,o,es,ep,t,X,λk=>(e k).symm.trans (hm k),r⟩
def De.moved(G:De w h a S n)(Z:∀o,h.get? a=some o->U.get? a=some o):De w U a S n :=
 let ⟨xs,o,es,ep,t,X,r⟩:=G
 ⟨xs,o,es,ep,t,⟨Z o X.get,X.exa,X.dat,X.tab,X.ent,X.nod,X.led,X.pla⟩,r⟩
def ak8(Z:h.get? a=some (Dl w)):De w h a (λ_=>False) 0 :=
 ⟨[],Dl w,#[],0,_,⟨Z,⟨rfl,rfl,rfl⟩,rfl,⟨.inl rfl,rfl,rfl,λi j a b e=>by simp[SetTable.fresh] at e,λi j e=>by simp[SetTable.fresh] at e,by simp[SetTable.fresh],λi j e a=>by simp[SetTable.fresh] at a⟩,
  rfl,List.nodup_nil,rfl,rfl⟩,λk=>by simp,rfl,by simp[SetTable.fresh]⟩
def aq8(hS:De w s.heap a S n)(hn:n+1<32)(h:∀h' n' b,Heap.SameBut a s.heap h'->De w h' a (λU=>S U\/U=k) n'->n'<=n+1->Q b { s with heap:=h' }) :
 wpAny (model prog w) A (setAddHashed a (.int k tk) (hashInt k)) Q E s:=by
 obtain⟨xs,o,G,ep,t,X,hm,hl,nf⟩:=hS;obtain⟨N,F⟩:=X.tab.fst (hashInt k);have z3:=X.size;have q6:=X.elems (prog:=prog);have zv:(intKind prog w).is k (.int k tk)=true:=by simp[intKind,Value.isInt]
 unfold setAddHashed setAddHashedIn;refine jz (aa (wpAny_setState_of X.get X.dat X.tab.fits ?_));dsimp only;rw[byScan_of (knd:=intKind prog w) (x:=.int k tk) rfl (by unfold scanBound;lia) q6];simp only[↓reduceIte];unfold setAddByScan;refine aa ?_;refine aa (wpAny_rule ?_);refine aa (wpAny_setScan_of (knd:=intKind prog w) (k:=k) zv X.get X.dat X.tab.fits q6 ?_);cases hr:List.findIdx? (λe=>(intKind prog w).is k e.2) G.toList with
 |some j =>
  dsimp only;obtain⟨hj,z4,_⟩:=List.findIdx?_eq_some_iff_getElem.mp hr;have z2:S k:=by
   obtain⟨x,hx,ex⟩:∃x∈xs,enI x=G.toList[j]:=by have Zh:=uc hj;generalize G.toList[j]=e at Zh;rw[X.ent] at Zh;exact di.mp Zh
   have q7:(intKind prog w).is k (enI x).2=true:=by rw[ex];exact z4
   refine(hm k).mpr (di.mpr ⟨x,hx,?_⟩);have:(intKind prog w).is x.1 (enI x).2=true:=by simp[enI,intKind,Value.isInt]
   exact(intKind prog w).inj _ _ _ this q7
  refine aj (aj ?_);have:=h s.heap n false (Heap.SameBut.refl a s.heap) ⟨xs,o,G,ep,t,X,λU=>by
   rw[<- hm U];exact⟨λh=>h.elim id (λe=>e▸z2),.inl⟩,hl,nf⟩ x_
  exact this
 |none =>
  dsimp only;have zz:∀x∈xs,x.1≠k:=λx hx e=>by have:=List.findIdx?_eq_none_iff.mp hr (enI x) (by rw[X.ent];exact di.mpr ⟨x,hx,rfl⟩);subst e;simp[enI,intKind,Value.isInt] at this
  have room:t.place.size+1<=t.mask:=by have:=X.tab.msk;rcases this with e|e|e|e|e<;>lia
  have T':=X.tab.put (x:=.int k tk) F room;rw[aq7 X.tab F room];have K5:(t.put (P t.mask (hashInt k) N).j).1.plain=true:=X.pla;have q3:(t.put (P t.mask (hashInt k) N).j).1.led=!bt w:=X.led;obtain⟨R,ex,px⟩:=Pq (f:=enI) (insertAt_perm G (t.put (P t.mask (hashInt k) N).j).2 (hashInt k,.int k tk)) (xs:=xs++[(k,tk)]) (by rw[Array.toList_push,X.ent,gf];rfl);have pm:=px.map (·.1);have q4:(R.map (·.1)).Nodup:=pm.nodup_iff.mpr (by
   rw[gf,oh];refine⟨X.nod,by simp,λa ha b hb=>?_⟩;simp at hb;subst hb;rintro rfl;obtain⟨x,hx,e⟩:=di.mp ha;exact zz x hx e)
  have hX:=a3m X T' ex q4 q3 K5;have Zh:∀U,(S U\/U=k)↔U∈R.map (·.1):=λU=>by rw[pm.mem_iff,gf,bx,hm U];simp
  have qk:R.length=n+1:=by rw[px.length_eq];simp[hl]
  have qq:(insertAt G (t.put (P t.mask (hashInt k) N).j).2 (hashInt k,Value.int k tk)).size=G.size+1:=Pk _ _ _;have q1:(t.put (P t.mask (hashInt k) N).j).1.place.size=G.size+1:=by rw[T'.siz,qq]
  have hf:(t.put (P t.mask (hashInt k) N).j).1.fill=G.size+1:=by unfold fill;rw[q1,T'.dum];rfl
  generalize insertAt G (t.put (P t.mask (hashInt k) N).j).2 (hashInt k,Value.int k tk)=es1 at *;generalize(t.put (P t.mask (hashInt k) N).j).1=t1 at *;dsimp only;refine aa (aj ?_);rw[K5];simp only[km];refine aa ?_;rw[hashByValue_scannable 8 (x:=.int k tk) rfl];refine aj ?_;have zk:plainKind (.int k tk)=true:=rfl;simp only[zk,km];refine aa (wpAny_storeSet_of X.get X.dat ?_ (Xy (by lia)))
  by_cases Z:t1.tooFull=true
  .rw[Z]
   simp only[Bool.not_false,Bool.and_self,km];obtain⟨g1,g2,g3,g4,g5⟩:=aiz (G.size+1) (c_ (v_ (f_ z3)) (c_ (v_ (f_ hl)) hn));obtain⟨q5,t2,e2,m2,T2,p2,l2,q2⟩:=ai3 (t:=t1) (es:=es1) (wanted:=grown (G.size+1)) g1 (a_ (f_ qq) g2);rw[qq,e2];dsimp only;refine aa (aj ?_);obtain⟨z1,zw,qv⟩:=Pq p2 ex;have z0:=a3m hX T2 zw ((qv.map _).nodup_iff.mpr q4) (l2.trans q3) (q2.trans K5);have q0:q5.size=G.size+1:=by have:=p2.length_eq;simp at this;exact this.trans qq
   refine aa (wpAny_storeSet_of hX.get rfl ?_ (Xy (a_ (f_ q0) (a_ g2 (a_ C_ g5)))));refine aj (aj (h _ (n+1) true ((jj s.heap a _).trans (jj _ a _)) ⟨z1,_,q5,_,t2,z0,λU=>?_,by rw[qv.length_eq,qk],?_⟩ (bf _)))
   .exact(Zh U).trans (qv.map (·.1)).mem_iff.symm
   .rw[T2.siz,m2,q0];exact t_ g4
  .rw[Bool.not_eq_true] at Z
   rw[Z];simp only[Bool.and_false,gm,jt];refine aj (aj (h _ (n+1) true (jj s.heap a _) ⟨R,_,_,_,_,hX,Zh,qk,?_⟩ (bf _)));unfold tooFull at Z;rw[hf] at Z;rw[q1];simp at Z;exact Z
def ak9{I:Addr}{P:Nat->Value->Prop}(W:WalksS prog w A.in1 I fp wr G n P St)(a:Addr)(q3:a∉fp)(ks:X9)(q4:ks.length=n)(q7:∀i v x,P i v->ks[i]?=some x->∃tk,v=.int x tk){B:X9}(hB:∀k∈ks,k∈B)(U:B.length<31) :
 ∀(k i n':Nat)(s:Shared),n-i=k->i<=n->St i s ->
  De w s.heap a (λk'=>k'∈ks.take i) n'->n'<=B.length ->
  (∀Z qq,Moved (a::wr) G s Z->De w Z.heap a (λk'=>k'∈ks) qq->qq<=B.length->R (.ok (.ret .none)) Z) ->
  codeAny (model prog w) A (.builtin "set.update.loop" ⟨[.ref a,.ref I],[]⟩) R s:=by
 have q1:a∉wr:=λh=>q3 (W.sub _ h)
 have qv:∀b∈wr,b∈a::wr:=λb U=>bh _ U
 intro k
 induction k with
 |zero =>
  intro i n' s hk hi T8 hS q0 hR;have zv:i=n:=by lia
  subst zv;refine codeAny_builtin F.entry_set_update_loop ?_;rw[Around.under_plainId F.plain_set_update_loop _];show wpAny _ A.in1 (pyNext (.ref I) >>= _) _ _ s;refine aa (W.done s _ _ T8 λZ hm=>?_);show wpAny _ A.in1 (ret Value.none) _ _ Z;refine aj (hR Z n' (hm.mono qv) ((hS.moved λo=>hm.heap a o q1).congr λk=>?_) q0);rw[yl (f_ q4)]
 |succ k ih =>
  intro i n' s hk hi T8 hS q0 hR;have Nj:i<n:=by lia
  refine codeAny_builtin F.entry_set_update_loop ?_;rw[Around.under_plainId F.plain_set_update_loop _];show wpAny _ A.in1 (pyNext (.ref I) >>= _) _ _ s;refine aa (W.item i s _ _ Nj T8 λv Z hP z2 hm=>?_);have lx:i<ks.length:=b_ Nj (g_ q4)
  have qk:ks[i]?=some ks[i]:=by simp[lx]
  obtain⟨tk,rfl⟩:=q7 i v _ hP qk;have z1:=hS.moved λo=>hm.heap a o q1
  show wpAny _ A.in1 (holding [Value.int ks[i] tk] (setAdd a (.int ks[i] tk)) >>= _) _ _ Z;refine aa (jz ?_);unfold setAdd;refine jz ?_;refine aa (wpAny_pyHash_int ?_);refine aq8 (s:={ Z with toks:=Z.toks+1 }) z1 (by lia) λh' n2 b q2 zw z3=>?_
  have q5:De w h' a (λk=>k∈ks.take (i+1)) n2:=zw.congr λk=>by rw[List.take_add_one,bx,qk];simp
  refine aj ⟨plainId_quiet F.plain_set_update_loop _,ih (i+1) n2 _ (by lia) Nj (W.frame _ Z _ _ z2 (Nat.le_add_right _ _) λb U o e=>?_) q5 (q5.le λk hk=>hB k (List.mem_of_mem_take hk)) λz0 n3 zk q6 zz=>?_⟩
  .rw[q2.2 b (λh:b=a=>q3 (by rw[<- h];exact U))];exact e
  .refine hR z0 n3 (Moved.trans W.gtrans ((hm.mono qv).then_heap (Nat.le_add_right _ _) λb o U e=>?_) zk) q6 zz
   rw[q2.2 b (λh:b=a=>U (by rw[h];exact cz))];exact e
def aq9{id T:String}{io lo:Obj}{Z:Xt}{St:Nat->Heap->Prop}(hS:De w s.heap a (λ_=>False) 0)(U:s.heap.get? l=some lo)(hc:lo.cls=.type T)(q4:∀es ep t,lo.data≠.set es ep t)(n1:isSubtype (.type T) (.type "set")=pure false)(n2:isSubtype (.type T) (.type "frozenset")=pure false)(nd:(Value.type T==.type "dict")=false)
 (hi:∀{Q:Y1},Q (.ref s.heap.objs.size) { s with heap:=s.heap.push io }->wpAny (model prog w) A (pyIter (.ref l)) Q E s) (W:l≠s.heap.objs.size->Walks prog w A.in1 s.heap.objs.size [s.heap.objs.size,l] [s.heap.objs.size] Z.size (λi v=>Z[i]?=some v) St) (h0:St 0 (s.heap.push io))
 (qk:PyProof.Rows.IntsAre Z.toList ks) {B:X9} (hB:∀k∈ks,k∈B) (qq:B.length<31) (h:∀h' tk n',(∀b o,b≠a->s.heap.get? b=some o->h'.get? b=some o)->De w h' a (λk=>k∈ks) n'->n'<=B.length->Q () { s with heap:=h',toks:=tk }) :
 wpAny (model prog w) A (Builtin.Frozenset.updateFrom id a (.ref l)) Q E s:=by
 have hT:s.TypeIs (.ref l) T:=⟨lo,U,hc⟩;have zk:Z.size=ks.length:=by rw[<- rm];exact PyProof.Rows.IntsAre.length qk
 obtain⟨oa,zw,z0,ta,R,zv,q2,z1⟩:=hS.get;unfold Builtin.Frozenset.updateFrom;refine aa (Ig hT n1 n2 ?_);simp only[gm,jt];refine aa (wpAny_typeOf hT ?_);rw[bz (by rw[nd];simp)];refine aa (hi ?_);refine aa (wpAny_runValue ?_);have Nj:l<s.heap.objs.size:=az U
 have qv:a<s.heap.objs.size:=az R
 have q6:l≠a:=by rintro rfl;rw[U] at R;cases R;exact q4 _ _ _ q2
 have q5:a∉[s.heap.objs.size,l]:=by simp only[dh,yg,or_false,not_or];exact⟨gh qv,λe=>q6 e.symm⟩
 have G:∀b o,s.heap.get? b=some o->(s.heap.push io).get? b=some o:=λb o e=>aq _ e
 refine ak9 ((W (gh Nj)).toS) a q5 ks zk.symm (λi v x hv hx=>?_) hB qq Z.size 0 0 _ rfl (ik _)
  h0 ?_ (ik _) ?_
 .obtain⟨tk,e⟩:=PyProof.Rows.IntsAre.int_at qk i v (by rw[o7];exact hv)
  rw[qz,hx] at e;exact⟨tk,e⟩
 .refine(hS.moved λo e=>G a o e).congr λk=>by simp
 .intro s' q1 hm q7 q3
  obtain⟨h',g',d',zz,q0⟩:=s';have eg:g'=s.gens:=hm.gens;have ed:d'=s.drawn:=hm.drawn;have eo:q0=s.os:=hm.os;subst eg;subst ed;subst eo;show wpAny _ _ _ _ _ _;refine aj (h h' zz q1 (λb o hb e=>?_) q7 q3);refine hm.heap b o ?_ (G b o e);simp only[dh,yg,or_false,not_or];exact⟨hb,gh (az e)⟩
def ala{id:String}(hh:A.handled=none)(hS:De w s.heap a (λ_=>False) 0)(hl:s.heap.IsTuple l items)(U:PyProof.Rows.IntsAre items.toList ks){B:X9}(hB:∀k∈ks,k∈B)(Z:B.length<31)(h:∀G tk n',(∀b o,b≠a->s.heap.get? b=some o->G.get? b=some o)->De w G a (λk=>k∈ks) n'->n'<=B.length->Q () { s with heap:=G,toks:=tk }) :
 wpAny (model prog w) A (Builtin.Frozenset.updateFrom id a (.ref l)) Q E s:=by
 have R:=hl;obtain⟨o,ho,hc,n,hd⟩:=R;exact aq9 hS ho hc (λ_ _ _ z=>by rw[hd] at z;cases z) (by rw[isSubtype_type];kernel_rfl) (by rw[isSubtype_type];kernel_rfl) (by decide) (o5 hl) (λne=>Walks.tuple (by simp[hh]) _ l ne items) ⟨⟨_,bj _ rfl,rfl,rfl⟩,o,aq _ ho,hc,n,hd⟩ U hB Z h
def ai4(hh:A.handled=none)(hl:s.heap.IsTuple l items)(qv:PyProof.Rows.IntsAre items.toList ks){B:X9}(hB:∀k∈ks,k∈B)(qk:B.length<31)(h:∀Z tk G,(∀b o,s.heap.get? b=some o->Z.get? b=some o)->De w Z s.heap.objs.size (λk=>k∈ks) G->G<=B.length->Q (.ref s.heap.objs.size) { s with heap:=Z,toks:=tk }) :
 wpAny (model prog w) A (call (.type "set") [.ref l]) Q E s:=by
 refine abd (R:=λs'=>∃Z tk G,s'={ s with heap:=Z,toks:=tk }/\(∀b o,s.heap.get? b=some o->Z.get? b=some o)/\De w Z s.heap.objs.size (λk=>k∈ks) G/\G<=B.length)
  (ala (s:={ s with heap:=s.heap.push (Dl w) }) (by simp[hh]) (ak8 (bj _ rfl)) (let ⟨o,ho,r⟩:=hl;⟨o,aq _ ho,r⟩) qv hB qk λZ tk G hk U qq=>⟨Z,tk,G,rfl,λb o e=>hk b o (gh (az e)) (aq _ e),U,qq⟩)
  λs' ⟨Z,tk,G,e,hk,U,qq⟩=>by subst e;exact h Z tk G hk U qq
end STb
namespace MW
open PySem (Str)
set_option genInjectivity true in
inductive D where
 |non|bl (b:Bool)|int (i:Int)|str (s:Str)|tup (ds:List D)|vl (ds:List D)|fz (ds:List D)|ref (n:Nat)
noncomputable abbrev Kx:=Sum Int Str
set_option genInjectivity true in
inductive MO where
 |lst (ds:List D)|dT (ou:List (List Kx×D))|dF (ou:List (List Kx×D))|ins (c:Nat) (fs:List (Nat×D))|exc (c:Nat)
noncomputable abbrev dj:=List MO
noncomputable abbrev Env:=List (Option D)
set_option genInjectivity true in
inductive Res(α:Type) where
 |ok (a:α) (M:dj)|bad
namespace Res
noncomputable def bind{Z β:Type}(r:Res Z)(f:Z->dj->Res β):Res β :=
 match r with|ok a M=>f a M|bad=>bad
@[simp] def yd(a:α)(M:dj)(f:α->dj->Res β):(ok a M).bind f=f a M:=rfl
@[simp] def a3q(f:α->dj->Res β):(bad:Res α).bind f=bad:=rfl
noncomputable def q8{α:Type}(o:Option α)(M:dj):Res α:=match o with|some a=>ok a M|none=>bad
@[simp] def ye(a:α)(M:dj):q8 (some a) M=ok a M:=rfl
@[simp] def axi(M:dj):q8 (none:Option α) M=bad:=rfl
end Res
inductive Op2 where|add|sub|mul|fdiv|mod|pow
inductive Cp where|eq|ne|lt|le|gt|ge|inn|Xz
inductive Blt where
 |len|tuple|list|max|min|all|Js|toInt|rev|Zi (k:Nat)
inductive Bm where|append|extend|setdefault|get|index
inductive Tg where
 |name (i:Nat)|names (is:Y3)
mutual
inductive Ex where
 |var (i:Nat)|cst (d:D)
 |bin (op:Op2) (a b:Ex)|neg (a:Ex)
 |cmp (op:Cp) (a b:Ex)|chain (o1 o2:Cp) (a b c:Ex)
 |and (a b:Ex)|or (a b:Ex)|not (a:Ex)
 |tup (es:Eg)|lst (es:Eg)|Bg (es:Eg)|abf
 |ix (a b:Ex)|cut (a:Ex) (lo hi:OEx)
 |call (f:Nat) (es:Eg)|make (c:Nat)|meth (o:Ex) (m:Nat) (es:Eg)|fld (o:Ex) (f:Nat)
 |blt (b:Blt) (es:Eg)|bm (m:Bm) (o:Ex) (es:Eg)
 |comp (v:Bool) (k:Nat) (t:Tg) (it:Ox) (e:Ex)|Av (v:Bool) (k:Nat) (t:Tg) (it:Ox) (c:Ex) (e:Ex)
 |tru (e:Ex)|ntr (e:Ex)
inductive Eg where
 |nil|cons (e:Ex) (es:Eg)
inductive OEx where
 |none|some (e:Ex)
inductive Ox where
 |val (e:Ex)|Pu (e:Ex)|enm (e:Ex)|zip (es:Eg)|vals (e:Ex)
end
noncomputable abbrev Ex.v:=Ex.var
noncomputable abbrev Ex.i(n:Int):Ex:=.cst (.int n)
noncomputable abbrev Ex.l(e:Ex):Ex:=.blt .len (.cons e .nil)
noncomputable abbrev Eg.z:=Eg.nil
noncomputable abbrev Eg.c:=Eg.cons
noncomputable abbrev Eg.o(a:Ex):Eg:=.cons a .nil
noncomputable abbrev Eg.p(a b:Ex):Eg:=.cons a (.cons b .nil)
noncomputable abbrev Eg.q(a b c:Ex):Eg:=.cons a (.cons b (.cons c .nil))
inductive Lv where
 |tg (t:Tg)|sub (o i:Ex)|fld (o:Ex) (f:Nat)
mutual
inductive Al where
 |asg (l:Lv) (e:Ex)|expr (e:Ex)|iff (c:Ex) (a b:mj)|whl (c:Ex) (b:mj)|for_ (t:Tg) (it:Ox) (b:mj)
 |ret (e:Ex)|stub|raise (c:Nat)|exq (f:Nat) (es:Eg)|try_ (b:mj) (i:Nat) (h:mj)
inductive mj where
 |nil|cons (s:Al) (r:mj)
end
noncomputable abbrev Al.a(i:Nat)(e:Ex):Al:=.asg (.tg (.name i)) e
noncomputable abbrev Al.f(c:Ex)(b:mj):Al:=.iff c b .nil
noncomputable abbrev mj.z:=mj.nil
noncomputable abbrev mj.c:=mj.cons
noncomputable abbrev mj.o(a:Al):mj:=.cons a .nil
noncomputable abbrev mj.p(a b:Al):mj:=.cons a (.cons b .nil)
noncomputable abbrev mj.q(a b c:Al):mj:=.cons a (.cons b (.cons c .nil))
structure Fn where
 np:Nat
 ns:Nat
 body:mj
structure Cl where
 init:Nat
 meths:List (Nat×Nat)
noncomputable def fj(M:dj):D->Option (List D)
 |.vl ds=>some ds|.ref n=>match M[n]? with|some (.lst ds)=>some ds|_=>none
 |_=>none
def j7(M:dj):D->Option (List D)
 |.tup ds=>some ds|d=>fj M d
noncomputable def axj:D->Option Kx
 |.int i=>some (.inl i)|.str s=>some (.inr s)|_=>none
def ad9:List D->Option (List Kx)
 |[]=>some []
 |d::ds=>match axj d,ad9 ds with
  |some k,some ks=>some (k::ks)|_,_=>none
def Px:D->Option (List Kx)
 |.tup ds=>ad9 ds|_=>none
noncomputable def a3r:Kx->D
 |.inl i=>.int i|.inr s=>.str s
def ai6(ks:List Kx):D:=.tup (ks.map a3r)
noncomputable def Xh(f:D->D->Option Bool):List D->List D->Option Bool
 |[],[]=>some true
 |a::as,b::bs=>match f a b,Xh f as bs with
  |some x,some y=>some (x&&y)|_,_=>none
 |_,_=>some false
instance:DecidableEq Kx:=inferInstanceAs (DecidableEq (Sum Int Str))
noncomputable def Eh{Z:Type}[DecidableEq Z](G:List (Z×D))(k:Z):Option D:=(G.find? λp=>decide (p.1=k)).map (·.2)
def Py(M:dj):Nat->D->D->Option Bool
 |0,_,_=>none
 |n+1,a,b=>match a,b with
  |.int i,.int j=>some (decide (i=j))|.bl i,.bl j=>some (i==j)|.str i,.str j=>some (decide (i=j))|.tup as,.tup bs=>Xh (Py M n) as bs
  |a,b=>match fj M a,fj M b with
   |some as,some bs=>if as.length=bs.length then Xh (Py M n) as bs else some false
   |_,_=>none
def u9(M:dj)(a b:D):Option Bool:=Py M 6 a b
def T9(M:dj)(x:D):List D->Option (List Bool)
 |[]=>some []
 |y::ys=>match u9 M y x,T9 M x ys with
  |some a,some b=>some (a::b)|_,_=>none
def memD(M:dj)(x:D)(Z:List D):Option Bool:=(T9 M x Z).map (·.any id)
def axk(M:dj)(x:D)(Z:List D):Option Nat:=(T9 M x Z).bind (·.findIdx? id)
noncomputable def X5:List D->Option (List Int)
 |[]=>some []|.int i::r=>(X5 r).map (i::·)|_::_=>none
noncomputable def Pz(n:Nat)(i:Int):Option Nat:=if 0<=i then(if i<n then some i.toNat else none) else if -(n:Int)<=i then some (i+n).toNat else none
noncomputable def clip(n:Nat)(d:Nat):Option Int->Nat
 |none=>d|some i=>if 0<=i then min i.toNat n else(i+n).toNat
def Oz(Z:List D)(G U:Option Int):List D:=(Z.drop (clip Z.length 0 G)).take (clip Z.length Z.length U-clip Z.length 0 G)
noncomputable def arb:List Int->Option Int
 |[]=>none|a::r=>some (r.foldl (λm x=>if m<x then x else m) a)
noncomputable def axl:List Int->Option Int
 |[]=>none|a::r=>some (r.foldl (λm x=>if x<m then x else m) a)
noncomputable def Aw:List Int->List Int
 |[]=>[]|x::xs=>if x∈xs then Aw xs else x::Aw xs
noncomputable def U9{Z:Type}[DecidableEq Z](G:List (Z×D))(k:Z)(v:D):List (Z×D) :=
 if(G.any λkv=>decide (kv.1=k))=true then G.map (λkv=>if kv.1=k then(kv.1,v) else kv) else G++[(k,v)]
noncomputable def new(o:MO)(M:dj):Res D:=.ok (.ref M.length) (M++[o])
def X6(a b:D)(M:dj):Res D :=
 match a,b with
 |.int i,.int j=>.ok (.int (i+j)) M|.tup xs,.tup ys=>if xs.length+ys.length<=100000 then .ok (.tup (xs++ys)) M else .bad
 |x,y=>match fj M x,fj M y with
  |some xs,some ys=>if xs.length+ys.length<=100000 then .ok (.vl (xs++ys)) M else .bad
  |_,_=>.bad
noncomputable def ii{α:Type}(x y:D)(f:Int->Int->α)(z:α):α:=match x with|.int i=>(match y with|.int j=>f i j|_=>z)|_=>z
def Zj(h:ii x y f z=r)(Z:z≠r):∃i j,x=.int i/\y=.int j/\f i j=r:=by
 cases x with
 |int i=>cases y with
  |int j=>exact⟨i,j,rfl,rfl,h⟩|_=>exact absurd h Z
 |_=>exact absurd h Z
@[simp] def bb1(i j:Int)(f:Int->Int->α)(z:α):ii (.int i) (.int j) f z=f i j:=rfl
def a3s(a b:D)(M:dj):Res D:=ii a b (λi j=>.ok (.int (i-j)) M) .bad
def abg(a b:D)(M:dj):Res D:=match a with
 |.vl [d]=>(match b with|.int n=>if 0<=n/\n<=100000 then .ok (.vl (List.replicate n.toNat d)) M else .bad|_=>.bad)
 |.tup [d]=>(match b with|.int n=>if 0<=n/\n<=100000 then .ok (.tup (List.replicate n.toNat d)) M else .bad|_=>.bad)
 |_=>ii a b (λi j=>if(-(2 ^ 64)<i/\i<2 ^ 64)\/(-(2 ^ 64)<j/\j<2 ^ 64) then .ok (.int (i*j)) M else .bad) .bad
def axm(a b:D)(M:dj):Res D:=ii a b (λi j=>if 0<j/\j<1073741824 then .ok (.int (i / j)) M else .bad) .bad
def a3t(a b:D)(M:dj):Res D:=ii a b (λi j=>if 0<j then .ok (.int (i%j)) M else .bad) .bad
def ald(a b:D)(M:dj):Res D:=ii a b (λi j=>if 0<=j/\j<=64/\i.natAbs<2 ^ 64 then .ok (.int (i ^ j.toNat)) M else .bad) .bad
def Ax(Z:Op2):D->D->dj->Res D :=
 match Z with
 |.add=>X6|.sub=>a3s|.mul=>abg|.fdiv=>axm|.mod=>a3t|.pow=>ald
def Xk(M:dj)(a b:D):Option Bool:=(j7 M b).bind (memD M a)
def abh(f:Int->Int->Bool)(a b:D):Option Bool:=ii a b (λi j=>some (f i j)) none
def Lr(Z:Cp)(a b:D)(M:dj):Option Bool :=
 match Z with
 |.lt=>abh (λi j=>decide (i<j)) a b
 |.le=>abh (λi j=>decide (i<=j)) a b
 |.gt=>abh (λi j=>decide (j<i)) a b
 |.ge=>abh (λi j=>decide (j<=i)) a b
 |.eq=>u9 M a b|.ne=>(u9 M a b).map not|.inn=>Xk M a b|.Xz=>(Xk M a b).map not
def ixL(Z:Option (List D))(b:D):Option D:=match Z,b with
 |some Z,.int i=>(Pz Z.length i).bind λj=>Z[j]?
 |_,_=>none
def vh(a b:D)(M:dj):Option D :=
 match a with
 |.fz ds=>ixL (some ds) b
 |.ref n=>match M[n]? with
  |some (.dT ou)=>(Px b).bind (Eh ou)|_=>ixL (fj M a) b
 |_=>ixL (j7 M a) b
def Va(a:D)(G U:Option Int)(M:dj):Option D:=match a with
 |.tup Z=>some (.tup (Oz Z G U))|_=>(fj M a).map λZ=>.vl (Oz Z G U)
noncomputable def allB:List D->Option Bool
 |[]=>some true|.bl b::r=>(allB r).map (b&&·)|_::_=>none
noncomputable def Zk(M:dj):D->Res D
 |.ref n=>match M[n]? with
  |some (.lst ds)=>.ok (.int ds.length) M|_=>.bad
 |.fz ds=>.ok (.int ds.length) M|.tup ds=>.ok (.int ds.length) M|.vl ds=>.ok (.int ds.length) M|_=>.bad
def two(Z:List D)(f:Int->Int->Int)(g:D->Option Int)(M:dj):Res D :=
 match Z with
 |[a,b]=>(match a,b with|.int i,.int j=>.ok (.int (f i j)) M|_,_=>.bad)
 |[d]=>Res.q8 ((g d).map D.int) M|_=>.bad
noncomputable def Fv(Z:List D)(g:D->Res D):Res D :=
 match Z with
 |[d]=>g d|_=>.bad
def ph(b:Blt)(Z:List D)(M:dj):Res D :=
 match b with
 |.len=>Fv Z (Zk M)|.tuple=>Fv Z λd=>Res.q8 ((j7 M d).map D.tup) M
 |.max=>two Z (λi j=>if i<j then j else i) (λd=>((j7 M d).bind X5).bind arb) M
 |.min=>two Z (λi j=>if j<i then j else i) (λd=>((j7 M d).bind X5).bind axl) M
 |.all=>Fv Z λd=>Res.q8 (((fj M d).bind allB).map D.bl) M
 |.Js=>Fv Z λd=>match d with
  |.tup Z=>Res.q8 ((X5 Z).bind λis=>if is.length<31 then some (D.int (Aw is).length) else none) M
  |_=>.bad
 |.toInt=>Fv Z λd=>match d with|.bl b=>.ok (.int (if b then 1 else 0)) M|_=>.bad
 |.rev=>Fv Z λd=>match d with|.tup [x,y]=>.ok (.tup [y,x]) M|_=>.bad
 |.Zi k=>Fv Z λd=>match d with
  |.ref n=>match M[n]? with
   |some (.exc c)=>.ok (.bl (k==0||c==k)) M
   |_=>.bad
  |_=>.bad
 |.list=>Fv Z λd=>match j7 M d with
  |some G=>new (.lst G) M
  |none=>match d with
   |.ref n=>match M[n]? with
    |some (.dT ou)=>if ou.length<=1000 then .ok (.vl (ou.map λp=>ai6 p.1)) M else .bad
    |_=>.bad
   |_=>.bad
def Lh(m:Bm)(x:D)(M:dj):Bool :=
 match m with
 |.setdefault=>(match x with|.ref n=>(match M[n]? with|some (.dT _)=>true|_=>false)|_=>false)
 |.get=>(match x with|.ref n=>(match M[n]? with|some (.dT _)=>true|_=>false)|_=>false)
 |_=>(fj M x).isSome
noncomputable def Jt(n:Nat):D->Bool
 |.ref k=>k != n|_=>true
noncomputable def onL(o:D)(M:dj)(f:Nat->List D->Res D):Res D:=match o with
 |.ref n=>match M[n]? with|some (.lst xs)=>f n xs|_=>.bad
 |_=>.bad
noncomputable def onT(o:D)(M:dj)(f:Nat->List (List Kx×D)->Res D):Res D:=match o with
 |.ref n=>match M[n]? with|some (.dT ou)=>f n ou|_=>.bad
 |_=>.bad
def Fw(m:Bm)(o:D)(G:List D)(M:dj):Res D :=
 match m with
 |.append=>onL o M λn Z=>Fv G λd=>if Z.length<100000 then .ok .non (M.set n (.lst (Z++[d]))) else .bad
 |.extend=>onL o M λn Z=>Fv G λy=>match fj M y with
  |some R=>if Jt n y=true/\Z.length+R.length<100000 then .ok .non (M.set n (.lst (Z++R))) else .bad
  |none=>.bad
 |.get=>onT o M λn U=>match G with
  |[k,d]=>Res.q8 ((Px k).map λq=>(Eh U q).getD d) M
  |_=>.bad
 |.index=>Fv G λd=>Res.q8 (((fj M o).bind (axk M d)).map λ(j:Nat)=>.int (j:Int)) M
 |.setdefault=>onT o M λn U=>match G with
  |[k,d]=>match Px k with
   |some q=>match Eh U q with
    |some v=>.ok v M|none=>if U.length<100000 then .ok d (M.set n (.dT (U++[(q,d)]))) else .bad
   |none=>.bad
  |_=>.bad
def setOp(o i v:D)(M:dj):Option dj :=
 match o with
 |.ref n=>match M[n]? with
  |some (.lst xs)=>match i with
   |.int j=>(Pz xs.length j).map λq=>M.set n (.lst (xs.set q v))
   |_=>none
  |some (.dT ou)=>(Px i).bind λk=>if ou.length<100000 then some (M.set n (.dT (U9 ou k v))) else none
  |_=>none
 |_=>none
noncomputable def Vb(f:Nat)(v:D):List (Nat×D)->List (Nat×D)
 |[]=>[(f,v)]|(g,x)::r=>if g=f then(g,v)::r else(g,x)::Vb f v r
noncomputable def Jj(o:D)(f:Nat)(M:dj):Option D :=
 match o with
 |.ref n=>match M[n]? with
  |some (.ins _ fs)=>fs.lookup f|_=>none
 |_=>none
def Vc(o:D)(f:Nat)(v:D)(M:dj):Option dj :=
 match o with
 |.ref n=>match M[n]? with
  |some (.ins c fs)=>if fs.length<1000 then some (M.set n (.ins c (Vb f v fs))) else none
  |_=>none
 |_=>none
inductive Src where
 |con (ds:List D)|live (n:Nat) (len:Nat)|el (n:Nat) (len:Nat)
noncomputable def Src.len:Src->Nat
 |.con ds=>ds.length|.live _ k=>k|.el _ k=>k
noncomputable def Src.item(s:Src)(i:Nat)(M:dj):Option D :=
 match s with
 |.con ds=>ds[i]?
 |.live n k=>match M[n]? with
  |some (.lst ds)=>if ds.length=k then ds[i]? else none
  |_=>none
 |.el n k=>match M[n]? with
  |some (.lst ds)=>if ds.length=k then(ds[i]?).map λd=>.tup [.int i,d] else none
  |_=>none
noncomputable def Src.fin(s:Src)(M:dj):Bool :=
 match s with
 |.con _=>true
 |.live n k=>match M[n]? with
  |some (.lst ds)=>ds.length==k|_=>false
 |.el n k=>match M[n]? with
  |some (.lst ds)=>ds.length==k|_=>false
noncomputable def srcOf(M:dj)(d:D):Option Src :=
 match d with
 |.tup ds=>some (.con ds)|.vl ds=>some (.con ds)
 |.ref n=>match M[n]? with
  |some (.lst ds)=>some (.live n ds.length)|_=>none
 |_=>none
inductive Flow where
 |next|brk|cont|ret (d:D)|err (c:Nat)
noncomputable def Ei:List Nat->List D->Env->Env
 |i::is,d::ds,ρ=>Ei is ds (ρ.set i (some d))|_,_,ρ=>ρ
def Tg.put(t:Tg)(d:D)(Z:Env):Option Env :=
 match t with
 |.name i=>some (Z.set i (some d))
 |.names is=>match d with
  |.tup ds=>if ds.length=is.length then some (Ei is ds Z) else none
  |_=>none
structure Lp where
 call:Nat->List D->dj->Res D
 cls:List Cl
 Uj:Nat->List D->dj->Option (Nat×dj)
def Br(fin:dj->Bool)(item:Nat->dj->Option D)(Z:D->Env->dj->Res (Flow×Env)):Nat->Nat->Env->dj->Res (Flow×Env)
 |0,_,ρ,M=>if fin M then .ok (.next,ρ) M else .bad
 |k+1,i,ρ,M=>match item i M with
  |none=>.bad
  |some d=>(Z d ρ M).bind λr G=>match r.1 with
   |.next=>Br fin item Z k (i+1) r.2 G|.cont=>Br fin item Z k (i+1) r.2 G|.brk=>.ok (.next,r.2) G|.ret v=>.ok (.ret v,r.2) G|.err c=>.ok (.err c,r.2) G
def Cg(fin:dj->Bool)(item:Nat->dj->Option D)(Z:D->dj->Res (Option D)):Nat->Nat->dj->Res (List D)
 |0,_,M=>if fin M then .ok [] M else .bad
 |k+1,i,M=>match item i M with
  |none=>.bad|some d=>(Z d M).bind λo R=>(Cg fin item Z k (i+1) R).bind λG U=>.ok (match o with|some x=>x::G|none=>G) U
def Az(s:Src)(Z:D->dj->Res (Option D))(M:dj):Res (List D):=if s.len<=100000 then Cg s.fin s.item Z s.len 0 M else .bad
def Ej(c:Env->dj->Res D)(Z:Env->dj->Res (Flow×Env)):Nat->Env->dj->Res (Flow×Env)
 |0,_,_=>.bad
 |k+1,ρ,M=>(c ρ M).bind λb U=>match b with
  |.bl false=>.ok (.next,ρ) U
  |.bl true=>(Z ρ U).bind λr G=>match r.1 with
   |.next=>Ej c Z k r.2 G|.cont=>Ej c Z k r.2 G|.brk=>.ok (.next,r.2) G|.ret v=>.ok (.ret v,r.2) G|.err c=>.ok (.err c,r.2) G
  |_=>.bad
noncomputable def Vd:Nat:=1000000
noncomputable def Ua(Z G:List D):List D:=(Z.zip G).map λp=>.tup [p.1,p.2]
noncomputable def By(Z:List D):Nat->List D:=λn=>(Z.zipIdx n).map λp=>D.tup [.int p.2,p.1]
noncomputable def af0(d:D)(M:dj):Res Src :=
 match d with
 |.ref n=>match M[n]? with
  |some (.dT ou)=>.ok (.con (ou.map (·.2))) (M.set n (.dF ou))|_=>.bad
 |_=>.bad
def ard(d:D)(M:dj):Res Src :=
 match d with
 |.tup ds=>.ok (.con (By ds 0)) M|.vl ds=>.ok (.con (By ds 0)) M
 |.ref n=>match M[n]? with
  |some (.lst ds)=>.ok (.el n ds.length) M|_=>.bad
 |_=>.bad
def axn(Z:List D)(M:dj):Res Src:=match Z with
 |[.tup xs,.tup ys]=>.ok (.con (Ua xs ys)) M|_=>.bad
mutual
def Ex.den(W:Lp):Ex->Env->dj->Res D
 |.var i,ρ,M=>match ρ[i]? with
  |some (some d)=>.ok d M|_=>.bad
 |.cst d,_,M=>.ok d M|.bin op a b,ρ,M=>(a.den W ρ M).bind λx Z=>(b.den W ρ Z).bind λy G=>Ax op x y G
 |.neg a,ρ,M=>(a.den W ρ M).bind λx Z=>match x with|.int i=>.ok (.int (-i)) Z|_=>.bad
 |.cmp op a b,ρ,M=>(a.den W ρ M).bind λx Z=>(b.den W ρ Z).bind λy G=>Res.q8 ((Lr op x y G).map D.bl) G
 |.chain o1 o2 a b c,ρ,M=>(a.den W ρ M).bind λx Z=>(b.den W ρ Z).bind λy G=>(Res.q8 (Lr o1 x y G) G).bind λq G=>if q then(c.den W ρ G).bind λz M3=>Res.q8 ((Lr o2 y z M3).map D.bl) M3 else .ok (.bl false) G
 |.and a b,ρ,M=>(a.den W ρ M).bind λx Z=>match x with|.bl true=>b.den W ρ Z|.bl false=>.ok (.bl false) Z|_=>.bad
 |.or a b,ρ,M=>(a.den W ρ M).bind λx Z=>match x with|.bl true=>.ok (.bl true) Z|.bl false=>b.den W ρ Z|_=>.bad
 |.not a,ρ,M=>(a.den W ρ M).bind λx Z=>match x with|.bl b=>.ok (.bl !b) Z|_=>.bad
 |.tup es,ρ,M=>(es.den W ρ M).bind λU Z=>.ok (.tup U) Z
 |.lst es,ρ,M=>(es.den W ρ M).bind λU Z=>new (.lst U) Z
 |.Bg es,ρ,M=>(es.den W ρ M).bind λU Z=>.ok (.vl U) Z
 |.abf,_,M=>new (.dT []) M|.ix a b,ρ,M=>(a.den W ρ M).bind λx Z=>(b.den W ρ Z).bind λy G=>Res.q8 (vh x y G) G
 |.cut a lo hi,ρ,M=>(a.den W ρ M).bind λx Z=>(lo.den W ρ Z).bind λl G=>(hi.den W ρ G).bind λh M3=>Res.q8 (Va x l h M3) M3
 |.call f es,ρ,M=>(es.den W ρ M).bind λU Z=>W.call f U Z
 |.make c,ρ,M=>match W.cls[c]? with
  |some C=>(W.call C.init [.ref M.length] (M++[.ins c []])).bind λr G=>match r with|.non=>.ok (.ref M.length) G|_=>.bad
  |none=>.bad
 |.meth o m es,ρ,M=>(o.den W ρ M).bind λx Z=>(es.den W ρ Z).bind λU G=>match x with
  |.ref n=>match Z[n]? with
   |some (.ins c _)=>match(W.cls[c]?).bind λC=>C.meths.lookup m with
    |some f=>W.call f (.ref n::U) G|none=>.bad
   |_=>.bad
  |_=>.bad
 |.fld o f,ρ,M=>(o.den W ρ M).bind λx Z=>Res.q8 (Jj x f Z) Z
 |.blt b es,ρ,M=>(es.den W ρ M).bind λU Z=>ph b U Z
 |.bm m o es,ρ,M=>(o.den W ρ M).bind λx Z=>if Lh m x Z then(es.den W ρ Z).bind λU G=>Fw m x U G else .bad
 |.comp v k t it e,ρ,M=>(it.den W ρ M).bind λs Z =>
  (Az s (λd M=>match t.put d (ρ++List.replicate k none) with
   |some R=>(e.den W R M).bind λx M'=>.ok (some x) M'
   | none=>.bad) Z).bind λU G=>if v then .ok (.vl U) G else new (.lst U) G
 |.Av v k t it c e,ρ,M=>(it.den W ρ M).bind λs Z =>
  (Az s (λd M=>match t.put d (ρ++List.replicate k none) with
   |some R=>(c.den W R M).bind λb M'=>match b with
    |.bl true=>(e.den W R M').bind λx qq=>.ok (some x) qq
    |.bl false=>.ok none M'|_=>.bad
   | none=>.bad) Z).bind λU G=>if v then .ok (.vl U) G else new (.lst U) G
 |.ntr e,ρ,M=>(e.den W ρ M).bind λx Z=>Res.q8 ((j7 Z x).map λU=>D.bl U.isEmpty) Z
 |.tru e,ρ,M=>(e.den W ρ M).bind λx Z=>Res.q8 ((j7 Z x).map λU=>D.bl !U.isEmpty) Z
def Eg.den(W:Lp):Eg->Env->dj->Res (List D)
 |.nil,_,M=>.ok [] M|.cons e es,ρ,M=>(e.den W ρ M).bind λx U=>(es.den W ρ U).bind λZ G=>.ok (x::Z) G
def OEx.den(W:Lp):OEx->Env->dj->Res (Option Int)
 |.none,_,M=>.ok none M|.some e,ρ,M=>(e.den W ρ M).bind λx Z=>match x with|.int i=>.ok (some i) Z|_=>.bad
def Ox.den(W:Lp):Ox->Env->dj->Res Src
 |.val e,ρ,M=>(e.den W ρ M).bind λx Z=>Res.q8 (srcOf Z x) Z
 |.Pu e,ρ,M=>(e.den W ρ M).bind λx Z=>match x with
  |.int i=>if i.natAbs<=100000 then .ok (.con ((List.range i.toNat).map λ(k:Nat)=>D.int (k:Int))) Z else .bad
  |_=>.bad
 |.enm e,ρ,M=>(e.den W ρ M).bind ard|.zip es,ρ,M=>(es.den W ρ M).bind axn|.vals e,ρ,M=>(e.den W ρ M).bind af0
end
def Lv.put(W:Lp)(l:Lv)(d:D)(Z:Env)(M:dj):Res Env :=
 match l with
 |.tg t=>Res.q8 (t.put d Z) M|.sub o i=>(o.den W Z M).bind λx G=>(i.den W Z G).bind λy U=>(Res.q8 (setOp x y d U) U).bind λR _=>.ok Z R
 |.fld o f=>(o.den W Z M).bind λx G=>(Res.q8 (Vc x f d G) G).bind λU _=>.ok Z U
mutual
def Al.den(W:Lp):Al->Env->dj->Res (Flow×Env)
 |.asg l e,Z,M=>(e.den W Z M).bind λx G=>(l.put W x Z G).bind λR U=>.ok (.next,R) U
 |.expr e,Z,M=>(e.den W Z M).bind λ_ G=>.ok (.next,Z) G
 |.iff c a b,Z,M=>(c.den W Z M).bind λx G=>match x with|.bl true=>a.den W Z G|.bl false=>b.den W Z G|_=>.bad
 |.whl c b,Z,M=>Ej (c.den W) (b.den W) Vd Z M
 | .for_ t it b,Z,M=>(it.den W Z M).bind λs G=>Br s.fin s.item (λd Z M=>match t.put d Z with
  | some R=>b.den W R M|none=>.bad) s.len 0 Z G
 |.ret e,Z,M=>(e.den W Z M).bind λx G=>.ok (.ret x,Z) G
 |.stub,_,_=>.bad|.raise c,Z,M=>.ok (.err c,Z) M
 |.exq f es,Z,M=>(es.den W Z M).bind λds G=>match W.Uj f ds G with
  |some (c,U)=>.ok (.err c,Z) U|none=>(W.call f ds G).bind λ_ U=>.ok (.next,Z) U
 |.try_ b i h,Z,M=>(b.den W Z M).bind λp G=>match p.1 with
  |.err c=>(h.den W ((List.replicate Z.length none).set i (some (.ref G.length))) (G++[.exc c])).bind λq U=>match q.1 with
   |.ret d=>.ok (.ret d,List.replicate Z.length none) U|_=>.bad
  |f=>.ok (f,p.2) G
def mj.den(W:Lp):mj->Env->dj->Res (Flow×Env)
 |.nil,ρ,M=>.ok (.next,ρ) M
 |.cons s r,ρ,M=>(s.den W ρ M).bind λp Z=>match p.1 with
  |.next=>r.den W p.2 Z|.brk=>.ok (.brk,p.2) Z|.cont=>.ok (.cont,p.2) Z|.ret d=>.ok (.ret d,p.2) Z|.err c=>.ok (.err c,p.2) Z
end
structure Prog where
 fns:List Fn
 cls:List Cl
def Fn.run(W:Lp)(f:Fn)(G:List D)(M:dj):Res D :=
 if G.length=f.np then
  (f.body.den W (G.map some++List.replicate (f.ns-f.np) none) M).bind λp Z=>match p.1 with
   |.ret d=>.ok d Z|.next=>.ok .non Z|_=>.bad
 else .bad
def Fn.Hg(W:Lp)(f:Fn)(Z:List D)(M:dj):Option (Nat×dj) :=
 if Z.length=f.np then
  match f.body.den W (Z.map some++List.replicate (f.ns-f.np) none) M with
  |.ok (.err c,_) M1=>some (c,M1)|_=>none
 else none
def Prog.go(P:Prog):Nat->(Nat->List D->dj->Res D)×(Nat->List D->dj->Option (Nat×dj))
 |0=>(λ_ _ _=>.bad,λ_ _ _=>none)
 | n+1=>(λf Z M=>match P.fns[f]? with
  |some F=>F.run ⟨(P.go n).1,P.cls,(P.go n).2⟩ Z M|none=>.bad,λf Z M=>match P.fns[f]? with
  | some F=>F.Hg ⟨(P.go n).1,P.cls,(P.go n).2⟩ Z M|none=>none)
def Prog.call(P:Prog)(n:Nat):Nat->List D->dj->Res D:=(P.go n).1
def Prog.Uj(P:Prog)(n:Nat):Nat->List D->dj->Option (Nat×dj):=(P.go n).2
@[simp] def arf(i:Nat):(Ex.var i).den W Z M=match Z[i]? with|some (some d)=>.ok d M|_=>.bad:=rfl
@[simp high] theorem axo(d:D)(r:Env):(Ex.var 0).den W (some d::r) M=.ok d M:=rfl
@[simp high] theorem ale(Z:Option D)(d:D)(r:Env):(Ex.var 1).den W (Z::some d::r) M=.ok d M:=rfl
@[simp high] theorem axp(G Z:Option D)(d:D)(r:Env):(Ex.var 2).den W (G::Z::some d::r) M=.ok d M:=rfl
@[simp high] theorem bb2(U G Z:Option D)(d:D)(r:Env):(Ex.var 3).den W (U::G::Z::some d::r) M=.ok d M:=rfl
@[simp high] theorem bb3(R G Z U:Option D)(d:D)(r:Env):(Ex.var 4).den W (R::G::Z::U::some d::r) M=.ok d M:=rfl
@[simp high] theorem bb4(a0 U G R Z:Option D)(d:D)(r:Env):(Ex.var 5).den W (a0::U::G::R::Z::some d::r) M=.ok d M:=rfl
@[simp high] theorem bb5(a0 U G R Z a5:Option D)(d:D)(r:Env):(Ex.var 6).den W (a0::U::G::R::Z::a5::some d::r) M=.ok d M:=rfl
@[simp high] theorem bb6(a0 U G a3 Z a5 R:Option D)(d:D)(r:Env):(Ex.var 7).den W (a0::U::G::a3::Z::a5::R::some d::r) M=.ok d M:=rfl
@[simp high] theorem alf(a0 U G a3 Z a5 a6 R:Option D)(d:D)(r:Env):(Ex.var 8).den W (a0::U::G::a3::Z::a5::a6::R::some d::r) M=.ok d M:=rfl
@[simp high] theorem bb7(a0 U G a3 Z a5 a6 R a8:Option D)(d:D)(r:Env):(Ex.var 9).den W (a0::U::G::a3::Z::a5::a6::R::a8::some d::r) M=.ok d M:=rfl
@[simp high] theorem a98(a0 R U a3 Z a5 a6 a7 a8 G:Option D)(d:D)(r:Env):(Ex.var 10).den W (a0::R::U::a3::Z::a5::a6::a7::a8::G::some d::r) M=.ok d M:=rfl
@[simp high] theorem a99(a0 a1 R a3 G a5 a6 a7 a8 U Z:Option D)(d:D)(r:Env):(Ex.var 11).den W (a0::a1::R::a3::G::a5::a6::a7::a8::U::Z::some d::r) M=.ok d M:=rfl
@[simp high] theorem baa(a0 a1 a2 a3 U a5 a6 a7 a8 R G Z:Option D)(d:D)(r:Env):(Ex.var 12).den W (a0::a1::a2::a3::U::a5::a6::a7::a8::R::G::Z::some d::r) M=.ok d M:=rfl
@[simp] def Ju(d:D):(Ex.cst d).den W Z M=.ok d M:=rfl
@[simp] def arh(Z:Op2)(a b:Ex):(Ex.bin Z a b).den W G M=(a.den W G M).bind λx U=>(b.den W G U).bind λy M2=>Ax Z x y M2:=rfl
@[simp] def ari(a:Ex):(Ex.neg a).den W G M=(a.den W G M).bind λx Z=>match x with|.int i=>.ok (.int (-i)) Z|_=>.bad:=rfl
@[simp] def Uk(Z:Cp)(a b:Ex):(Ex.cmp Z a b).den W G M=(a.den W G M).bind λx U=>(b.den W G U).bind λy M2=>Res.q8 ((Lr Z x y M2).map D.bl) M2:=rfl
@[simp] def ai7(U G:Cp)(a b c:Ex):(Ex.chain U G a b c).den W Z M=(a.den W Z M).bind λx M1=>(b.den W Z M1).bind λy M2=>(Res.q8 (Lr U x y M2) M2).bind λq M2=>if q then(c.den W Z M2).bind λz R=>Res.q8 ((Lr G y z R).map D.bl) R else .ok (.bl false) M2:=rfl
def P0(a b:Ex):(Ex.and a b).den W G M=(a.den W G M).bind λx Z=>match x with|.bl true=>b.den W G Z|.bl false=>.ok (.bl false) Z|_=>.bad:=rfl
def Jv(a b:Ex):(Ex.or a b).den W G M=(a.den W G M).bind λx Z=>match x with|.bl true=>.ok (.bl true) Z|.bl false=>b.den W G Z|_=>.bad:=rfl
@[simp] def af1(a:Ex):(Ex.not a).den W G M=(a.den W G M).bind λx Z=>match x with|.bl b=>.ok (.bl !b) Z|_=>.bad:=rfl
@[simp] def arj(Z:Eg):(Ex.tup Z).den W U M=(Z.den W U M).bind λG M1=>.ok (.tup G) M1:=rfl
@[simp] def af2(Z:Eg):(Ex.lst Z).den W U M=(Z.den W U M).bind λG M1=>new (.lst G) M1:=rfl
@[simp] def Ve(Z:Eg):(Ex.Bg Z).den W U M=(Z.den W U M).bind λG M1=>.ok (.vl G) M1:=rfl
@[simp] def alg:Ex.abf.den W Z M=new (.dT []) M:=rfl
@[simp] def aea(a b:Ex):(Ex.ix a b).den W Z M=(a.den W Z M).bind λx G=>(b.den W Z G).bind λy M2=>Res.q8 (vh x y M2) M2:=rfl
@[simp] def af3(a:Ex)(G U:OEx):(Ex.cut a G U).den W Z M=(a.den W Z M).bind λx M1=>(G.den W Z M1).bind λl R=>(U.den W Z R).bind λh M3=>Res.q8 (Va x l h M3) M3:=rfl
@[simp] def Vf(f:Nat)(Z:Eg):(Ex.call f Z).den W U M=(Z.den W U M).bind λG M1=>W.call f G M1:=rfl
@[simp] def alh(c:Nat):(Ex.make c).den W G M=(match W.cls[c]? with
 |some C=>(W.call C.init [.ref M.length] (M++[.ins c []])).bind λr Z=>match r with|.non=>.ok (.ref M.length) Z|_=>.bad
 | none=>.bad):=rfl
@[simp] def ali(o:Ex)(m:Nat)(G:Eg):(Ex.meth o m G).den W U M=(o.den W U M).bind λx Z=>(G.den W U Z).bind λds R=>(match x with
 |.ref n=>match Z[n]? with
  |some (.ins c _)=>match(W.cls[c]?).bind λC=>C.meths.lookup m with
   |some f=>W.call f (.ref n::ds) R|none=>.bad
  |_=>.bad
 | _=>.bad):=rfl
@[simp] def ark(o:Ex)(f:Nat):(Ex.fld o f).den W Z M=(o.den W Z M).bind λx M1=>Res.q8 (Jj x f M1) M1:=rfl
@[simp] def Qa(b:Blt)(Z:Eg):(Ex.blt b Z).den W U M=(Z.den W U M).bind λG M1=>ph b G M1:=rfl
@[simp] def axq(m:Bm)(o:Ex)(G:Eg):(Ex.bm m o G).den W U M=(o.den W U M).bind λx Z=>if Lh m x Z then(G.den W U Z).bind λds R=>Fw m x ds R else .bad:=rfl
def abi(v:Bool)(k:Nat)(t:Tg)(it:Ox)(e:Ex):(Ex.comp v k t it e).den W G M=(it.den W G M).bind λs R =>
 (Az s (λd M=>match t.put d (G++List.replicate k none) with
  |some Z=>(e.den W Z M).bind λx M'=>.ok (some x) M'
  | none=>.bad) R).bind λU M2=>if v then .ok (.vl U) M2 else new (.lst U) M2:=rfl
def Vg(v:Bool)(k:Nat)(t:Tg)(it:Ox)(c e:Ex):(Ex.Av v k t it c e).den W U M=(it.den W U M).bind λs M1 =>
 (Az s (λd M=>match t.put d (U++List.replicate k none) with
  |some Z=>(c.den W Z M).bind λb M'=>match b with
   |.bl true=>(e.den W Z M').bind λx G=>.ok (some x) G
   |.bl false=>.ok none M'|_=>.bad
  | none=>.bad) M1).bind λR M2=>if v then .ok (.vl R) M2 else new (.lst R) M2:=rfl
@[simp] def Ek:Eg.nil.den W Z M=.ok [] M:=rfl
@[simp] def Cr(e:Ex)(Z:Eg):(Eg.cons e Z).den W G M=(e.den W G M).bind λx R=>(Z.den W G R).bind λU M2=>.ok (x::U) M2:=rfl
@[simp] def X7:OEx.none.den W Z M=.ok none M:=rfl
@[simp] def X8(e:Ex):(OEx.some e).den W G M=(e.den W G M).bind λx Z=>match x with|.int i=>.ok (some i) Z|_=>.bad:=rfl
@[simp] def G6(e:Ex):(Ox.val e).den W Z M=(e.den W Z M).bind λx M1=>Res.q8 (srcOf M1 x) M1:=rfl
@[simp] theorem Ul{W:Lp}{Z:Env}{M:dj}(e:Ex):(Ox.Pu e).den W Z M=(e.den W Z M).bind λx G=>match x with
 |.int i=>if i.natAbs<=100000 then .ok (.con ((List.range i.toNat).map λ(k:Nat)=>D.int (k:Int))) G else .bad
 |_=>.bad:=rfl
@[simp] def Zm(e:Ex):(Ox.enm e).den W Z M=(e.den W Z M).bind ard:=rfl
@[simp] def abj(e:Ex):(Ox.vals e).den W Z M=(e.den W Z M).bind af0:=rfl
@[simp] def af4(Z:Eg):(Ox.zip Z).den W G M=(Z.den W G M).bind axn:=rfl
@[simp] def Qc(e:Ex):(Ex.ntr e).den W G M=(e.den W G M).bind λx M1=>Res.q8 ((j7 M1 x).map λZ=>D.bl Z.isEmpty) M1:=rfl
@[simp] def af5(e:Ex):(Ex.tru e).den W G M=(e.den W G M).bind λx M1=>Res.q8 ((j7 M1 x).map λZ=>D.bl !Z.isEmpty) M1:=rfl
@[simp] def Rp(l:Lv)(e:Ex):(Al.asg l e).den W G M=(e.den W G M).bind λx U=>(l.put W x G U).bind λZ M2=>.ok (.next,Z) M2:=rfl
@[simp] def Zn(e:Ex):(Al.expr e).den W Z M=(e.den W Z M).bind λ_ M1=>.ok (.next,Z) M1:=rfl
def axr(c:Ex)(a b:mj):(Al.iff c a b).den W Z M=(c.den W Z M).bind λx G=>match x with|.bl true=>a.den W Z G|.bl false=>b.den W Z G|_=>.bad:=rfl
@[simp] def axs(e:Ex):(Al.ret e).den W Z M=(e.den W Z M).bind λx M1=>.ok (.ret x,Z) M1:=rfl
@[simp] def bab:Al.stub.den W Z M=.bad:=rfl
@[simp] def alj:(Al.raise c).den W Z M=.ok (.err c,Z) M:=rfl
@[simp] theorem axt:(Al.exq f es).den W Z M=(es.den W Z M).bind λU G=>match W.Uj f U G with
 |some (c,M2)=>.ok (.err c,Z) M2|none=>(W.call f U G).bind λ_ M2=>.ok (.next,Z) M2:=rfl
def Ls(c:Ex)(b:mj):(Al.whl c b).den W Z M=Ej (c.den W) (b.den W) Vd Z M:=rfl
def Vh(t:Tg)(it:Ox)(b:mj):(Al.for_ t it b).den W Z M=(it.den W Z M).bind λs M1=>Br s.fin s.item (λd Z M=>match t.put d Z with
 | some G=>b.den W G M|none=>.bad) s.len 0 Z M1:=rfl
@[simp] def arl:mj.nil.den W Z M=.ok (.next,Z) M:=rfl
theorem Vi{W:Lp}{Z:Env}{M:dj}(s:Al)(r:mj):(mj.cons s r).den W Z M=(s.den W Z M).bind λp M1=>match p.1 with
 |.next=>r.den W p.2 M1|.brk=>.ok (.brk,p.2) M1|.cont=>.ok (.cont,p.2) M1|.ret d=>.ok (.ret d,p.2) M1|.err c=>.ok (.err c,p.2) M1:=rfl
def ai8(W:Lp)(r:mj)(x:Res (Flow×Env)):Res (Flow×Env):=x.bind λp Z=>match p.1 with
 |.next=>r.den W p.2 Z|.brk=>.ok (.brk,p.2) Z|.cont=>.ok (.cont,p.2) Z|.ret d=>.ok (.ret d,p.2) Z|.err c=>.ok (.err c,p.2) Z
@[simp] def wj(s:Al)(r:mj):(mj.cons s r).den W Z M=ai8 W r (s.den W Z M):=rfl
@[simp] def v9(r:mj):ai8 W r (.ok (.next,Z) M)=r.den W Z M:=rfl
@[simp] def bac(r:mj):ai8 W r (.ok (.brk,Z) M)=.ok (.brk,Z) M:=rfl
@[simp] def bae(r:mj):ai8 W r (.ok (.err c,Z) M)=.ok (.err c,Z) M:=rfl
@[simp] def a3u(r:mj):ai8 W r (.ok (.cont,Z) M)=.ok (.cont,Z) M:=rfl
@[simp] def arn(r:mj)(d:D):ai8 W r (.ok (.ret d,Z) M)=.ok (.ret d,Z) M:=rfl
def ifK{α:Type}(a b:dj->Res α)(x:Res D):Res α:=x.bind λx Z=>match x with|.bl true=>a Z|.bl false=>b Z|_=>.bad
@[simp] def alk(c:Ex)(a b:mj):(Al.iff c a b).den W Z M=ifK (a.den W Z) (b.den W Z) (c.den W Z M):=rfl
@[simp] def bb8(a b:Ex):(Ex.and a b).den W Z M=ifK (b.den W Z) (.ok (.bl false)) (a.den W Z M):=rfl
@[simp] def av2(a b:Ex):(Ex.or a b).den W Z M=ifK (.ok (.bl true)) (b.den W Z) (a.den W Z M):=rfl
@[simp] def a3v(a b:dj->Res α):ifK a b (.ok (.bl true) M)=a M:=rfl
@[simp] def av3(a b:dj->Res α):ifK a b (.ok (.bl false) M)=b M:=rfl
@[simp] def aeb(t:Tg)(d:D):(Lv.tg t).put W d Z M=Res.q8 (t.put d Z) M:=rfl
@[simp] def aro(o i:Ex)(d:D):(Lv.sub o i).put W d Z M=(o.den W Z M).bind λx U=>(i.den W Z U).bind λy G=>(Res.q8 (setOp x y d G) G).bind λM3 _=>.ok Z M3:=rfl
@[simp] def arp(o:Ex)(f:Nat)(d:D):(Lv.fld o f).put W d G M=(o.den W G M).bind λx Z=>(Res.q8 (Vc x f d Z) Z).bind λM2 _=>.ok G M2:=rfl
@[simp] def aec(i:Nat)(d:D):(Tg.name i).put d Z=some (Z.set i (some d)):=rfl
@[simp] def av4(is:Y3)(Z:List D)(h:Z.length=is.length):(Tg.names is).put (.tup Z) G=some (Ei is Z G):=by simp[Tg.put,h]
@[simp] def av5(i:Nat)(is:Y3)(d:D)(Z:List D):Ei (i::is) (d::Z) G=Ei is Z (G.set i (some d)):=rfl
@[simp] def axu(Z:List D):Ei [] Z ρ=ρ:=by cases Z<;>rfl
@[simp] def a3w(i j:Int):Ax .add (.int i) (.int j) M=.ok (.int (i+j)) M:=rfl
@[simp] def a3x(i j:Int):Ax .sub (.int i) (.int j) M=.ok (.int (i-j)) M:=rfl
def Lw(i j:Int)(h:(-(2 ^ 64)<i/\i<2 ^ 64)\/(-(2 ^ 64)<j/\j<2 ^ 64)):Ax .mul (.int i) (.int j) M=.ok (.int (i*j)) M:=cg h
def Yb(i j:Int)(h:0<j)(Z:j<1073741824):Ax .fdiv (.int i) (.int j) M=.ok (.int (i / j)) M:=cg ⟨h,Z⟩
@[simp] def a3y(i j:Int)(h:0<j):Ax .mod (.int i) (.int j) M=.ok (.int (i%j)) M:=cg h
@[simp] def axv:Ax .pow (.int 10) (.int 18) M=.ok (.int (10 ^ 18)) M:=by simp[Ax,ald]
@[simp] def arq(ds:List D):ard (.tup ds) M=.ok (.con (By ds 0)) M:=rfl
@[simp] def bb9(Z:List D):ard (.vl Z) M=.ok (.con (By Z 0)) M:=rfl
@[simp] def eq_str(i j:PySem.Str):u9 M (.str i) (.str j)=some (decide (i=j)):=rfl
def Nq(Z G:List D)(h:Z.length+G.length<=100000):Ax .add (.tup Z) (.tup G) M=.ok (.tup (Z++G)) M:=cg h
def Yc(Z G:List D)(h:Z.length+G.length<=100000):Ax .add (.vl Z) (.vl G) M=.ok (.vl (Z++G)) M:=cg h
@[simp] def bca(i j:Int):Lr .lt (.int i) (.int j) M=some (decide (i<j)):=rfl
@[simp] def bcb(i j:Int):Lr .le (.int i) (.int j) M=some (decide (i<=j)):=rfl
@[simp] def cmp_gt(i j:Int):Lr .gt (.int i) (.int j) M=some (decide (j<i)):=rfl
@[simp] def bcc(i j:Int):Lr .ge (.int i) (.int j) M=some (decide (j<=i)):=rfl
@[simp] def alm(a b:D):Lr .eq a b M=u9 M a b:=rfl
@[simp] def bcd(a b:D):Lr .ne a b M=(u9 M a b).map not:=rfl
@[simp] def bcf(a b:D):Lr .inn a b M=Xk M a b:=rfl
@[simp] def a2g(a b:D):Lr .Xz a b M=(Xk M a b).map not:=rfl
def Zo(n:Nat)(i j:Int):Py M (n+1) (.int i) (.int j)=some (decide (i=j)):=rfl
def aln(U:f a b=some x)(Z:Xh f G bs=some y):Xh f (a::G) (b::bs)=some (x&&y):=by simp[Xh,U,Z]
@[simp] def eq_int(i j:Int):u9 M (.int i) (.int j)=some (decide (i=j)):=rfl
@[simp] def bgf(i j:Bool):u9 M (.bl i) (.bl j)=some (i==j):=rfl
@[simp] def a2h(ds:List D):fj M (.vl ds)=some ds:=rfl
@[simp] def a3z(ds:List D):j7 M (.vl ds)=some ds:=rfl
@[simp] def a2i(ds:List D):j7 M (.tup ds)=some ds:=rfl
def jd(h:M[n]?=some (.lst ds)):fj M (.ref n)=some ds:=by simp[fj,h]
def Ci(h:fj M d=some ds):j7 M d=some ds:=by cases d<;>first|exact h|(simp[fj] at h)
set_option tactic.hygienic true in
def len_list(h:fj M d=some ds):ph .len [d] M=.ok (.int ds.length) M:=by
 show Zk M d=_;cases d with
 |vl Z=>simp[fj] at h;subst h;rfl
 |ref n =>
  simp only[fj] at h;split at h<;>simp at h;rename_i Z Y;subst h;simp[Zk,Y]
 |_=>simp[fj] at h
@[simp] def a4a(d:D)(g:D->Res D):Fv [d] g=g d:=rfl
@[simp] def a4b(g:D->Res D):Fv [] g=.bad:=rfl
@[simp] def a2j(a b:D)(l:List D)(g:D->Res D):Fv (a::b::l) g=.bad:=rfl
@[simp] def bcg(i j:Int)(f:Int->Int->Int)(g:D->Option Int):two [.int i,.int j] f g M=.ok (.int (f i j)) M:=rfl
@[simp] def baf(d:D)(f:Int->Int->Int)(g:D->Option Int):two [d] f g M=Res.q8 ((g d).map D.int) M:=rfl
@[simp] def axw(Z:List D):Zk M (.tup Z)=.ok (.int Z.length) M:=rfl
def ym:ph .len [.tup ds] M=.ok (.int ds.length) M:=rfl
def zu(h:fj M d=some ds)(R:0<=i)(hx:ds[i.toNat]?=some x):vh d (.int i) M=some x:=by
 obtain⟨G,Z⟩:=ak.mp hx;have U:i<ds.length:=by lia
 cases d with
 |vl xs=>simp[fj] at h;subst h;simp[vh,ixL,j7,Pz,R,U,G,Z]
 |ref n =>
  simp only[fj] at h;cases e:M[n]? with
  |none=>rw[e] at h;simp at h|some o=>rw[e] at h;cases o<;>simp at h<;>subst h<;>simp[vh,ixL,j7,fj,e,Pz,R,U,G,Z]
 |_=>simp[fj] at h
def Jw(h0:0<=i)(G:ds[i.toNat]?=some x):vh (.tup ds) (.int i) M=some x:=by
 obtain⟨U,Z⟩:=ak.mp G;have R:i<ds.length:=by lia
 simp[vh,ixL,j7,Pz,h0,R,U,Z]
def a4c(h0:0<=i)(G:ds[i.toNat]?=some x):vh (.fz ds) (.int i) M=some x:=by
 obtain⟨U,Z⟩:=ak.mp G;have R:i<ds.length:=by lia
 simp[vh,ixL,Pz,h0,R,U,Z]
def alo:ph .len [.fz ds] M=.ok (.int ds.length) M:=rfl
@[simp] def Ih(x:D)(r:List D):vh (.tup (x::r)) (.int 0) M=some x:=Jw (by decide) rfl
@[simp] def Nr(x y:D)(r:List D):vh (.tup (x::y::r)) (.int 1) M=some y:=Jw (by decide) rfl
@[simp] def Um(x y z:D)(r:List D):vh (.tup (x::y::z::r)) (.int 2) M=some z:=Jw (by decide) rfl
@[simp] def bgg(i j:Int):Px (.tup [.int i,.int j])=some [.inl i,.inl j]:=rfl
def a4d(h:M[n]?=some (.dT G))(Z:Px b=some k):vh (.ref n) b M=Eh G k:=by simp[vh,h,Z]
def aed(h:M[n]?=some (.dT Z))(G:Px b=some k)(U:Z.length<100000):setOp (.ref n) b d M=some (M.set n (.dT (U9 Z k d))):=by simp[setOp,h,G,U]
def Lx(h:M[n]?=some (.lst Z)):Lh .append (.ref n) M=true:=by simp[Lh,fj,h]
def Ii(h:M[n]?=some (.lst Z))(G:Z.length<100000):Fw .append (.ref n) [d] M=.ok .non (M.set n (.lst (Z++[d]))):=by simp[Fw,onL,h,G]
def af6(h:M[n]?=some (.lst Z))(G:0<=i)(U:i<Z.length):setOp (.ref n) (.int i) d M=some (M.set n (.lst (Z.set i.toNat d))):=by simp[setOp,h,Pz,G,U]
def tu{M:dj}(h:M[a]?=some o):a<M.length:=(ak.mp h).1
def o6{M:dj}(h:M[a]?=some p):(M.set a o)[a]?=some o:=by rw[vd (tu h)]
def jq{M:dj}(h:b≠a):(M.set b o)[a]?=M[a]?:=uh h
def Ba{M:dj}{a:Nat}(h:M[a]?=some o):(M++X)[a]?=some o:=by rw[gw (tu h)];exact h
@[simp] def zx{M:dj}:(M++[o])[M.length]?=some o:=by simp
theorem Zq{fin:dj->Bool}{item:Nat->dj->Option D}{U:D->Env->dj->Res (Flow×Env)}(I:Nat->Env->dj->Prop){n:Nat}
 (step:∀i Z M,i<n->I i Z M->∃d fl G R,item i M=some d/\U d Z M=.ok (fl,G) R/\(fl=.next\/fl=.cont)/\I (i+1) G R) (Vj:∀Z M,I n Z M->fin M=true) :
 ∀(k i:Nat)(Z:Env)(M:dj),i+k=n->I i Z M->∃G R,Br fin item U k i Z M=.ok (.next,G) R/\I n G R
 |0,i,Z,M,e,h=>by
  have q:i=n:=by lia
  rw[q] at h;exact⟨Z,M,by simp[Br,Vj Z M h],h⟩
 |k+1,i,Z,M,e,h=>by
  obtain⟨d,fl,qq,M1,h1,h2,h3,h4⟩:=step i Z M (by lia) h;obtain⟨qk,M2,g1,g2⟩:=Zq I step Vj k (i+1) qq M1 (by lia) h4;refine⟨qk,M2,?_,g2⟩;rcases h3 with rfl|rfl<;>simp[Br,h1,h2,g1]
def Uo(I:Nat->Env->dj->Prop)(h0:I 0 G M)(step:∀i d G M,ds[i]?=some d->I i G M->∃U Z M',body d G M=.ok (U,Z) M'/\(U=.next\/U=.cont)/\I (i+1) Z M') :
 ∃Z M',Br (Src.con ds).fin (Src.con ds).item body (Src.con ds).len 0 G M=.ok (.next,Z) M'/\I ds.length Z M':=by
 refine Zq I (λi G M R h=>?_) (λ_ _ _=>rfl) ds.length 0 G M (sy _) h0;obtain⟨U,Z,M',a,b,c⟩:=step i ds[i] G M (by simp[R]) h;exact⟨ds[i],U,Z,M',by simp[Src.item,R],a,b,c⟩
def ars(I:Nat->Env->dj->Prop)(h0:I 0 G M)(step:∀i G M,i<n->I i G M->∃R Z M',body (.int i) G M=.ok (R,Z) M'/\(R=.next\/R=.cont)/\I (i+1) Z M') :
 ∃Z M',Br (Src.con ((List.range n).map λ(k:Nat)=>D.int (k:Int))).fin (Src.con ((List.range n).map λ(k:Nat)=>D.int (k:Int))).item body (Src.con ((List.range n).map λ(k:Nat)=>D.int (k:Int))).len 0 G M=.ok (.next,Z) M'/\I n Z M':=by
 have:=Uo (ds:=(List.range n).map λ(k:Nat)=>D.int (k:Int)) (body:=body) I h0 (λi d G M U h=>by
  have hi:i<n:=by have:=(ak.mp U).1;simpa using this
  rw[ie,List.getElem?_range hi] at U;have U:D.int (i:Int)=d:=by simpa using U
  subst U;exact step i G M hi h)
 simpa using this
def alp(I:Nat->Env->dj->Prop)(h0:I 0 G M)(stay:∀i G M,I i G M->M[p]?=some (.lst ds))(step:∀i d G M,ds[i]?=some d->I i G M->∃U Z M',body d G M=.ok (U,Z) M'/\(U=.next\/U=.cont)/\I (i+1) Z M') :
 ∃Z M',Br (Src.live p ds.length).fin (Src.live p ds.length).item body (Src.live p ds.length).len 0 G M=.ok (.next,Z) M'/\I ds.length Z M':=by
 refine Zq I (λi G M R h=>?_) (λG M h=>by simp[Src.fin,stay _ G M h]) ds.length 0 G M (sy _) h0;obtain⟨U,Z,M',a,b,c⟩:=step i ds[i] G M (by simp[R]) h;exact⟨ds[i],U,Z,M',by simp[Src.item,stay i G M h,R],a,b,c⟩
theorem Ly{fin:dj->Bool}{item:Nat->dj->Option D}{body:D->dj->Res (Option D)}(I:Nat->List D->dj->Prop){n:Nat}
 (step:∀i Z M,i<n->I i Z M->∃d o G,item i M=some d/\body d M=.ok o G/\I (i+1) (Z++o.toList) G) (R:∀Z M,I n Z M->fin M=true) :
 ∀(k i:Nat)(Z:List D)(M:dj),i+k=n->I i Z M->∃U G,Cg fin item body k i M=.ok U G/\I n (Z++U) G
 |0,i,Z,M,e,h=>by
  have q:i=n:=by lia
  rw[q] at h;exact⟨[],M,by simp[Cg,R Z M h],by simpa using h⟩
 |k+1,i,Z,M,e,h=>by
  obtain⟨d,o,M1,h1,h2,h3⟩:=step i Z M (by lia) h;obtain⟨U,M2,g1,g2⟩:=Ly I step R k (i+1) (Z++o.toList) M1 (by lia) h3;refine⟨o.toList++U,M2,?_,by rw[<- o8];exact g2⟩;cases o<;>simp[Cg,h1,h2,g1]
def Yd{s:Src}{ds:List D}(Vj:s.fin M=true)(hl:s.len=ds.length)(hi:∀i,i<ds.length->s.item i M=ds[i]?)(h:∀d∈ds,body d M=.ok (g d) M) :
 Cg s.fin s.item body s.len 0 M=.ok (ds.filterMap g) M:=by
 obtain⟨ys,Z,e,h1,R⟩:=Ly (fin:=s.fin) (item:=s.item) (body:=body) (λi U Z=>Z=M/\U=(ds.take i).filterMap g) (n:=ds.length) (λi U Z G hI=>by
  obtain⟨rfl,rfl⟩:=hI;refine⟨ds[i],g ds[i],Z,by rw[hi i G];simp[G],h _ (uc G),rfl,?_⟩;rw[m5,List.filterMap_append];simp[G];cases e:g ds[i]<;>simp[e]) (λU Z h=>by rw[h.1];exact Vj) ds.length 0 [] M (sy _) ⟨rfl,rfl⟩
 rw[hl,e,h1];simp at R;rw[R]
def alq(h:∀d∈ds,body d M=.ok (some (g d)) M) :
 Cg (Src.con ds).fin (Src.con ds).item body (Src.con ds).len 0 M=.ok (ds.map g) M:=by
 rw[Yd (s:=.con ds) (ds:=ds) (g:=λd=>some (g d)) rfl rfl (λi _=>rfl) h,List.filterMap_eq_map']
end MW
namespace MW
theorem Ec{c:Env->dj->Res D}{body:Env->dj->Res (Flow×Env)}(I:Nat->Env->dj->Prop)(R:Env->dj->Prop)
 (step:∀m Z M,I m Z M->(∃U,c Z M=.ok (.bl false) U/\R Z U) \/
  ∃U fl G M2 m',c Z M=.ok (.bl true) U/\body Z U=.ok (fl,G) M2/\(fl=.next\/fl=.cont)/\m'<m/\I m' G M2) :
 ∀(k m:Nat)(Z:Env)(M:dj),m<k->I m Z M->∃G M',Ej c body k Z M=.ok (.next,G) M'/\R G M'
 |0,m,_,_,h,_=>absurd h (qj _)
 |k+1,m,Z,M,h,hI=>by
  rcases step m Z M hI with⟨U,h1,h2⟩|⟨U,fl,qk,M2,m',h1,h2,h3,h4,h5⟩
  .exact⟨Z,U,by simp[Ej,h1],h2⟩
  .obtain⟨qq,M3,g1,g2⟩:=Ec I R step k m' qk M2 (b_ h4 (z_ h)) h5
   refine⟨qq,M3,?_,g2⟩;rcases h3 with rfl|rfl<;>simp[Ej,h1,h2,g1]
end MW
namespace MW
def j8(M Z:dj):Prop:=∀(a:Nat)(o:MO),M[a]?=some o->Z[a]?=some o
def j8.refl(M:dj):j8 M M:=λ_ _ h=>h
def j8.trans(a:j8 M Z)(b:j8 Z M2):j8 M M2:=λx o h=>b x o (a x o h)
def j8.app(M X:dj):j8 M (M++X):=λ_ _ h=>Ba h
def j8.len(k:j8 M Z):M.length<=Z.length:=by
 rcases Nat.eq_zero_or_pos M.length with h|h
 .exact a_ (f_ h) (ik _)
 .have:=tu (k (M.length-1) M[M.length-1] (by simp))
  lia
theorem j8.fj(k:j8 M Z)(h:fj M d=some ds):MW.fj Z d=some ds:=by
 cases d with
 |vl G=>exact h
 |ref n =>
  simp only[MW.fj] at h ⊢;cases e:M[n]? with
  |none=>rw[e] at h;simp at h|some o=>rw[e] at h;rw[k n o e];exact h
 |_=>simp[MW.fj] at h
def aee(I:Nat->Env->dj->Prop)(U:fj M d=some ds)(h0:I 0 G M)(stay:∀i G M,I i G M->fj M d=some ds)(step:∀i x G M,ds[i]?=some x->I i G M->∃R Z M',body x G M=.ok (R,Z) M'/\(R=.next\/R=.cont)/\I (i+1) Z M') :
 ∃s,srcOf M d=some s/\∃Z M',Br s.fin s.item body s.len 0 G M=.ok (.next,Z) M'/\I ds.length Z M':=by
 cases d with
 |vl xs=>simp[fj] at U;subst U;exact⟨_,rfl,Uo I h0 step⟩
 |ref n =>
  cases e:M[n]? with
  |none=>simp[fj,e] at U
  |some o =>
   cases o with
   |lst xs =>
    simp[fj,e] at U;subst U;refine⟨.live n xs.length,by simp[srcOf,e],alp I h0 (λi G M h=>?_) step⟩;have:=stay i G M h;simp only[fj] at this;split at this<;>simp_all
   |_=>simp[fj,e] at U
 |_=>simp[fj] at U
def af7(Z:ds.length<=100000)(h:∀d∈ds,body d M=.ok (some (g d)) M):Az (.con ds) body M=.ok (ds.map g) M:=by rw[Az,cg (show(Src.con ds).len<=100000 from Z)];exact alq h
def abk(Z:ds.length<=100000)(h:∀d∈ds,body d M=.ok (g d) M):Az (.con ds) body M=.ok (ds.filterMap g) M:=by rw[Az,cg (show(Src.con ds).len<=100000 from Z)];exact Yd (s:=.con ds) rfl rfl (λ_ _=>rfl) h
def Jk(v:Bool)(k:Nat)(t:Tg)(it:Ox)(e:Ex):(Ex.comp v k t it e).den W Z M=(it.den W Z M).bind λs U =>
 (Az s (λd M=>(Res.q8 (t.put d (Z++List.replicate k none)) M).bind λG M=>(e.den W G M).bind λx M'=>.ok (some x) M') U).bind λR M2=>if v then .ok (.vl R) M2 else new (.lst R) M2:=by
 rw[abi]
 congr 1;funext s U;congr 2;funext d M
 cases t.put d (Z++List.replicate k none)<;>rfl
def Lz(v:Bool)(k:Nat)(t:Tg)(it:Ox)(c e:Ex):(Ex.Av v k t it c e).den W U M=(it.den W U M).bind λs R =>
 (Az s (λd M=>(Res.q8 (t.put d (U++List.replicate k none)) M).bind λZ M=>(c.den W Z M).bind λb M' =>
  match b with
   |.bl true=>(e.den W Z M').bind λx G=>.ok (some x) G
   | .bl false=>.ok none M'|_=>.bad) R).bind λds M2=>if v then .ok (.vl ds) M2 else new (.lst ds) M2:=by
 rw[Vg]
 congr 1;funext s R;congr 2;funext d M
 cases t.put d (U++List.replicate k none)<;>rfl
def Qd(t:Tg)(it:Ox)(b:mj):(Al.for_ t it b).den W Z M=(it.den W Z M).bind λs M1=>Br s.fin s.item (λd Z M=>(Res.q8 (t.put d Z) M).bind λG M=>b.den W G M) s.len 0 Z M1:=by
 rw[Vh]
 congr 1;funext s M1;congr 1;funext d Z M
 cases t.put d Z<;>rfl
def Bh(qq:it.den W ρ M=.ok (.int (n:Int)) M1)(hn:n<=100000)(I:Nat->Env->dj->Prop)(h0:I 0 ρ M1)(step:∀i ρ M,i<n->I i ρ M->∃G U Z M',t.put (.int i) ρ=some G/\b.den W G M=.ok (U,Z) M'/\(U=.next\/U=.cont)/\I (i+1) Z M') :
 ∃Z M',(Al.for_ t (.Pu it) b).den W ρ M=.ok (.next,Z) M'/\I n Z M':=by
 rw[Qd,Ul,qq];have R:((n:Int)).natAbs<=100000:=by lia
 simp only[Res.yd,R,km,jk];exact ars I h0 (λi ρ M hi h=>by
  obtain⟨G,U,Z,M',a,b,c,d⟩:=step i ρ M hi h;exact⟨U,Z,M',by rw[a];exact b,c,d⟩)
def zy(R:it.den W ρ M=.ok d M1)(hd:fj M1 d=some ds)(I:Nat->Env->dj->Prop)(h0:I 0 ρ M1)(stay:∀i ρ M,I i ρ M->fj M d=some ds)(step:∀i x ρ M,ds[i]?=some x->I i ρ M->∃G U Z M',t.put x ρ=some G/\b.den W G M=.ok (U,Z) M'/\(U=.next\/U=.cont)/\I (i+1) Z M') :
 ∃Z M',(Al.for_ t (.val it) b).den W ρ M=.ok (.next,Z) M'/\I ds.length Z M':=by
 rw[Qd,G6,R];obtain⟨s,h1,h2⟩:=aee (body:=λd ρ M=>(Res.q8 (t.put d ρ) M).bind λZ M=>b.den W Z M) I hd h0 stay (λi x ρ M hx h=>by
  obtain⟨G,U,Z,M',a,b,c,d⟩:=step i x ρ M hx h;exact⟨U,Z,M',by rw[a];exact b,c,d⟩)
 simp only[Res.yd,h1,Res.ye];exact h2
def Ij(R:it.den W ρ M=.ok (.tup ds) M1)(I:Nat->Env->dj->Prop)(h0:I 0 ρ M1)(step:∀i x ρ M,ds[i]?=some x->I i ρ M->∃G U Z M',t.put x ρ=some G/\b.den W G M=.ok (U,Z) M'/\(U=.next\/U=.cont)/\I (i+1) Z M') :
 ∃Z M',(Al.for_ t (.val it) b).den W ρ M=.ok (.next,Z) M'/\I ds.length Z M':=by
 rw[Qd,G6,R];exact Uo I h0 (λi x ρ M hx h=>by
  obtain⟨G,U,Z,M',a,b,c,d⟩:=step i x ρ M hx h;exact⟨U,Z,M',by rw[a];exact b,c,d⟩)
def Ma(qk:it.den W ρ M=.ok (.tup ds) M1)(I:Nat->Env->dj->Prop)(h0:I 0 ρ M1)(step:∀i x ρ M,ds[i]?=some x->I i ρ M->∃G U Z M',t.put (.tup [.int i,x]) ρ=some G/\b.den W G M=.ok (U,Z) M'/\(U=.next\/U=.cont)/\I (i+1) Z M') :
 ∃Z M',(Al.for_ t (.enm it) b).den W ρ M=.ok (.next,Z) M'/\I ds.length Z M':=by
 rw[Qd,Zm,qk];have:=Uo (ds:=By ds 0) (body:=λd ρ M=>(Res.q8 (t.put d ρ) M).bind λZ M=>b.den W Z M) I h0 (λi x ρ M hx h=>by
  have R:i<ds.length:=by have:=(ak.mp hx).1;simpa[By] using this
  have qq:x=.tup [.int i,ds[i]]:=by simp[By,R] at hx;exact hx.symm
  subst qq;obtain⟨G,U,Z,M',a,b,c,d⟩:=step i ds[i] ρ M (by simp[R]) h;exact⟨U,Z,M',by rw[a];exact b,c,d⟩)
 have e:(By ds 0).length=ds.length:=by simp[By]
 rw[e] at this;exact this
def Mf(U:it.den W R M=.ok (.int (n:Int)) M1)(hl:n<=100000)(h:∀i,i<n->∃Z,t.put (.int i) (R++List.replicate k none)=some Z/\c.den W Z M1=.ok (.bl (q i)) M1/\(q i=true->e.den W Z M1=.ok (g i) M1)) :
 (Ex.Av v k t (.Pu it) c e).den W R M=if v then .ok (.vl (((List.range n).filter q).map g)) M1 else new (.lst (((List.range n).filter q).map g)) M1:=by
 rw[Lz,Ul,U];have G:((n:Int)).natAbs<=100000:=by lia
 simp only[Res.yd,G,km,jk];rw[abk (ds:=(List.range n).map λ(k:Nat)=>D.int (k:Int)) (g:=λd=>match d with|.int i=>if q i.toNat then some (g i.toNat) else none|_=>none) (by simpa using hl) (λx hx=>by
  obtain⟨i,hi,rfl⟩:=di.mp hx;obtain⟨Z,a,b,c⟩:=h i (ji.mp hi);rw[a,Res.ye,Res.yd,b,Res.yd];cases e:q i with
  | true=>simp[e,c e]|false=>simp[e])]
 have:(((List.range n).map λ(k:Nat)=>D.int (k:Int)).filterMap λd=>match d with|.int i=>if q i.toNat then some (g i.toNat) else none|_=>none)=((List.range n).filter q).map g:=by
  rw[List.filterMap_map]
  induction List.range n with
  |nil=>rfl|cons a l ih=>by_cases e:q a=true<;>simp[e,ih]
 rw[this];rfl
def Mg(R:it.den W ρ M=.ok (.tup ds) M1)(hl:ds.length<=100000)(h:∀(i:Nat) (x:D),ds[i]?=some x->∃Z,t.put (.tup [.int i,x]) (ρ++List.replicate k none)=some Z/\c.den W Z M1=.ok (.bl (q i)) M1/\(q i=true->e.den W Z M1=.ok (g i) M1)) :
 (Ex.Av v k t (.enm it) c e).den W ρ M=if v then .ok (.vl (((List.range ds.length).filter q).map g)) M1 else new (.lst (((List.range ds.length).filter q).map g)) M1:=by
 rw[Lz,Zm,R];simp only[Res.yd,arq];rw[abk (ds:=By ds 0) (g:=λd=>match d with|.tup [.int i,_]=>if q i.toNat then some (g i.toNat) else none|_=>none) (by simpa[By] using hl) (λx hx=>by
  obtain⟨i,hi,ei⟩:=xq hx;have qq:i<ds.length:=by simpa[By] using hi
  have U:x=.tup [.int i,ds[i]]:=by rw[<- ei];simp[By]
  subst U;obtain⟨Z,a,b,c⟩:=h i ds[i] (by simp[qq]);rw[a,Res.ye,Res.yd,b,Res.yd];cases e:q i with
  | true=>simp[e,c e]|false=>simp[e])]
 have:((By ds 0).filterMap λd=>match d with|.tup [.int i,_]=>if q i.toNat then some (g i.toNat) else none|_=>none)=((List.range ds.length).filter q).map g:=by
  have G:∀(l:List D)(s:Nat),((By l s).filterMap λd=>match d with|.tup [.int i,_]=>if q i.toNat then some (g i.toNat) else none|_=>none)=((List.range' s l.length).filter q).map g:=by
   intro l
   induction l with
   |nil=>intro s;rfl
   |cons a l ih =>
    intro s;have e1:By (a::l) s=.tup [.int s,a]::By l (s+1):=by simp[By]
    rw[e1,gj,zj]
    by_cases e:q s=true<;>simp[e,ih]
  rw[G,List.range_eq_range']
 rw[this];rfl
def Jx(qq:it.den W ρ M=.ok (.int (n:Int)) M1)(hn:n<=100000)(I:Nat->List D->dj->Prop)(h0:I 0 [] M1)(step:∀i U M,i<n->I i U M->∃Z x M',t.put (.int i) (ρ++List.replicate k none)=some Z/\e.den W Z M=.ok x M'/\I (i+1) (U++[x]) M') :
 ∃G M',(Ex.comp v k t (.Pu it) e).den W ρ M=(if v then .ok (.vl G) M' else new (.lst G) M')/\I n G M':=by
 rw[Jk,Ul,qq];have R:((n:Int)).natAbs<=100000:=by lia
 simp only[Res.yd,R,km,jk];obtain⟨G,M',g,h⟩:=Ly (fin:=(Src.con ((List.range n).map λ(k:Nat)=>D.int (k:Int))).fin) (item:=(Src.con ((List.range n).map λ(k:Nat)=>D.int (k:Int))).item) (body:=λd M=>(Res.q8 (t.put d (ρ++List.replicate k none)) M).bind λqk M=>(e.den W qk M).bind λx M'=>.ok (some x) M') I (n:=n) (λi U M hi h=>by
  obtain⟨Z,x,M',a,b,c⟩:=step i U M hi h;exact⟨.int i,some x,M',by simp[Src.item,hi],by rw[a];simp[b],by simpa using c⟩) (λ_ _ _=>rfl) n 0 [] M1 (sy _) h0
 have hl:(Src.con ((List.range n).map λ(k:Nat)=>D.int (k:Int))).len=n:=by simp[Src.len]
 refine⟨G,M',?_,by simpa using h⟩;rw[Az,hl,cg hn,g];rfl
abbrev Goes(I:Nat->Env->dj->Prop)(R:D->dj->Prop)(i:Nat)(r:Res (Flow×Env)):Prop:=∃fl ρ' M',r=.ok (fl,ρ') M'/\((fl=.next/\I i ρ' M')\/∃v,fl=.ret v/\R v M')
theorem af8{fin:dj->Bool}{item:Nat->dj->Option D}{G:D->Env->dj->Res (Flow×Env)}(I:Nat->Env->dj->Prop)(R:D->dj->Prop){n:Nat}
 (step:∀i Z M,i<n->I i Z M->∃d,item i M=some d/\Goes I R (i+1) (G d Z M)) (hf:∀Z M,I n Z M->fin M=true) :
 ∀k i Z M,i+k=n->I i Z M->Goes I R n (Br fin item G k i Z M)
 |0,i,Z,M,e,h=>by
  obtain rfl:i=n:=by lia
  exact⟨_,Z,M,by simp[Br,hf Z M h],.inl ⟨rfl,h⟩⟩
 |k+1,i,Z,M,e,h=>by
  obtain⟨d,h1,fl,U,M',h2,⟨rfl,h4⟩|⟨v,rfl,h4⟩⟩:=step i Z M (by lia) h
  .have:=af8 I R step hf k (i+1) U M' (by lia) h4
   simpa[Br,h1,h2] using this
  .exact⟨.ret v,U,M',by simp[Br,h1,h2],.inr ⟨v,rfl,h4⟩⟩
section
variable{W:Lp}{ρ:Env}{M M1:dj}{t:Tg}{b:mj}
def af9{it:Ox}{s:Src}{n:Nat}(G:it.den W ρ M=.ok s M1)(U:s.len=n)(I:Nat->Env->dj->Prop)(R:D->dj->Prop)(h0:I 0 ρ M1)(hf:∀ρ M,I n ρ M->s.fin M=true)
 (step:∀i ρ M,i<n->I i ρ M->∃d Z,s.item i M=some d/\t.put d ρ=some Z/\Goes I R (i+1) (b.den W Z M)):Goes I R n ((Al.for_ t it b).den W ρ M):=by
 rw[Qd,G,Res.yd,U];exact af8 I R (λi ρ M hi h=>by
  obtain⟨d,Z,a,b,c⟩:=step i ρ M hi h;exact⟨d,a,by rw[b];exact c⟩) hf n 0 ρ M1 (sy n) h0
def axy{it:Ox}{s:Src}{n:Nat}(U:it.den W ρ M=.ok s M1)(R:s.len=n)(I:Nat->Env->dj->Prop)(h0:I 0 ρ M1)(hf:∀ρ M,I n ρ M->s.fin M=true)
 (step:∀i ρ M,i<n->I i ρ M->∃d G,s.item i M=some d/\t.put d ρ=some G/\∃Z M',b.den W G M=.ok (.next,Z) M'/\I (i+1) Z M'):∃Z M',(Al.for_ t it b).den W ρ M=.ok (.next,Z) M'/\I n Z M':=by
 obtain⟨fl,Z,M',e,⟨rfl,h⟩|⟨v,rfl,h⟩⟩:=af9 U R I (λ_ _=>False) h0 hf λi ρ M hi h=>by obtain⟨d,G,a,b,Z,M',c,e⟩:=step i ρ M hi h;exact⟨d,G,a,b,.next,Z,M',c,.inl ⟨rfl,e⟩⟩
 .exact⟨Z,M',e,h⟩
 .exact h.elim
end
end MW
namespace K71
open MW
noncomputable section
def Hh:mj:=.p (.f (.cmp .lt (.v 1) (.l (.v 0))) (.o (.ret (.ix (.v 0) (.v 1))))) (.ret (.i 0))
def Hi:Fn:=⟨2,2,Hh⟩
def Jy:mj:=.q (.a 2 (.call 0 (.p (.v 0) (.v 1)))) (.f (.cmp .ge (.v 2) (.bin .pow (.i 10) (.i 18))) (.o (.ret (.lst (.p (.bin .sub (.v 2) (.bin .pow (.i 10) (.i 18))) (.cst (.bl true))))))) (.ret (.lst (.p (.bin .mod (.v 2) (.i 2147483647)) (.cst (.bl false)))))
def Jz:Fn:=⟨2,3,Jy⟩
def Mh:mj:=.c (.f (.ix (.v 0) (.i 1)) (.q (.a 2 (.bin .mod (.ix (.v 0) (.i 0)) (.v 1))) (.asg (.sub (.v 0) (.i 0)) (.bin .fdiv (.ix (.v 0) (.i 0)) (.v 1))) (.ret (.v 2)))) (.c (.asg (.sub (.v 0) (.i 0)) (.bin .mod (.bin .add (.bin .mul (.ix (.v 0) (.i 0)) (.i 48271)) (.i 29)) (.i 2147483647))) (.q (.a 3 (.bin .mod (.bin .add (.bin .add (.bin .mul (.ix (.v 0) (.i 0)) (.ix (.v 0) (.i 0))) (.bin .mul (.i 39373) (.ix (.v 0) (.i 0)))) (.i 7)) (.i 2147483629))) (.a 3 (.bin .mod (.bin .add (.bin .mul (.v 3) (.v 3)) (.bin .mul (.i 16807) (.v 3))) (.i 2147483587))) (.ret (.bin .mod (.bin .fdiv (.v 3) (.i 8)) (.v 1)))))
def Mi:Fn:=⟨2,4,Mh⟩
def Ah:mj:=.c (.a 1 (.ix (.v 0) (.i 0))) (.c (.exq 4 (.o (.v 1))) (.q (.exq 6 (.p (.v 1) (.ix (.v 0) (.i 1)))) (.f (.not (.call 12 (.q (.v 1) (.ix (.ix (.v 0) (.i 2)) (.i 0)) (.ix (.ix (.v 0) (.i 2)) (.i 1))))) (.o (.raise 4))) (.f (.cmp .gt (.l (.call 13 (.o (.v 1)))) (.i 60)) (.o (.raise 3)))))
def Ai:Fn:=⟨1,2,Ah⟩
def qx:mj:=.o (.f (.not (.and (.chain .le .le (.i 0) (.v 1) (.i 7)) (.chain .le .le (.i 0) (.v 2) (.i 7)))) (.o (.raise 4)))
def Bd:Al:=.for_ (.names [1,2]) (.val (.v 0)) qx
def Cu:mj:=.q (.f (.not (.chain .le .le (.i 1) (.l (.v 0)) (.i 10))) (.o (.raise 4))) Bd (.f (.call 5 (.o (.v 0))) (.o (.raise 4)))
def Cw:Fn:=⟨1,3,Cu⟩
def Cj:Ex:=.Av true 1 (.name 4) (.val (.v 1)) (.cmp .inn (.ix (.v 4) (.i 0)) (.v 3)) (.v 4)
def Cm:Ex:=.comp true 2 (.names [4,5]) (.val (.v 1)) (.v 5)
def Cq:mj:=.q (.a 2 (.l (.v 1))) (.a 3 Cm) (.a 1 Cj)
def Hj:Al:=.whl (.cmp .ne (.v 2) (.l (.v 1))) Cq
def J0:mj:=.c (.a 1 (.blt .list (.o (.v 0)))) (.q (.a 2 (.neg (.i 1))) Hj (.ret (.cmp .gt (.v 2) (.i 0))))
def Ka:Fn:=⟨1,4,J0⟩
def wk:mj:=.o (.f (.not (.call 7 (.p (.v 0) (.v 2)))) (.o (.raise 4)))
def Bt:Al:=.for_ (.name 2) (.val (.v 1)) wk
def Dm:mj:=.p (.f (.cmp .gt (.l (.v 1)) (.i 8)) (.o (.raise 4))) Bt
def Dn:Fn:=⟨2,3,Dm⟩
def Be:mj:=.p (.f (.cmp .eq (.ix (.v 1) (.i 0)) (.cst (.str (PySem.Str.ofString "same")))) (.o (.ret (.call 12 (.q (.v 0) (.ix (.v 1) (.i 1)) (.ix (.v 1) (.i 2))))))) (.ret (.and (.cmp .eq (.ix (.v 1) (.i 0)) (.cst (.str (PySem.Str.ofString "apart")))) (.call 8 (.p (.v 0) (.ix (.v 1) (.i 1))))))
def Bf:Fn:=⟨2,2,Be⟩
def Kc:mj:=.o (.ret (.chain .le .lt (.i 0) (.v 1) (.l (.v 0))))
def Kd:Fn:=⟨2,2,Kc⟩
def Hk:Ex:=.comp true 2 (.names [2,3]) (.zip (.p (.v 1) (.cut (.v 1) (.some (.i 1)) .none))) (.cmp .eq (.ix (.ix (.v 0) (.v 2)) (.i 1)) (.ix (.ix (.v 0) (.v 3)) (.i 0)))
def Eb:Ex:=.comp true 1 (.name 2) (.val (.v 1)) (.call 8 (.p (.v 0) (.v 2)))
def Mj:mj:=.p (.f (.or (.ntr (.v 1)) (.not (.blt .all (.o Eb)))) (.o (.ret (.cst (.bl false))))) (.ret (.blt .all (.o Hk)))
def Ml:Fn:=⟨2,2,Mj⟩
def Sw:mj:=.o (.ret (.ix (.ix (.v 0) (.ix (.v 1) (.i 0))) (.i 0)))
def Sx:Fn:=⟨2,2,Sw⟩
def Vl:mj:=.o (.ret (.ix (.ix (.v 0) (.ix (.v 1) (.neg (.i 1)))) (.i 1)))
def Vm:Fn:=⟨2,2,Vl⟩
def Bj:mj:=.p (.f (.not (.and (.call 9 (.p (.v 0) (.v 1))) (.call 9 (.p (.v 0) (.v 2))))) (.o (.ret (.cst (.bl false))))) (.ret (.and (.cmp .eq (.call 10 (.p (.v 0) (.v 1))) (.call 10 (.p (.v 0) (.v 2)))) (.cmp .eq (.call 11 (.p (.v 0) (.v 1))) (.call 11 (.p (.v 0) (.v 2))))))
def Bk:Fn:=⟨3,3,Bj⟩
def El:Ex:=.Av true 2 (.names [6,7]) (.enm (.v 0)) (.cmp .eq (.ix (.v 7) (.i 0)) (.v 5)) (.bin .add (.v 4) (.tup (.o (.v 6))))
def Em:mj:=.p (.a 5 (.call 11 (.p (.v 0) (.v 4)))) (.expr (.bm .extend (.v 3) (.o El)))
def Eo:Al:=.for_ (.name 4) (.val (.v 2)) Em
def Bl:mj:=.c (.expr (.bm .extend (.v 1) (.o (.v 2)))) (.q (.a 3 (.lst .z)) Eo (.a 2 (.v 3)))
def G7:Al:=.whl (.tru (.v 2)) Bl
def Bo:Ex:=.comp true 1 (.name 6) (.Pu (.l (.v 0))) (.tup (.o (.v 6)))
def Ke:mj:=.c (.a 1 (.lst .z)) (.q (.a 2 Bo) G7 (.ret (.v 1)))
def Kf:Fn:=⟨1,6,Ke⟩
def Fy:Ex:=.Av true 1 (.name 1) (.val (.v 0)) (.cmp .eq (.ix (.v 1) (.i 0)) (.cst (.str (PySem.Str.ofString "apart")))) (.ix (.v 1) (.i 1))
def Mm:mj:=.o (.ret Fy)
def Mp:Fn:=⟨1,1,Mm⟩
def Ob:mj:=.p (.asg (.fld (.v 0) 1) (.lst .z)) (.asg (.fld (.v 0) 0) .abf)
def Oc:Fn:=⟨1,1,Ob⟩
def Sy:mj:=.o (.ret (.bm .get (.fld (.v 0) 0) (.p (.v 1) (.v 1))))
def S8:Fn:=⟨2,2,Sy⟩
def K6:mj:=.o (.ret (.cmp .eq (.meth (.v 0) 0 (.o (.v 1))) (.meth (.v 0) 0 (.o (.v 2)))))
def K7:Fn:=⟨3,3,K6⟩
def Gj:mj:=.o (.f (.cmp .eq (.ix (.fld (.v 0) 0) (.v 4)) (.v 3)) (.o (.asg (.sub (.fld (.v 0) 0) (.v 4)) (.v 2))))
def Ja:Al:=.for_ (.name 4) (.val (.blt .list (.o (.fld (.v 0) 0)))) Gj
def Tc:mj:=.c (.expr (.bm .append (.fld (.v 0) 1) (.o (.v 1)))) (.c (.a 2 (.meth (.v 0) 0 (.o (.ix (.v 1) (.i 0))))) (.c (.a 3 (.meth (.v 0) 0 (.o (.ix (.v 1) (.i 1))))) (.q (.asg (.sub (.fld (.v 0) 0) (.ix (.v 1) (.i 0))) (.v 2)) (.asg (.sub (.fld (.v 0) 0) (.ix (.v 1) (.i 1))) (.v 3)) Ja)))
def Td:Fn:=⟨2,5,Tc⟩
def Kg:mj:=.o (.f (.not (.meth (.v 0) 1 (.p (.v 1) (.v 2)))) (.o (.expr (.meth (.v 0) 2 (.o (.tup (.q (.v 1) (.v 2) (.v 3))))))))
def Kh:Fn:=⟨4,4,Kg⟩
def Kl:mj:=.q (.a 4 (.l (.fld (.v 1) 1))) (.expr (.call 21 (.p (.v 1) (.ix (.v 0) (.i 0))))) (.expr (.call 22 (.q (.v 1) (.ix (.v 0) (.i 0)) (.call 14 (.o (.ix (.v 0) (.i 1)))))))
def Qe:Al:=.whl (.cmp .ne (.v 4) (.l (.fld (.v 1) 1))) Kl
def Cy:mj:=.o (.f (.cmp .eq (.ix (.v 3) (.i 0)) (.cst (.str (PySem.Str.ofString "same")))) (.o (.expr (.meth (.v 1) 3 (.q (.ix (.v 3) (.i 1)) (.ix (.v 3) (.i 2)) (.tup (.p (.cst (.str (PySem.Str.ofString "given"))) (.v 2))))))))
def Km:Al:=.for_ (.names [2,3]) (.enm (.ix (.v 0) (.i 1))) Cy
def Vn:mj:=.c (.a 1 (.make 5)) (.c Km (.q (.a 4 (.neg (.i 1))) Qe (.ret (.v 1))))
def Vo:Fn:=⟨1,5,Vn⟩
def Ep:mj:=.p (.f (.cmp .eq (.ix (.v 6) (.i 1)) (.call 10 (.p (.v 1) (.v 2)))) (.o (.expr (.meth (.v 0) 3 (.q (.bin .add (.tup (.o (.v 5))) (.v 2)) (.bin .add (.tup (.o (.v 5))) (.v 3)) (.tup (.q (.cst (.str (PySem.Str.ofString "put"))) (.tup (.o (.v 5))) (.tup .z)))))))) (.f (.cmp .eq (.ix (.v 6) (.i 0)) (.call 11 (.p (.v 1) (.v 2)))) (.o (.expr (.meth (.v 0) 3 (.q (.bin .add (.v 2) (.tup (.o (.v 5)))) (.bin .add (.v 3) (.tup (.o (.v 5)))) (.tup (.q (.cst (.str (PySem.Str.ofString "put"))) (.tup .z) (.tup (.o (.v 5))))))))))
def Hl:Al:=.for_ (.names [5,6]) (.enm (.v 1)) Ep
def Er:mj:=.o Hl
def Mq:Al:=.for_ (.names [2,3,4]) (.val (.blt .list (.o (.fld (.v 0) 1)))) Er
def Qf:mj:=.o Mq
def Qg:Fn:=⟨2,7,Qf⟩
def Cz:mj:=.o (.f (.cmp .eq (.call 11 (.p (.v 1) (.v 5))) (.ix (.ix (.v 1) (.v 3)) (.i 0))) (.p (.a 6 (.bm .setdefault (.v 4) (.p (.meth (.v 0) 0 (.o (.bin .add (.v 5) (.tup (.o (.v 3)))))) (.v 5)))) (.expr (.meth (.v 0) 3 (.q (.v 6) (.v 5) (.tup (.p (.cst (.str (PySem.Str.ofString "off"))) (.v 3))))))))
def Ko:Al:=.for_ (.name 5) (.val (.call 13 (.o (.v 1)))) Cz
def G8:mj:=.p (.a 4 .abf) Ko
def Qh:Al:=.for_ (.name 3) (.val (.v 2)) G8
def Vp:mj:=.o Qh
def Vq:Fn:=⟨3,7,Vp⟩
def Vr:mj:=.c (.exq 3 (.o (.v 0))) (.q (.a 1 (.call 20 (.o (.v 0)))) (.f (.meth (.v 1) 1 (.p (.ix (.ix (.v 0) (.i 2)) (.i 0)) (.ix (.ix (.v 0) (.i 2)) (.i 1)))) (.o (.ret (.tup (.p (.cst (.str (PySem.Str.ofString "holds"))) (.blt .tuple (.o (.fld (.v 1) 1)))))))) (.ret (.call 24 (.q (.ix (.v 0) (.i 0)) (.v 1) (.call 10 (.p (.ix (.v 0) (.i 0)) (.ix (.ix (.v 0) (.i 2)) (.i 0))))))))
def Vs:Fn:=⟨1,2,Vr⟩
def Es:Ex:=.comp true 1 (.name 10) (.val (.v 3)) (.l (.v 10))
def Et:Ex:=.comp true 1 (.name 10) (.val (.ix (.v 3) (.ix (.v 8) (.i 0)))) (.bm .index (.v 9) (.o (.meth (.v 1) 0 (.o (.bin .add (.v 10) (.tup (.o (.v 7))))))))
def Ca:mj:=.p (.a 9 (.ix (.v 3) (.ix (.v 8) (.i 1)))) (.expr (.bm .append (.v 6) (.o (.blt .tuple (.o Et)))))
def Eu:Al:=.for_ (.names [7,8]) (.enm (.v 0)) Ca
def vq:mj:=.p (.a 5 (.ix (.v 3) (.call 11 (.p (.v 0) (.v 4))))) (.f (.and (.cmp .eq (.call 10 (.p (.v 0) (.v 4))) (.v 2)) (.cmp .Xz (.meth (.v 1) 0 (.o (.v 4))) (.v 5))) (.o (.expr (.bm .append (.v 5) (.o (.meth (.v 1) 0 (.o (.v 4))))))))
def Ew:Al:=.for_ (.name 4) (.val (.call 13 (.o (.v 0)))) vq
def Ey:Ex:=.comp true 1 (.name 10) (.Pu (.call 25 (.o (.v 0)))) (.lst .z)
def K8:mj:=.c (.a 3 Ey) (.c (.expr (.bm .append (.ix (.v 3) (.v 2)) (.o (.tup .z)))) (.c Ew (.q (.a 6 (.lst .z)) Eu (.ret (.tup (.q (.cst (.str (PySem.Str.ofString "breaks"))) (.blt .tuple (.o Es)) (.blt .tuple (.o (.v 6)))))))))
def K9:Fn:=⟨3,10,K8⟩
def Od:Ex:=.comp true 1 (.name 1) (.val (.v 0)) (.blt .max (.o (.v 1)))
def Te:mj:=.o (.ret (.bin .add (.blt .max (.o Od)) (.i 1)))
def Tf:Fn:=⟨1,1,Te⟩
def abl:mj:=.o .stub
def Th:Al:=.for_ (.name 3) (.val (.v 1)) abl
def Rq:mj:=.c (.exq 3 (.o (.v 0))) (.q (.a 2 (.make 5)) Th (.ret (.meth (.v 2) 1 (.p (.ix (.ix (.v 0) (.i 2)) (.i 0)) (.ix (.ix (.v 0) (.i 2)) (.i 1))))))
def Rr:Fn:=⟨2,4,Rq⟩
def O1:Ex:=.comp true 1 (.name 4) (.val (.ix (.v 0) (.i 1))) (.call 29 (.c (.ix (.v 0) (.i 0)) (.q (.v 1) (.v 2) (.v 4))))
def Vt:mj:=.c (.exq 3 (.o (.v 0))) (.c (.f (.not (.call 28 (.q (.ix (.v 0) (.i 0)) (.v 1) (.v 2)))) (.o (.ret (.cst (.bl false))))) (.q (.a 3 (.ix (.v 1) (.call 10 (.p (.ix (.v 0) (.i 0)) (.ix (.ix (.v 0) (.i 2)) (.i 0)))))) (.f (.call 30 (.c (.v 2) (.q (.v 3) (.ix (.ix (.v 0) (.i 2)) (.i 0)) (.ix (.ix (.v 0) (.i 2)) (.i 1))))) (.o (.ret (.cst (.bl false))))) (.ret (.blt .all (.o O1)))))
def Vu:Fn:=⟨3,4,Vt⟩
def Kp:Ex:=.comp true 1 (.name 5) (.val (.v 3)) (.chain .le .lt (.i 0) (.v 5) (.ix (.v 1) (.ix (.v 4) (.i 1))))
def Qi:mj:=.p (.f (.cmp .ne (.l (.v 3)) (.ix (.v 1) (.ix (.v 4) (.i 0)))) (.o (.ret (.cst (.bl false))))) (.f (.not (.blt .all (.o Kp))) (.o (.ret (.cst (.bl false)))))
def Kq:Al:=.for_ (.names [3,4]) (.zip (.p (.v 2) (.v 0))) Qi
def Kr:Ex:=.comp true 1 (.name 5) (.val (.v 1)) (.cmp .ge (.v 5) (.i 0))
def Vv:mj:=.c (.f (.or (.cmp .ne (.l (.v 1)) (.call 25 (.o (.v 0)))) (.cmp .ne (.l (.v 2)) (.l (.v 0)))) (.o (.ret (.cst (.bl false))))) (.q (.f (.not (.blt .all (.o Kr))) (.o (.ret (.cst (.bl false))))) Kq (.ret (.cst (.bl true))))
def Vw:Fn:=⟨3,5,Vv⟩
def aga:mj:=.p (.f (.cmp .eq (.ix (.v 3) (.i 0)) (.cst (.str (PySem.Str.ofString "apart")))) (.p (.a 4 (.ix (.v 2) (.ix (.v 3) (.i 1)))) (.ret (.cmp .eq (.blt .Js (.o (.v 4))) (.l (.v 4)))))) (.ret (.call 30 (.c (.v 2) (.q (.ix (.v 1) (.call 10 (.p (.v 0) (.ix (.v 3) (.i 1))))) (.ix (.v 3) (.i 1)) (.ix (.v 3) (.i 2))))))
def agb:Fn:=⟨4,5,aga⟩
def Ks:Ex:=.comp true 1 (.name 4) (.Pu (.v 1)) (.cmp .eq (.call 31 (.q (.v 0) (.v 2) (.v 4))) (.call 31 (.q (.v 0) (.v 3) (.v 4))))
def Vx:mj:=.o (.ret (.blt .all (.o Ks)))
def Vy:Fn:=⟨4,4,Vx⟩
def Jb:mj:=.o (.a 3 (.ix (.ix (.v 0) (.v 4)) (.v 3)))
def Oe:Al:=.for_ (.name 4) (.val (.v 1)) Jb
def Ti:mj:=.q (.a 3 (.v 2)) Oe (.ret (.v 3))
def Tj:Fn:=⟨3,5,Ti⟩
def Ez:Ex:=.Av true 1 (.name 4) (.Pu (.l (.v 0))) (.cmp .eq (.ix (.ix (.v 0) (.v 4)) (.i 0)) (.v 3)) (.bin .add (.ix (.v 1) (.v 2)) (.tup (.o (.v 4))))
def Fb:mj:=.q (.a 3 (.ix (.ix (.v 0) (.ix (.ix (.v 1) (.v 2)) (.neg (.i 1)))) (.i 1))) (.expr (.bm .extend (.v 1) (.o Ez))) (.a 2 (.bin .add (.v 2) (.i 1)))
def Ik:Al:=.whl (.cmp .lt (.v 2) (.l (.v 1))) Fb
def Fd:Ex:=.comp false 1 (.name 4) (.Pu (.l (.v 0))) (.tup (.o (.v 4)))
def La:mj:=.c (.a 1 Fd) (.q (.a 2 (.i 0)) Ik (.ret (.v 1)))
def Lb:Fn:=⟨1,4,La⟩
def Df:Ex:=.comp true 1 (.name 6) (.val (.v 4)) (.tup (.p (.v 5) (.v 6)))
def Bb:mj:=.o (.expr (.bm .extend (.v 3) (.o Df)))
def Dg:Al:=.for_ (.name 5) (.val (.v 4)) Bb
def Dh:mj:=.o Dg
def Di:Al:=.for_ (.name 4) (.vals (.v 1)) Dh
def Gz:mj:=.o (.expr (.bm .append (.bm .setdefault (.v 1) (.p (.tup (.p (.ix (.ix (.v 0) (.ix (.v 2) (.i 0))) (.i 0)) (.ix (.ix (.v 0) (.ix (.v 2) (.neg (.i 1)))) (.i 1)))) (.lst .z))) (.o (.v 2))))
def Dj:Al:=.for_ (.name 2) (.val (.call 32 (.o (.v 0)))) Gz
def Il:mj:=.c (.a 1 .abf) (.c Dj (.q (.a 3 (.lst .z)) Di (.ret (.v 3))))
def Im:Fn:=⟨1,6,Il⟩
def Bu:Ex:=.Av true 1 (.name 9) (.val (.v 5)) (.cmp .ne (.ix (.v 9) (.i 0)) (.ix (.v 9) (.i 1))) (.v 9)
def Dt:mj:=.o (.expr (.bm .append (.v 6) (.o (.bin .add (.tup (.o (.cst (.str (PySem.Str.ofString "same"))))) (.ix (.v 5) (.call 2 (.p (.v 0) (.l (.v 5)))))))))
def Du:Al:=.for_ (.name 2) (.Pu (.call 2 (.p (.v 0) (.i 4)))) Dt
def Dw:Ex:=.comp false 1 (.name 9) (.Pu (.call 2 (.p (.v 0) (.i 4)))) (.tup (.p (.cst (.str (PySem.Str.ofString "apart"))) (.call 2 (.p (.v 0) (.l (.v 1))))))
def Dy:mj:=.p (.a 3 (.call 2 (.p (.v 0) (.i 4)))) (.expr (.bm .append (.v 1) (.o (.tup (.p (.v 3) (.bin .add (.bin .add (.v 3) (.i 1)) (.call 2 (.p (.v 0) (.ix (.Bg (.c (.i 1) (.q (.i 1) (.i 2) (.i 3)))) (.call 2 (.p (.v 0) (.i 4))))))))))))
def Dz:Al:=.for_ (.name 2) (.Pu (.bin .add (.i 1) (.call 2 (.p (.v 0) (.i 6))))) Dy
def Og:mj:=.c (.a 1 (.lst .z)) (.c Dz (.c (.a 4 (.Bg (.q (.tup (.q (.tup (.p (.i 0) (.i 1))) (.tup (.p (.i 0) (.i 1))) (.tup (.p (.i 1) (.i 2))))) (.tup (.c (.tup (.p (.i 0) (.i 1))) (.q (.tup (.p (.i 1) (.i 2))) (.tup (.p (.i 0) (.i 2))) (.tup (.p (.i 2) (.i 3)))))) (.tup (.c (.tup (.p (.i 0) (.i 1))) (.c (.tup (.p (.i 0) (.i 2))) (.q (.tup (.p (.i 1) (.i 3))) (.tup (.p (.i 2) (.i 3))) (.tup (.p (.i 3) (.i 4)))))))))) (.c (.a 4 (.bin .add (.v 4) (.Bg (.p (.tup (.c (.tup (.p (.i 0) (.i 1))) (.c (.tup (.p (.i 1) (.i 2))) (.c (.tup (.p (.i 0) (.i 3))) (.c (.tup (.p (.i 3) (.i 4))) (.q (.tup (.p (.i 1) (.i 4))) (.tup (.p (.i 2) (.i 5))) (.tup (.p (.i 4) (.i 5))))))))) (.tup (.c (.tup (.p (.i 3) (.i 1))) (.c (.tup (.p (.i 3) (.i 1))) (.q (.tup (.p (.i 1) (.i 0))) (.tup (.p (.i 1) (.i 0))) (.tup (.p (.i 0) (.i 2))))))))))) (.c (.f (.cmp .gt (.call 2 (.p (.v 0) (.i 3))) (.i 0)) (.o (.a 1 (.ix (.v 4) (.call 2 (.p (.v 0) (.i 5))))))) (.c (.a 5 (.call 33 (.o (.v 1)))) (.c (.a 6 Dw) (.c Du (.c (.a 7 (.call 2 (.p (.v 0) (.bin .add (.i 1) (.l (.v 6)))))) (.q (.a 8 Bu) (.f (.or (.cmp .eq (.v 8) (.Bg .z)) (.cmp .eq (.call 2 (.p (.v 0) (.i 8))) (.i 0))) (.o (.a 8 (.v 5)))) (.ret (.tup (.q (.blt .tuple (.o (.v 1))) (.blt .tuple (.o (.bin .add (.cut (.v 6) (.some (.v 7)) .none) (.cut (.v 6) .none (.some (.v 7)))))) (.ix (.v 8) (.call 2 (.p (.v 0) (.l (.v 8)))))))))))))))))
def Oh:Fn:=⟨1,9,Og⟩
def Fz:mj:=.o (.f (.cmp .ne (.ix (.ix (.v 0) (.ix (.v 1) (.v 2))) (.i 1)) (.ix (.ix (.v 0) (.ix (.v 1) (.bin .add (.v 2) (.i 1)))) (.i 0))) (.o (.ret (.cst .non))))
def Ga:Al:=.for_ (.name 2) (.Pu (.bin .sub (.l (.v 1)) (.i 1))) Fz
def Mr:mj:=.q (.f (.or (.cmp .eq (.l (.v 1)) (.i 0)) (.or (.cmp .lt (.blt .min (.o (.v 1))) (.i 0)) (.cmp .ge (.blt .max (.o (.v 1))) (.l (.v 0))))) (.o (.ret (.cst .non)))) Ga (.ret (.tup (.p (.ix (.ix (.v 0) (.ix (.v 1) (.i 0))) (.i 0)) (.ix (.ix (.v 0) (.ix (.v 1) (.neg (.i 1)))) (.i 1)))))
def Ms:Fn:=⟨2,3,Mr⟩
def Mt:mj:=.p (.try_ (.o (.iff (.cmp .eq (.v 0) (.i 0)) (.o (.exq 23 (.o (.v 1)))) (.o (.iff (.cmp .eq (.v 0) (.i 1)) (.o (.exq 26 (.p (.v 1) (.tup .z)))) (.o (.exq 27 (.q (.v 1) (.tup (.p (.i 1) (.i 1))) (.tup (.o (.tup (.o (.i 0)))))))))))) 2 (.q (.a 3 (.lst (.c (.blt (.Zi 4) (.o (.v 2))) (.q (.blt (.Zi 3) (.o (.v 2))) (.blt (.Zi 2) (.o (.v 2))) (.blt (.Zi 1) (.o (.v 2))))))) (.expr (.bm .append (.v 3) (.o (.blt (.Zi 0) (.o (.v 2)))))) (.ret (.ix (.Bg (.p (.ix (.Bg (.p (.cst (.str (PySem.Str.ofString "other"))) (.cst (.str (PySem.Str.ofString "many"))))) (.blt .toInt (.o (.cmp .eq (.v 3) (.Bg (.c (.cst (.bl false)) (.c (.cst (.bl true)) (.q (.cst (.bl false)) (.cst (.bl false)) (.cst (.bl true)))))))))) (.cst (.str (PySem.Str.ofString "none"))))) (.blt .toInt (.o (.cmp .eq (.v 3) (.Bg (.c (.cst (.bl true)) (.c (.cst (.bl false)) (.q (.cst (.bl false)) (.cst (.bl false)) (.cst (.bl true))))))))))))) (.ret (.cst (.str (PySem.Str.ofString "told"))))
def Hm:Fn:=⟨2,4,Mt⟩
def Gb:Ex:=.Av true 1 (.name 6) (.Pu (.l (.v 1))) (.cmp .ne (.ix (.ix (.v 1) (.v 5)) (.i 1)) (.ix (.ix (.v 1) (.v 6)) (.i 0))) (.tup (.p (.v 5) (.v 6)))
def Ge:mj:=.o (.expr (.bm .extend (.v 4) (.o Gb)))
def Gf:Al:=.for_ (.name 5) (.Pu (.l (.v 1))) Ge
def Hn:mj:=.c (.a 2 (.bin .add (.i 1) (.call 2 (.p (.v 0) (.bin .pow (.i 10) (.i 6)))))) (.c (.a 3 (.Bg (.c (.tup .z) (.c (.tup (.o (.neg (.v 2)))) (.q (.tup (.o (.bin .add (.bin .sub (.l (.v 1)) (.i 1)) (.v 2)))) (.tup (.p (.i 0) (.neg (.v 2)))) (.tup (.p (.bin .add (.bin .sub (.l (.v 1)) (.i 1)) (.v 2)) (.i 0)))))))) (.q (.a 4 (.lst .z)) Gf (.ret (.ix (.bin .add (.v 3) (.v 4)) (.call 2 (.p (.v 0) (.bin .add (.l (.v 3)) (.l (.v 4)))))))))
def Vz:Fn:=⟨2,6,Hn⟩
def Ea:Ex:=.Av true 1 (.name 6) (.val (.v 2)) (.cmp .ne (.call 35 (.p (.v 1) (.v 6))) (.call 35 (.p (.v 1) (.v 3)))) (.v 6)
def Jc:mj:=.c (.a 2 (.call 32 (.o (.v 1)))) (.c (.a 3 (.ix (.v 2) (.call 2 (.p (.v 0) (.l (.v 2)))))) (.q (.a 4 Ea) (.iff (.or (.cmp .eq (.v 4) (.Bg .z)) (.cmp .eq (.call 2 (.p (.v 0) (.i 3))) (.i 0))) (.o (.a 5 (.tup (.p (.v 3) (.call 37 (.p (.v 0) (.v 1))))))) (.o (.a 5 (.tup (.p (.v 3) (.ix (.v 4) (.call 2 (.p (.v 0) (.l (.v 4)))))))))) (.ret (.ix (.Bg (.p (.v 5) (.blt .rev (.o (.v 5))))) (.call 2 (.p (.v 0) (.i 2)))))))
def Xl:Fn:=⟨2,6,Jc⟩
def Je:mj:=.c (.asg (.tg (.names [2,3,4])) (.v 1)) (.c (.a 5 (.call 2 (.p (.v 0) (.i 7)))) (.c (.a 6 (.bin .add (.i 1) (.call 2 (.p (.v 0) (.i 100))))) (.c (.a 7 (.ix (.v 2) (.call 2 (.p (.v 0) (.l (.v 2)))))) (.c (.a 8 (.ix (.Bg (.c (.tup (.p (.neg (.v 6)) (.i 0))) (.c (.tup (.p (.i 0) (.bin .add (.i 7) (.v 6)))) (.c (.tup (.p (.ix (.v 7) (.i 1)) (.ix (.v 7) (.i 1)))) (.q (.tup (.p (.ix (.v 7) (.i 1)) (.ix (.v 7) (.i 0)))) (.tup (.p (.i 8) (.i 9))) (.tup (.p (.i 3) (.neg (.v 6))))))))) (.call 2 (.p (.v 0) (.i 6))))) (.c (.f (.cmp .eq (.v 5) (.i 0)) (.o (.ret (.ix (.Bg (.p (.tup (.q (.tup .z) (.v 3) (.v 4))) (.tup (.q (.bin .add (.v 2) (.bin .mul (.tup (.o (.tup (.p (.i 6) (.i 7))))) (.bin .sub (.i 11) (.l (.v 2))))) (.v 3) (.v 4))))) (.call 2 (.p (.v 0) (.i 2))))))) (.c (.f (.cmp .lt (.v 5) (.i 3)) (.o (.ret (.tup (.q (.bin .add (.v 2) (.tup (.o (.v 8)))) (.v 3) (.v 4)))))) (.c (.f (.cmp .eq (.v 5) (.i 3)) (.o (.ret (.tup (.q (.v 2) (.bin .add (.v 3) (.bin .mul (.tup (.o (.bin .add (.tup (.o (.cst (.str (PySem.Str.ofString "same"))))) (.v 4)))) (.bin .sub (.i 9) (.l (.v 3))))) (.v 4)))))) (.q (.f (.cmp .eq (.v 5) (.i 4)) (.o (.ret (.tup (.q (.v 2) (.bin .add (.v 3) (.tup (.o (.tup (.p (.cst (.str (PySem.Str.ofString "apart"))) (.ix (.Bg (.p (.neg (.v 6)) (.bin .add (.bin .sub (.l (.v 2)) (.i 1)) (.v 6)))) (.call 2 (.p (.v 0) (.i 2))))))))) (.v 4)))))) (.f (.cmp .eq (.v 5) (.i 5)) (.o (.ret (.tup (.q (.v 2) (.bin .add (.tup (.o (.bin .add (.tup (.o (.cst (.str (PySem.Str.ofString "same"))))) (.call 38 (.p (.v 0) (.v 2)))))) (.v 3)) (.v 4)))))) (.ret (.tup (.q (.v 2) (.v 3) (.call 38 (.p (.v 0) (.v 2))))))))))))))
def Oi:Fn:=⟨2,9,Je⟩
def Gx:mj:=.o (.expr (.bm .extend (.v 1) (.o (.bin .mul (.Bg (.o (.tup (.p (.v 2) (.bin .add (.v 2) (.i 1)))))) (.ix (.v 0) (.v 2))))))
def Ld:Al:=.for_ (.name 2) (.Pu (.l (.v 0))) Gx
def Oj:mj:=.q (.a 1 (.lst .z)) Ld (.ret (.blt .tuple (.o (.v 1))))
def Ol:Fn:=⟨1,3,Oj⟩
def Zr:Ex:=.comp true 1 (.name 10) (.val (.Bg (.q (.i 9) (.i 10) (.neg (.i 1))))) (.call 36 (.p (.v 5) (.tup (.q (.v 7) (.tup (.o (.tup (.p (.cst (.str (PySem.Str.ofString "apart"))) (.v 10))))) (.v 6)))))
def Up:mj:=.q (.a 9 Zr) (.f (.cmp .ne (.v 9) (.Bg (.q (.cst (.str (PySem.Str.ofString "many"))) (.cst (.str (PySem.Str.ofString "none"))) (.cst (.str (PySem.Str.ofString "none")))))) (.o (.ret (.cst (.bl false))))) (.f (.cmp .ne (.call 36 (.p (.v 5) (.tup (.q (.v 8) (.tup (.o (.tup (.q (.cst (.str (PySem.Str.ofString "same"))) (.tup (.p (.i 0) (.i 4))) (.tup (.p (.i 1) (.i 4))))))) (.v 6))))) (.cst (.str (PySem.Str.ofString "told")))) (.o (.ret (.cst (.bl false)))))
def agc:Al:=.for_ (.name 5) (.Pu (.i 3)) Up
def Uq:mj:=.o (.f (.or (.cmp .ne (.call 36 (.p (.v 5) (.v 4))) (.cst (.str (PySem.Str.ofString "none")))) (.cmp .ne (.call 36 (.p (.v 5) (.v 3))) (.cst (.str (PySem.Str.ofString "told"))))) (.o (.ret (.cst (.bl false)))))
def agd:Al:=.for_ (.name 5) (.Pu (.i 3)) Uq
def Ur:mj:=.q (.a 3 (.call 34 (.o (.v 1)))) (.a 4 (.call 39 (.p (.v 1) (.v 3)))) agd
def age:Al:=.for_ (.name 2) (.Pu (.i 6)) Ur
def alr:mj:=.c (.a 1 (.call 1 (.p (.v 0) (.i 0)))) (.c age (.c (.a 6 (.tup (.p (.tup (.o (.i 0))) (.tup (.o (.i 1)))))) (.c (.a 7 (.call 40 (.o (.Bg (.q (.i 5) (.i 3) (.i 2)))))) (.q (.a 8 (.bin .add (.call 40 (.o (.Bg (.c (.i 4) (.q (.i 2) (.i 2) (.i 1)))))) (.tup (.o (.tup (.p (.i 5) (.i 6))))))) agc (.ret (.cst (.bl true)))))))
def als:Fn:=⟨1,10,alr⟩
def prog:Prog:=⟨[Hi,Jz,Mi,Ai,Cw,Ka,Dn,Bf,Kd,Ml,Sx,Vm,Bk,Kf,Mp,Oc,S8,K7,Td,Kh,Vo,Qg,Vq,Vs,K9,Tf,Rr,Vu,Vw,agb,Vy,Tj,Lb,Im,Oh,Ms,Hm,Vz,Xl,Oi,Ol,als],[⟨0,[]⟩,⟨0,[]⟩,⟨0,[]⟩,⟨0,[]⟩,⟨0,[]⟩,⟨15,[(0,16),(1,17),(2,18),(3,19)]⟩]⟩
end
abbrev PW(m:Nat):Lp:=⟨prog.call m,prog.cls,prog.Uj m⟩
noncomputable abbrev sR(n:Nat):Option D:=some (.ref n)
noncomputable abbrev sI(i:Int):Option D:=some (.int i)
noncomputable def nD(x:Nat):D:=.int (x:Int)
def cj(r:Y3):D:=.tup (r.map nD)
def Qj(x y:Nat):decide ((x:Int)=(y:Int))=decide (x=y):=by
 by_cases h:x=y
 .simp[h]
 .have:¬((x:Int)=(y:Int)):=by lia
  simp[h,this]
def Cd(M:dj)(n x y:Nat):Py M (n+1) (.int x) (.int y)=some (decide (x=y)):=by rw[Zo,Qj]
theorem agf(M:dj)(n:Nat):∀r s:List Nat,Xh (Py M (n+1)) (r.map nD) (s.map nD)=some (decide (r=s))
 |[],[]=>by simp[Xh]|[],_::_=>by simp[Xh]|_::_,[]=>by simp[Xh]
 |x::r,y::s=>by
  rw[dq,dq,aln (a:=nD x) (b:=nD y) (Cd M n x y) (agf M n r s)]
  by_cases h:x=y<;>simp[h]
def Rt(M:dj)(r s:Y3):u9 M (cj r) (cj s)=some (decide (r=s)):=agf M 4 r s
theorem Zt(M:dj)(g:Y3):∀fs:List (List Nat),T9 M (cj g) (fs.map cj)=some (fs.map λf=>decide (f=g))
 |[]=>rfl|f::fs=>by simp[T9,Rt,Zt M g fs]
def art(M:dj)(g:Y3)(fs:List (List Nat)):memD M (cj g) (fs.map cj)=some (decide (g∈fs)):=by
 rw[memD,Zt,rz]
 congr 1
 rw[yq,List.any_eq_true,d7];constructor
 .rintro⟨b,U,Z⟩
  obtain⟨f,G,rfl⟩:=di.mp U;simpa using(show f=g by simpa using Z)▸G
 .intro h
  exact⟨true,di.mpr ⟨g,h,by simp⟩,rfl⟩
noncomputable abbrev Ar:=Nat×Nat
noncomputable def aD(e:Ar):D:=.tup [.int e.1,.int e.2]
noncomputable def at_(Z:List Ar)(i:Nat):Ar:=Z.getD i (0,0)
noncomputable def hw(w:Y3):Nat:=w.headD 0
noncomputable def lw(w:Y3):Nat:=w.getLastD 0
def Aj(Z:List Ar)(w:Y3):Nat:=(at_ Z (hw w)).1
def yp(Z:List Ar)(w:Y3):Nat:=(at_ Z (lw w)).2
def Ye(Z:List Ar):List Nat->Prop
 |a::b::r=>(at_ Z a).2=(at_ Z b).1/\Ye Z (b::r)|_=>True
structure Way(es:List Ar)(w:Y3):Prop where
 ne:w≠[]
 lt:∀i∈w,i<es.length
 ch:Ye es w
def nxt(Z:List Ar)(v:Nat):List Nat:=(List.range Z.length).filter λk=>decide ((at_ Z k).1=v)
def ext(Z:List Ar)(w:Y3):List (List Nat):=(nxt Z (yp Z w)).map λk=>w++[k]
structure V0(es:List Ar)(V:Nat->Nat):Prop where
 pos:1<=es.length
 few:es.length<=10
 sm:∀e∈es,e.1<=7/\e.2<=7
 pot:∀v,((nxt es v).map λk=>1+V (at_ es k).2).sum<=V v
structure Ends(es:List Ar)(V:Nat->Nat):Prop extends V0 es V where
 tot:((List.range es.length).map λk=>1+V (at_ es k).2).sum<=60
def Ends.e0(E:Ends es V):V0 es V:=⟨E.pos,E.few,E.sm,E.pot⟩
def Phi(Z:List Ar)(V:Nat->Nat)(G:List (List Nat)):Nat:=(G.map λw=>1+V (yp Z w)).sum
theorem Gk(G:List Ar)(V:Nat->Nat):∀Z:List (List Nat),Z.length+(Z.map λw=>V (yp G w)).sum=Phi G V Z
 |[]=>rfl|w::Z=>by have:=Gk G V Z;simp[Phi] at this ⊢;lia
def aru(Z:List Ar)(V:Nat->Nat)(a b:List (List Nat)):Phi Z V (a++b)=Phi Z V a+Phi Z V b:=by simp[Phi]
def Zu(E:Ends es V)(w:Y3):Phi es V (ext es w)<=V (yp es w):=by
 have h:=E.pot (yp es w);have e:(ext es w).map (λw=>1+V (yp es w))=(nxt es (yp es w)).map λk=>1+V (at_ es k).2:=by simp[ext,yp,lw,ir,jb]
 rw[Phi,e];exact h
def Om(h:i<es.length):es[i]?=some (at_ es i):=by simp[at_,List.getD,h]
theorem agg:∀{w:Y3},Ye es w->w≠[]->(at_ es k).1=yp es w->Ye es (w++[k])
 |[],_,h,_=>absurd rfl h|[a],_,_,e=>⟨by simpa[yp,lw] using e.symm,trivial⟩|a::b::r,h,_,e=>⟨h.1,agg (w:=b::r) h.2 (by simp) (by simpa[yp,lw] using e)⟩
def Way.app(W:Way es w)(Z:k<es.length)(e:(at_ es k).1=yp es w):Way es (w++[k]) :=
 ⟨by simp,λi G=>by rcases bx.mp G with h|h;exact W.lt i h;simp at h;exact h▸Z,agg W.ch W.ne e⟩
def Way.one(G:k<es.length):Way es [k]:=⟨by simp,λi Z=>by simp at Z;exact Z▸G,trivial⟩
def Ip:k∈nxt es v↔k<es.length/\(at_ es k).1=v:=by simp[nxt]
def Us(W:Way es w)(h:u∈ext es w):Way es u:=by obtain⟨k,U,rfl⟩:=di.mp h;obtain⟨Z,G⟩:=Ip.mp U;exact W.app Z G
def call_of(U:1<=m)(G:prog.fns[f]?=some Z):prog.call m f ds M=Z.run (PW (m-1)) ds M:=by obtain⟨n,rfl⟩:∃n,m=n+1:=⟨m-1,by lia⟩;simp only[Prog.call,Prog.go,G];rfl
def ax0(n:Int)(f:Bool):Prop:=0<=n/\(f=false->n<2147483647)
def Has(t:Nat)(f:Bool)(M:dj):Prop:=∃n,M[t]?=some (.lst [.int n,.bl f])/\ax0 n f
structure St(t:Nat)(f:Bool)(M M':dj):Prop where
 len:M.length<=M'.length
 has:Has t f M'
 keep:∀(a:Nat)(o:MO),a≠t->M[a]?=some o->M'[a]?=some o
def Gg(U:1<=m)(Z:prog.fns[f]?=some G):prog.Uj m f ds M=G.Hg (PW (m-1)) ds M:=by obtain⟨n,rfl⟩:∃n,m=n+1:=⟨m-1,by lia⟩;simp only[Prog.Uj,Prog.go,Z];rfl
set_option tactic.hygienic true in
def yw(h:prog.call m f ds M=.ok d M'):prog.Uj m f ds M=none:=by
 cases m with
 |zero=>rfl
 |succ k =>
  have h:(match prog.fns[f]? with|some F=>F.run (PW k) ds M|none=>.bad)=.ok d M':=h;show(match prog.fns[f]? with|some F=>F.Hg (PW k) ds M|none=>none)=none;cases hf:prog.fns[f]? with
  |none=>rfl
  |some F =>
   rw[hf] at h;have h:F.run (PW k) ds M=.ok d M':=h;show F.Hg (PW k) ds M=none;unfold Fn.run at h;unfold Fn.Hg;split at h
   .rename_i Y
    rw[cg Y];cases e:F.body.den (PW k) (ds.map some++List.replicate (F.ns-F.np) none) M with
    |bad=>rfl
    |ok p G =>
     rw[e] at h;obtain⟨Z,J⟩:=p;cases Z with
     |err c=>cases h|_=>rfl
   .cases h
def St.trans(a:St t f M Z)(b:St t f Z M2):St t f M M2 :=
 ⟨au a.len b.len,b.has,λx o n h=>b.keep x o n (a.keep x o n h)⟩
def St.of(h:Has t f M)(k:j8 M M'):St t f M M' :=
 ⟨k.len,let ⟨n,a,b⟩:=h;⟨n,k _ _ a,b⟩,λa o _ e=>k a o e⟩
def wu(hm:1<=m)(hs:Has t f M)(Z:0<many)(hq:many<1073741824) :
 ∃(v:Nat)(M':dj),prog.call m 2 [.ref t,.int many] M=.ok (.int v) M'/\(v:Int)<many/\St t f M M'/\M'.length=M.length:=by
 obtain⟨n,h,U⟩:=hs;rw[call_of hm rfl];have hl:=jd h;have g0:=zu hl (i:=0) (by decide) rfl;have g1:=zu hl (i:=1) (by decide) rfl;have fin:∀n':Int,ax0 n' f->St t f M (M.set t (.lst [.int n',.bl f])):=λn' o=>⟨by simp,⟨n',o6 h,o⟩,λa u e q=>by rw[jq (jy e)];exact q⟩
 have qq:many≠0:=by lia
 have c1:∀y:Int,∃v:Nat,y%many=(v:Int)/\(v:Int)<many:=λy=>by have a:=Ac y qq;have b:=yo y Z;exact⟨(y%many).toNat,by lia,by lia⟩
 cases f with
 |true =>
  obtain⟨v,e,l⟩:=c1 n;refine⟨v,_,?_,l,fin (n / many) ⟨Int.ediv_nonneg U.1 (by lia),by simp⟩,by simp⟩;simp[Fn.run,Mi,Mh,g0,g1,Z,Yb _ _ Z hq,af6 h,e]
 |false =>
  have h1:=U.1;have h2:=U.2 rfl;obtain⟨n',R⟩:∃n',(n*48271+29)%2147483647=n':=⟨_,rfl⟩;have e1:0<=n':=R▸Ac _ (by decide)
  have e2:n'<2147483647:=R▸yo _ (by decide)
  obtain⟨x,G⟩:∃x,(n'*n'+39373*n'+7)%2147483629=x:=⟨_,rfl⟩;have x1:0<=x:=G▸Ac _ (by decide)
  have x2:x<2147483629:=G▸yo _ (by decide)
  obtain⟨y,ey⟩:∃y,(x*x+16807*x)%2147483587=y:=⟨_,rfl⟩;obtain⟨v,e,l⟩:=c1 (y / 8);refine⟨v,_,?_,l,fin n' ⟨e1,λ_=>e2⟩,by simp⟩;have k:=o6 (o:=.lst [.int n',.bl false]) h;have k0:=zu (jd k) (i:=0) (by decide) rfl;simp[Fn.run,Mi,Mh,g0,g1,Z,af6 h,Lw n 48271 (.inr (by decide)),R,k0,Lw n' n' (.inl (by lia)),Lw 39373 n' (.inl (by decide)),G,Lw x x (.inl (by lia)),Lw 16807 x (.inl (by decide)),ey,Yb _ 8 (by decide) (by decide),e]
def agh{k:Nat}{Z:X9}(U:1<=m):prog.call m 0 [.fz (Z.map D.int),.int k] M=.ok (.int (Z.getD k 0)) M:=by
 rw[call_of U rfl]
 by_cases G:k<Z.length
 .simp[Fn.run,Hi,Hh,alo,G,a4c (ds:=Z.map D.int) (i:=k) (x:=.int (Z.getD k 0)) q_ (by simp[G])]
 .simp[Fn.run,Hi,Hh,alo,G]
def alu{k:Nat}{ns:X9}(Z:2<=m):∃n f,prog.call m 1 [.fz (ns.map D.int),.int k] M=.ok (.ref M.length) (M++[.lst [.int n,.bl f]])/\ax0 n f:=by
 rw[call_of (a_ (by decide) Z) rfl]
 by_cases h:(10:Int) ^ 18<=ns.getD k 0
 .refine⟨ns.getD k 0-10 ^ 18,true,?_,by lia,by simp⟩
  have G:(1000000000000000000:Int)<=ns[k]?.getD 0:=by simpa using h
  simp[Fn.run,Jz,Jy,agh (show 1<=m-1 by exact r_ Z),G,MW.new]
 .refine⟨ns.getD k 0%2147483647,false,?_,Ac _ (by decide),λ_=>yo _ (by decide)⟩
  have G:¬(1000000000000000000:Int)<=ns[k]?.getD 0:=by simpa using h
  simp[Fn.run,Jz,Jy,agh (show 1<=m-1 by exact r_ Z),G,MW.new]
def ax1(h:j7 M d=some ds)(G:0<=i)(Z:ds[i.toNat]?=some x):vh d (.int i) M=some x:=by
 cases d with
 |tup l=>cases h;exact Jw G Z|_=>exact zu h G Z
def arv{Z:List D}(h:Z.getLast?=some x):vh (.tup Z) (.int (-1)) M=some x:=by
 rw[List.getLast?_eq_getElem?] at h;have R:=(ak.mp h).1;have e:Pz Z.length (-1)=some (Z.length-1):=by
  have U:-(Z.length:Int)<=-1:=by lia
  have G:(-1+(Z.length:Int)).toNat=Z.length-1:=by lia
  rw[Pz,bz (by decide),cg U,G]
 show(Pz Z.length (-1)).bind (λj=>Z[j]?)=_;rw[e];exact h
def Fq{i:Nat}(Z:j7 M d=some (es.map aD))(G:i<es.length):vh d (.int i) M=some (aD (at_ es i)) :=
 ax1 Z (gq _) (by simp[Om G])
def alv{i:Nat}(h:w[i]?=some k):vh (cj w) (.int i) M=some (.int (k:Nat)) :=
 Jw (gq _) (by simp[h,nD])
def Yg{w:Y3}(h:w≠[]):w.getLast?=some (lw w)/\lw w∈w:=by
 cases e:w.getLast? with
 |none=>exact absurd (List.getLast?_eq_none_iff.mp e) h
 |some x =>
  have:lw w=x:=by rw[lw,List.getLastD_eq_getLast?,e];rfl
  rw[this];exact⟨rfl,List.mem_of_getLast? e⟩
def Qk(W:Way es w):vh (cj w) (.int (-1)) M=some (.int (lw w:Nat)) :=
 arv (by rw[List.getLast?_map,(Yg W.ne).1];rfl)
def Way.Ql(W:Way es w):lw w<es.length:=W.lt _ (Yg W.ne).2
def V1(W:Way es w):vh (cj w) (.int 0) M=some (.int (hw w:Nat)):=by
 cases w with
 |nil=>exact absurd rfl W.ne|cons a r=>exact Ih _ _
def Way.G9(W:Way es w):hw w<es.length:=by
 cases w with
 |nil=>exact absurd rfl W.ne|cons a r=>exact W.lt a cz
def Ho(G:1<=m)(Z:j7 M d=some (es.map aD))(W:Way es w):prog.call m 11 [d,cj w] M=.ok (.int (yp es w)) M:=by rw[call_of G rfl];simp[Fn.run,Vm,Vl,Qk W,Fq Z W.Ql,aD,yp]
def Hq(G:1<=m)(Z:j7 M d=some (es.map aD))(W:Way es w):prog.call m 10 [d,cj w] M=.ok (.int (Aj es w)) M:=by rw[call_of G rfl];simp[Fn.run,Sx,Sw,V1 W,Fq Z W.G9,aD,Aj]
def Ku(h:M[n]?=some (.lst Z)):Lh .extend (.ref n) M=true:=by simp[Lh,fj,h]
def Ru(h:M[n]?=some (.lst Z))(G:Z.length+ys.length<100000):Fw .extend (.ref n) [.vl ys] M=.ok .non (M.set n (.lst (Z++ys))):=by simp[Fw,onL,h,G,Jt]
theorem j8.j7(k:j8 M Z)(h:j7 M d=some ds):MW.j7 Z d=some ds:=by
 cases d with
 |tup l=>exact h|_=>simp only[MW.j7] at h ⊢;exact k.fj h
theorem j8.set(k:j8 Z M)(h:Z.length<=p):j8 Z (M.set p o):=λa u e=>by rw[jq (su (fc (tu e) h))];exact k a u e
def Hr(w:Y3)(k:Nat)(Z:w.length<1000):Ax .add (cj w) (.tup [.int k]) M=.ok (cj (w++[k])) M:=by rw[cj,Nq _ _ (by simp;lia)];simp[cj,nD]
def Zv(Z:List Ar)(w:Y3):(((List.range Z.length).filter λk=>decide ((at_ Z k).1=yp Z w)).map λk=>cj (w++[k]))=(ext Z w).map cj:=by simp[ext,nxt,ir,jb]
def abm(Z:List Ar)(V:Nat->Nat){G:List (List Nat)}(h:G[i]?=some w):((G.drop i).map λw=>V (yp Z w)).sum=V (yp Z w)+((G.drop (i+1)).map λw=>V (yp Z w)).sum:=by obtain⟨U,e⟩:=ak.mp h;rw[sr U,e];simp
structure Wys(es:List Ar)(ws:List (List Nat)):Prop where
 way:∀w∈ws,Way es w
 one:∀k,k<es.length->[k]∈ws
 ext:∀w∈ws,∀u∈ext es w,u∈ws
 few:ws.length<=60
 nd:ws.Nodup
structure Wk(es:List Ar)(V:Nat->Nat)(ws:List (List Nat))(i:Nat):Prop where
 way:∀w∈ws,Way es w
 one:∀k,k<es.length->[k]∈ws
 ext:∀j w,j<i->ws[j]?=some w->∀u∈ext es w,u∈ws
 le:i<=ws.length
 few:ws.length+((ws.drop i).map λw=>V (yp es w)).sum<=60
 nd:ws.Nodup
 par:∀u∈ws,u.dropLast=[]\/∃j,j<i/\ws[j]?=some u.dropLast
def Hs{Z:Type}{l:List Z}(h:l.Nodup){i j:Nat}{x:Z}(R:l[i]?=some x)(G:l[j]?=some x):i=j:=by obtain⟨a1,U⟩:=ak.mp R;obtain⟨b1,b2⟩:=ak.mp G;exact(zf h).mp (U.trans b2.symm)
theorem Nt{G R:Type}{f:G->R}(Z:∀a b,f a=f b->a=b):∀{l:List G},l.Nodup->(l.map f).Nodup
 |[],_=>by simp
 |a::l,h=>by
  have h:=kj.mp h;rw[dq];refine kj.mpr ⟨λq=>?_,Nt Z h.2⟩;obtain⟨x,h1,U⟩:=di.mp q;exact h.1 (Z _ _ U▸h1)
def ax2(Z:List Ar)(w:Y3):(K71.ext Z w).Nodup:=Nt (λa b h=>by simpa using h) (List.Pairwise.filter _ List.nodup_range)
def Wk.step(E:Ends es V)(h:Wk es V Z i)(hw:Z[i]?=some w):Wk es V (Z++K71.ext es w) (i+1):=by
 have W:=h.way w (bc hw);have hl:=(ak.mp hw).1;have R:∀u∈K71.ext es w,u.dropLast=w:=λu hu=>by obtain⟨k,_,rfl⟩:=di.mp hu;simp
 refine⟨λu hu=>?_,λk hk=>ig _ (h.one k hk),λj u hj hu v U=>?_,by simp;lia,?_,oh.mpr ⟨h.nd,ax2 es w,λa ha b hb e=>?_⟩,λu hu=>?_⟩
 .rcases bx.mp hu with a|a
  .exact h.way u a
  .exact Us W a
 .have G:j<Z.length:=by lia
  rw[gw G] at hu;rcases ju j i with a|a
  .exact ig _ (h.ext j u a hu v U)
  .have:j=i:=by lia
   subst this;rw[hw] at hu;cases hu;exact fu _ U
 .have a:=h.few
  rw[abm es V hw] at a;have b:=Zu E w;rw[<- Gk] at b;rw[List.drop_append_of_le_length (by lia),gr,gf,Ag]
  lia
 .subst e
  have e:=R a hb;rcases h.par a ha with q|⟨j,q1,q2⟩
  .exact W.ne (e▸q)
  .rw[e] at q2
   have:=Hs h.nd hw q2
   lia
 .rcases bx.mp hu with a|a
  .rcases h.par u a with q|⟨j,q1,q2⟩
   .exact .inl q
   .exact .inr ⟨j,by lia,by rw[gw (by lia)];exact q2⟩
  .exact .inr ⟨i,by lia,by rw[R u a,gw hl];exact hw⟩
def Wk.start(E:Ends es V):Wk es V ((List.range es.length).map λk=>[k]) 0:=by
 refine⟨λw h=>?_,λk G=>di.mpr ⟨k,ji.mpr G,rfl⟩,λj w Z=>absurd Z (qj _),ik _,?_,Nt (λa b h=>by simpa using h) List.nodup_range,λu hu=>?_⟩
 .obtain⟨k,U,rfl⟩:=di.mp h
  exact Way.one (ji.mp U)
 .have a:=E.tot
  have b:=Gk es V ((List.range es.length).map λk=>[k]);have c:Phi es V ((List.range es.length).map λk=>[k])=((List.range es.length).map λk=>1+V (at_ es k).2).sum:=by simp[Phi,yp,lw,ir,jb]
  rw[List.drop_zero];lia
 .obtain⟨k,_,rfl⟩:=di.mp hu
  exact .inl rfl
def V_lt(E:V0 es V)(Z:k<es.length):V (at_ es k).2<V (at_ es k).1:=by
 have h:=E.pot (at_ es k).1;have m:k∈nxt es (at_ es k).1:=Ip.mpr ⟨Z,rfl⟩;have:1+V (at_ es k).2<=((nxt es (at_ es k).1).map λk=>1+V (at_ es k).2).sum:=by
  generalize nxt es (at_ es k).1=l at m
  induction l with
  |nil=>cases m
  |cons a l G =>
   simp only[dq,List.sum_cons];rcases dh.mp m with rfl|m
   .lia
   .have:=G m;lia
 lia
def bci(E:Ends es V)(Z:k<es.length):V (at_ es k).2<=59:=by
 have h:=E.tot;have m:k∈List.range es.length:=ji.mpr Z;have:1+V (at_ es k).2<=((List.range es.length).map λk=>1+V (at_ es k).2).sum:=by
  generalize List.range es.length=l at m
  induction l with
  |nil=>cases m
  |cons a l G =>
   simp only[dq,List.sum_cons];rcases dh.mp m with rfl|m
   .lia
   .have:=G m;lia
 lia
theorem alw(E:Ends es V):∀{w:Y3},Way es w->w.length+V (yp es w)<=V (at_ es (hw w)).2+1
 |[],W=>absurd rfl W.ne|[a],_=>by simp[yp,lw,hw];lia
 |a::b::r,W=>by
  have Z:Way es (b::r):=⟨by simp,λi U=>W.lt i (bh _ U),W.ch.2⟩;have R:=alw E Z;have hb:=V_lt E.e0 (W.lt b (by simp));have e:=W.ch.1;have G:yp es (a::b::r)=yp es (b::r):=by simp[yp,lw]
  rw[G];simp only[gj,hw,List.headD_cons] at R ⊢;rw[e]
  lia
def Dc(E:Ends es V)(W:Way es w):w.length<=60:=by
 have a:=alw E W;have b:=bci E W.G9
 lia
def Wk.end_(h:Wk es V ws ws.length):Wys es ws:=by
 refine⟨h.way,h.one,λw hw u hu=>?_,?_,h.nd⟩
 .obtain⟨j,Z⟩:=n6.mp hw
  exact h.ext j w (ak.mp Z).1 Z u hu
 .have:=h.few;lia
theorem Ye.init:∀{w:Y3},Ye es (w++[k])->Ye es w
 |[],_=>trivial|[_],_=>trivial|a::b::r,h=>⟨h.1,Ye.init (w:=b::r) h.2⟩
theorem Ye.last:∀{w:Y3},w≠[]->Ye es (w++[k])->(at_ es k).1=yp es w
 |[],h,_=>absurd rfl h|[a],_,h=>by simpa[yp,lw] using h.1.symm|a::b::r,_,h=>by have:=Ye.last (w:=b::r) (by simp) h.2;simpa[yp,lw] using this
theorem Wys.all(L:Wys es U):∀(n:Nat){w:Y3},w.length=n->Way es w->w∈U
 |0,w,h,W=>absurd (uf h) W.ne
 |n+1,w,h,W=>by
  obtain⟨u,k,rfl⟩:∃u k,w=u++[k]:=⟨w.dropLast,w.getLast W.ne,(yh W.ne).symm⟩;have Z:k<es.length:=W.lt k (by simp)
  by_cases hu:u=[]
  .subst hu;exact L.one k Z
  .have G:Way es u:=⟨hu,λi R=>W.lt i (ig _ R),W.ch.init⟩
   have m:=L.all n (by simpa using h) G;exact L.ext u m _ (di.mpr ⟨k,Ip.mpr ⟨Z,Ye.last hu W.ch⟩,rfl⟩)
def Fe{g:Nat->D}(G:it.den W R M=.ok (.int (n:Int)) M1)(hn:n<=100000)(h:∀i,i<n->∃Z,t.put (.int i) (R++List.replicate k none)=some Z/\e.den W Z M1=.ok (g i) M1) :
 (Ex.comp v k t (.Pu it) e).den W R M=if v then .ok (.vl ((List.range n).map g)) M1 else new (.lst ((List.range n).map g)) M1:=by
 obtain⟨ys,M',a,rfl,rfl⟩:=Jx (v:=v) (k:=k) (t:=t) (e:=e) G hn (λi U M=>U=(List.range i).map g/\M=M1) ⟨rfl,rfl⟩ (λi U M hi hI=>by
  obtain⟨rfl,rfl⟩:=hI;obtain⟨Z,b,c⟩:=h i hi;exact⟨Z,_,_,b,c,by simp[uv],rfl⟩)
 exact a
def Ha(h:j7 M d=some ds):ph .len [d] M=.ok (.int ds.length) M:=by
 cases d with
 |tup l=>cases h;rfl|_=>simp only[MW.j7] at h;exact len_list h
def Zw(hm:1<=m)(E:Ends es V)(hd:j7 M d=some (es.map aD)) :
 ∃Z M',prog.call m 32 [d] M=.ok (.ref M.length) M'/\M'[M.length]?=some (.lst (Z.map cj))/\Wys es Z/\j8 M M':=by
 rw[call_of hm rfl];refine hG λ_ _k=>?_
 have hn:es.length<=100000:=au E.few (by decide)
 have c2:Fd.den (PW (m-1)) [some d,none,none,none] M=.ok (.ref M.length) (M++[.lst (((List.range es.length).map λk=>[k]).map cj)]):=by unfold Fd;rw[Fe (n:=es.length) (M1:=M) (g:=λk=>cj [k]) (by simp[Ha hd]) hn (λi hi=>⟨_,rfl,by simp[cj,nD]⟩)];simp[MW.new,ir,jb]
 obtain⟨qk,M',a,Z,b3,rfl,U,g2,G⟩:=Ec (c:=(Ex.cmp .lt (.v 2) (.l (.v 1))).den (PW (m-1))) (body:=Fb.den (PW (m-1)))
  (λn ρ M1=>∃(Z:List (List Nat))(i:Nat)(b3:Option D),ρ=[some d,sR M.length,sI i,b3]/\M1[M.length]?=some (.lst (Z.map cj))/\j8 M M1/\Wk es V Z i/\n=60-i)
  (fun ρ M1=>∃(Z:List (List Nat))(b3:Option D),ρ=[some d,sR M.length,sI Z.length,b3]/\M1[M.length]?=some (.lst (Z.map cj))/\j8 M M1/\Wys es Z)
  (λn ρ M1 hI=>by
   refine hG λ_ _k=>?_
   obtain⟨Z,i,b3,rfl,U,g2,G,rfl⟩:=hI;have hl:=len_list (jd U);apply _k;rcases ju i Z.length with hi|hi
   .right
    obtain⟨w,hw⟩:∃w,Z[i]?=some w:=⟨_,du hi⟩;have W:=G.way w (bc hw);have R:=j8.j7 g2 hd;have x0:vh (.ref M.length) (.int i) M1=some (cj w):=zu (jd U) (gq _) (by simp[hw]);have wl:=Dc E W;have c1:Ez.den (PW (m-1)) [some d,sR M.length,sI i,sI (yp es w)] M1=.ok (.vl ((ext es w).map cj)) M1:=by unfold Ez;rw[Mf (n:=es.length) (M1:=M1) (q:=λk=>decide ((at_ es k).1=yp es w)) (g:=λk=>cj (w++[k])) (by simp[Ha R]) hn (λj hj=>⟨_,rfl,by simp[Fq R hj,aD,Qj],λ_=>by simp[x0,Hr w j (by lia)]⟩)];rw[<- Zv];rfl
    have qq:=G.few;have el:Z.length+(ext es w).length<=60:=by
     rw[abm es V hw] at qq;have b:=Zu E w;rw[<- Gk] at b
     lia
    refine⟨M1,.next,_,_,60-(i+1),?_,?_,.inl rfl,by have:=G.le;lia,Z++ext es w,i+1,sI (yp es w),rfl,o6 U,j8.set g2 (bf _),?_,rfl⟩
    .simp[hl,hi]
    .have lst:=Qk (M:=M1) W
     have e1:=Fq R W.Ql;simp only[Fb];simp[x0,lst,e1,aD,Ku U];rw[show(at_ es (lw w)).2=yp es w from rfl];simp[c1,Ru U (ys:=(ext es w).map cj) (by simp;lia)]
    .exact G.step E hw
   .left
    have:i=Z.length:=by have:=G.le;lia
    subst this;exact⟨M1,by simp[hl],Z,b3,rfl,U,g2,G.end_⟩)
  Vd 60 [some d,sR M.length,sI 0,none] (M++[.lst (((List.range es.length).map λk=>[k]).map cj)]) (by decide)
  ⟨_,0,none,rfl,zx,j8.app _ _,Wk.start E,rfl⟩
 apply _k;refine⟨Z,M',?_,U,G,g2⟩;simp only[Fn.run,Lb,La];simp[-List.map_map,c2,Ik,Ls,a]
def Zx(h:M[n]?=some (.lst Z))(U:fj M y=some G)(R:Jt n y=true)(hl:Z.length+G.length<100000):Fw .extend (.ref n) [y] M=.ok .non (M.set n (.lst (Z++G))):=by simp[Fw,onL,h,U,R,hl]
theorem Qm(E:Ends es V):∀Z:List (List Nat),Phi es V (Z.flatMap (ext es))<=(Z.map λw=>V (yp es w)).sum
 |[]=>by simp[Phi]
 |w::Z=>by
  have a:=Zu E w;have b:=Qm E Z;rw[List.flatMap_cons,aru,dq,List.sum_cons]
  lia
def Jl(r:Nat)(M Z:dj):Prop:=∀(a:Nat)(o:MO),a≠r->M[a]?=some o->Z[a]?=some o
def Jl.refl(r:Nat)(M:dj):Jl r M M:=λ_ _ _ h=>h
def Jl.trans(a:Jl r M Z)(b:Jl r Z M2):Jl r M M2:=λx o n h=>b x o n (a x o n h)
theorem Jl.set(r:Nat)(M:dj)(o:MO):Jl r M (M.set r o):=λa u n h=>by rw[jq (jy n)];exact h
theorem Jl.fj(k:Jl r M Z)(U:Jt r f=true)(h:fj M f=some ds):MW.fj Z f=some ds:=by
 cases f with
 |ref n =>
  have G:n≠r:=by simpa[Jt] using U
  cases e:M[n]? with
  |none=>simp[MW.fj,e] at h|some o=>cases o<;>simp[MW.fj,e] at h<;>subst h<;>simp[MW.fj,k n _ G e]
 |_=>exact h
def av6(hm:1<=m)(E:Ends es V)(hf:fj M f=some (ws.map cj))(hw:∀w∈ws,Way es w)(hp:Phi es V ws<=60)(hr:M[r]?=some (.lst []))(hk:Jt r f=true) :
 ∃G Z M',Eo.den (PW m) [some (.tup (es.map aD)),a1,some f,sR r,a4,a5] M=.ok (.next,[some (.tup (es.map aD)),a1,some f,sR r,G,Z]) M'/\M'[r]?=some (.lst ((ws.flatMap (ext es)).map cj))/\Jl r M M':=by
 unfold Eo;refine hG λ_ _k=>?_
 obtain⟨qq,M',a,G,Z,rfl,U,g2⟩:=zy (W:=PW m) (it:=.v 2) (t:=.name 4) (b:=Em) (ρ:=[D.tup (es.map aD),a1,some f,sR r,a4,a5]) (M:=M) (M1:=M) rfl hf
  (λi R M1=>∃G Z:Option D,R=[some (.tup (es.map aD)),a1,some f,sR r,G,Z]/\M1[r]?=some (.lst (((ws.take i).flatMap (ext es)).map cj))/\Jl r M M1)
  ⟨a4,a5,rfl,by simpa using hr,Jl.refl r M⟩ (λi R M1 h=>by obtain⟨_,_,_,_,k⟩:=h;exact k.fj hk hf)
  (λi x R M1 hx hI=>by
   refine hG λ_ _k=>?_
   obtain⟨G,Z,rfl,U,g2⟩:=hI;obtain⟨w,hi,rfl⟩:∃w,ws[i]?=some w/\cj w=x:=by simpa using hx
   have W:=hw w (bc hi);have qk:=(ak.mp hi).1;have wl:=Dc E W;have c1:El.den (PW m) [some (.tup (es.map aD)),a1,some f,sR r,some (cj w),sI (yp es w)] M1=.ok (.vl ((ext es w).map cj)) M1:=by
    unfold El;rw[Mg (ds:=es.map aD) (M1:=M1) (q:=λk=>decide ((at_ es k).1=yp es w)) (g:=λk=>cj (w++[k])) rfl (by simpa using au E.few (by decide)) (λj x hx=>by
     have hj:j<es.length:=by simpa using(ak.mp hx).1
     have ex:x=aD (at_ es j):=by simpa[Om hj] using hx.symm
     subst ex;exact⟨_,rfl,by simp[aD,Qj],λ_=>by simp[Hr w j (by lia)]⟩)]
    simp only[bu,Zv,km]
   have el:(((ws.take i).flatMap (ext es)).map cj).length+((ext es w).map cj).length<100000:=by
    have e1:(ws.take (i+1)).flatMap (ext es)=(ws.take i).flatMap (ext es)++ext es w:=by rw[m5,hi];simp
    have e2:=Qm E (ws.take (i+1));rw[e1,<- Gk] at e2;have e3:((ws.take (i+1)).map λw=>V (yp es w)).sum<=Phi es V ws:=by
     rw[<- Gk,<- t7 (i+1) ws,gf,Ag]
     simp;lia
    rw[gr] at e2;rw[bu,bu]
    lia
   apply _k;refine⟨_,.next,_,_,rfl,?_,.inl rfl,some (cj w),sI (yp es w),rfl,o6 (o:=.lst (((ws.take (i+1)).flatMap (ext es)).map cj)) U,g2.trans (Jl.set r M1 _)⟩;simp only[Em];simp[Ho hm (M:=M1) (d:=.tup (es.map aD)) rfl W,Ku U,c1,Ru U el];rw[m5,hi];simp)
 apply _k;refine⟨G,Z,M',a,?_,g2⟩;simpa using U
def abn(hm:2<=m)(E:Ends es V) :
 ∃(l:List D)(M':dj),prog.call m 13 [.tup (es.map aD)] M=.ok (.ref M.length) M'/\M'[M.length]?=some (.lst l)/\l.length<=60/\j8 M M':=by
 rw[call_of (au (by decide) hm) rfl];refine hG λ_ _k=>?_
 have hn:es.length<=100000:=au E.few (by decide)
 have c2:Bo.den (PW (m-1)) [some (.tup (es.map aD)),sR M.length,none,none,none,none] (M++[.lst []])=.ok (.vl (((List.range es.length).map λk=>[k]).map cj)) (M++[.lst []]):=by unfold Bo;rw[Fe (n:=es.length) (M1:=M++[.lst []]) (g:=λk=>cj [k]) (by simp[ym]) hn (λi hi=>⟨_,rfl,by simp[cj,nD]⟩)];simp[ir,jb]
 obtain⟨qk,M',a,l,b2,b3,R,U,rfl,g1,g2,g3⟩:=Ec (c:=(Ex.tru (.v 2)).den (PW (m-1))) (body:=Bl.den (PW (m-1)))
  (λn ρ G=>∃(Z:List (List Nat))(l:List D)(f:D)(b3 R U:Option D),ρ=[some (.tup (es.map aD)),sR M.length,some f,b3,R,U]/\G[M.length]?=some (.lst l)/\j8 M G/\fj G f=some (Z.map cj)/\Jt M.length f=true/\(∀w∈Z,Way es w)/\l.length+Phi es V Z<=60/\n=60-l.length)
  (fun ρ G=>∃(l:List D)(b2 b3 R U:Option D),ρ=[some (.tup (es.map aD)),sR M.length,b2,b3,R,U]/\G[M.length]?=some (.lst l)/\j8 M G/\l.length<=60)
  (λn ρ G hI=>by
   refine hG λ_ _k=>?_
   obtain⟨Z,l,f,b3,R,U,rfl,g1,g2,g3,g4,g5,g6,rfl⟩:=hI;have hs:=Ci g3;apply _k
   by_cases hw:Z=[]
   .left
    subst hw;exact⟨G,by simp[hs],l,some f,b3,R,U,rfl,g1,g2,by lia⟩
   .right
    have K5:=Gk es V Z;have qq:0<Z.length:=jn.mpr hw
    have x1:=Zx g1 g3 g4 (by simp;lia);have k1:Jl M.length G (G.set M.length (.lst (l++Z.map cj))):=Jl.set _ _ _;have f1:=k1.fj g4 g3;generalize Zy:G.set M.length (.lst (l++Z.map cj))=M2 at x1 k1 f1;have t1:M2[M.length]?=some (.lst (l++Z.map cj)):=by rw[<- Zy];exact o6 g1
    have f2:fj (M2++[.lst []]) f=some (Z.map cj):=(j8.app _ _).fj f1;have hr:Jt M2.length f=true:=by
     cases f with
     |ref n =>
      have:n<M2.length:=by
       cases e:M2[n]? with
       |none=>simp[MW.fj,e] at f1|some o=>exact tu e
      simpa[Jt] using gh this
     |_=>rfl
    obtain⟨c4,c5,M3,e3,h3,k3⟩:=av6 (m:=m-1) (a1:=sR M.length) (a4:=R) (a5:=U) (by lia) E f2 g5 (by lia) zx hr;have tl:M.length<M2.length:=tu t1
    refine⟨G,.next,[some (.tup (es.map aD)),sR M.length,sR M2.length,sR M2.length,c4,c5],M3,60-(l++Z.map cj).length,?_,?_,.inl rfl,by simp;lia,Z.flatMap (ext es),l++Z.map cj,.ref M2.length,_,_,_,rfl,k3 _ _ (gh tl) (Ba t1),?_,jd h3,?_,?_,?_,rfl⟩
    .simp[hs,hw]
    .simp only[Bl]
     simp[Ku g1,x1,MW.new,e3]
    .intro a o h
     have ha:=tu h;have:=g2 a o h;refine k3 a o (by lia) (Ba ?_);rw[<- Zy,jq (by lia)];exact this
    .simpa[Jt] using su tl
    .intro u hu
     obtain⟨w,h1,h2⟩:=zg.mp hu;exact Us (g5 w h1) h2
    .have:=Qm E Z
     rw[gr,bu]
     lia)
  Vd 60 [some (.tup (es.map aD)),sR M.length,some (.vl (((List.range es.length).map λk=>[k]).map cj)),none,none,none] (M++[.lst []]) (by decide)
  ⟨_,[],_,none,none,none,rfl,zx,j8.app _ _,rfl,rfl,(Wk.start E).way,by
   have:=(Wk.start E).few;rw[List.drop_zero,Gk] at this;simpa using this,rfl⟩
 apply _k;refine⟨l,M',?_,g1,g3,g2⟩;simp only[Fn.run,Kf,Ke];simp[-List.map_map,MW.new,c2,G7,Ls,a]
def alx(Z:j7 G d=some ds):∃s,srcOf G d=some s/\s.len=ds.length/\(∀M i,j7 M d=some ds->s.item i M=ds[i]?)/\∀M,j7 M d=some ds->s.fin M=true:=by
 cases d with
 |vl U=>cases Z;exact⟨.con ds,rfl,rfl,λ_ _ _=>rfl,λ_ _=>rfl⟩
 |tup U=>cases Z;exact⟨.con ds,rfl,rfl,λ_ _ _=>rfl,λ_ _=>rfl⟩
 |ref p =>
  have get:∀{M:dj},j7 M (.ref p)=some ds->M[p]?=some (.lst ds):=fun{M} h=>by
   cases e:M[p]? with
   |none=>simp[MW.j7,MW.fj,e] at h|some o=>cases o<;>simp[MW.j7,MW.fj,e] at h;subst h;rfl
  exact⟨.live p ds.length,by simp[srcOf,get Z],rfl,λM i h=>by simp[Src.item,get h],λM h=>by simp[Src.fin,get h]⟩
 |_=>cases Z
def Ht{U:Type}{f:U->D}{xs:List U}{q:U->Bool}{g:U->D}(qk:it.den W R M=.ok d M1)(hd:j7 M1 d=some (xs.map f))(hn:xs.length<=100000)
 (h:∀x∈xs,∃Z,t.put (f x) (R++List.replicate k none)=some Z/\c.den W Z M1=.ok (.bl (q x)) M1/\(q x=true->e.den W Z M1=.ok (g x) M1)) :
 (Ex.Av v k t (.val it) c e).den W R M=if v then .ok (.vl ((xs.filter q).map g)) M1 else new (.lst ((xs.filter q).map g)) M1:=by
 rw[Lz,G6,qk];obtain⟨s,hs,hl,hi,hf⟩:=alx hd;simp only[Res.yd,hs,Res.ye];obtain⟨ys,M',g1,g2,rfl⟩:=Ly (fin:=s.fin) (item:=s.item) (body:=λd M=>(Res.q8 (t.put d (R++List.replicate k none)) M).bind λG M=>(c.den W G M).bind λb M' =>
  match b with
   |.bl true=>(e.den W G M').bind λx qq=>.ok (some x) qq
   |.bl false=>.ok none M'|_=>.bad) (λi zs M=>zs=((xs.take i).filter q).map g/\M=M1) (n:=xs.length) (λi zs M Nj hI=>by
  obtain⟨rfl,rfl⟩:=hI;obtain⟨Z,a,b,c⟩:=h xs[i] (by simp);refine⟨f xs[i],if q xs[i] then some (g xs[i]) else none,M,by rw[hi M i hd];simp[Nj],?_,?_,rfl⟩
  .cases e:q xs[i] with
   |true=>simp only[a,Res.ye,Res.yd,b,e,c e,km]|false=>simp only[a,Res.ye,Res.yd,b,e];rfl
  .rw[List.take_succ_eq_append_getElem Nj,List.filter_append,gf]
   cases e:q xs[i]<;>simp[e]) (λzs M h=>h.2▸hf M1 hd) xs.length 0 [] M1 (sy _) ⟨by simp,rfl⟩
 rw[List.nil_append,qd] at g2;subst g2;rw[Az,hl,bu,cg hn];exact o9 (λr=>r.bind λds M2=>if v=true then Res.ok (.vl ds) M2 else new (.lst ds) M2) g1
def Bv{α:Type}{f:α->D}{xs:List α}{g:α->D}(qq:it.den W G M=.ok d M1)(R:j7 M1 d=some (xs.map f))(hn:xs.length<=100000)
 (h:∀x∈xs,∃Z,t.put (f x) (G++List.replicate k none)=some Z/\e.den W Z M1=.ok (g x) M1) :
 (Ex.comp v k t (.val it) e).den W G M=if v then .ok (.vl (xs.map g)) M1 else new (.lst (xs.map g)) M1:=by
 rw[Jk,G6,qq];obtain⟨s,hs,hl,hi,hf⟩:=alx R;simp only[Res.yd,hs,Res.ye];obtain⟨ys,M',g1,g2,rfl⟩:=Ly (fin:=s.fin) (item:=s.item) (body:=λd M=>(Res.q8 (t.put d (G++List.replicate k none)) M).bind λU M=>(e.den W U M).bind λx M'=>.ok (some x) M') (λi zs M=>zs=(xs.take i).map g/\M=M1) (n:=xs.length) (λi zs M Nj hI=>by
  obtain⟨rfl,rfl⟩:=hI;obtain⟨Z,a,b⟩:=h xs[i] (by simp);exact⟨f xs[i],some (g xs[i]),M,by rw[hi M i R];simp[Nj],by simp only[a,Res.ye,Res.yd,b],by rw[List.take_succ_eq_append_getElem Nj,gf];rfl,rfl⟩)
  (λzs M h=>h.2▸hf M1 R) xs.length 0 [] M1 (sy _) ⟨by simp,rfl⟩
 rw[List.nil_append,qd] at g2;subst g2;rw[Az,hl,bu,cg hn];exact o9 (λr=>r.bind λds M2=>if v=true then Res.ok (.vl ds) M2 else new (.lst ds) M2) g1
theorem agi(M:dj)(g:Nat):∀fs:List Nat,T9 M (.int g) (fs.map nD)=some (fs.map λf=>decide (f=g))
 |[]=>rfl
 |f::fs=>by
  have:u9 M (nD f) (.int g)=some (decide (f=g)):=Cd M 5 f g;simp only[dq,T9,this,agi M g fs]
def agj(M:dj)(g:Nat)(fs:Y3):memD M (.int g) (fs.map nD)=some (decide (g∈fs)):=by
 rw[memD,agi,rz]
 congr 1
 induction fs with
 |nil=>simp
 |cons f fs Z =>
  by_cases h:f=g
  .simp[h]
  .simp only[dq,Aa,Z,dh,id]
   simp[h,jy h]
def ax3(h:e∈es):∃k,k<es.length/\at_ es k=e:=by obtain⟨k,Z⟩:=n6.mp h;have G:=(ak.mp Z).1;refine⟨k,G,?_⟩;have:=Om G;rw[Z] at this;exact(iu this).symm
def Jf(h:k<es.length):at_ es k∈es:=bc (Om h)
theorem aly(V:Nat->Nat):∀Z:List Ar,Z≠[]->∃e∈Z,∀u∈Z,V u.1<=V e.1
 |[],h=>absurd rfl h|[a],_=>⟨a,by simp,by simp⟩
 |a::b::r,_=>by
  obtain⟨e,U,G⟩:=aly V (b::r) (by simp)
  by_cases h:V a.1<=V e.1
  .exact⟨e,bh _ U,λu hu=>by rcases dh.mp hu with rfl|hu;exact h;exact G u hu⟩
  .exact⟨a,cz,λu hu=>by rcases dh.mp hu with rfl|hu;exact bf _;have:=G u hu;lia⟩
noncomputable def lft(Z:List Ar):List Ar:=Z.filter λe=>decide (e.1∈Z.map (·.2))
def alz(E:V0 es V)(hs:∀e∈Z,e∈es)(R:Z≠[]):(lft Z).length<Z.length:=by
 obtain⟨e,h1,U⟩:=aly V Z R;refine List.length_filter_lt_length_iff_exists.mpr ⟨e,h1,?_⟩;intro h;obtain⟨u,G,h4⟩:=di.mp (iy h);obtain⟨k,hk,rfl⟩:=ax3 (hs u G);have a:=V_lt E hk;have b:=U _ G;rw[h4] at a
 lia
def arz(hm:1<=m)(E:V0 es V):∃M',prog.call m 5 [.tup (es.map aD)] M=.ok (.bl false) M'/\j8 M M':=by
 rw[call_of hm rfl];refine hG λ_ _k=>?_
 obtain⟨qk,M',a,b1,G,rfl,g2⟩:=Ec (c:=(Ex.cmp .ne (.v 2) (.l (.v 1))).den (PW (m-1))) (body:=Cq.den (PW (m-1)))
  (λn ρ M1=>∃(Z:List Ar)(f:D)(R:Int)(G:Option D),ρ=[some (.tup (es.map aD)),some f,sI R,G]/\j8 M M1/\j7 M1 f=some (Z.map aD)/\(∀e∈Z,e∈es)/\Z.length<=10/\(R=Z.length->Z=[])/\n=2*Z.length+if R=Z.length then 0 else 1)
  (fun ρ M1=>∃(b1 G:Option D),ρ=[some (.tup (es.map aD)),b1,sI 0,G]/\j8 M M1)
  (λn ρ M1 hI=>by
   refine hG λ_ _k=>?_
   obtain⟨Z,f,R,G,rfl,g2,g3,g4,g5,g6,rfl⟩:=hI;have hl:=Ha g3;rw[bu] at hl;apply _k
   by_cases e:R=Z.length
   .left
    have qq:=g6 e;subst qq;exact⟨M1,by simp[hl,e],some f,G,by simp[e],g2⟩
   .right
    have c2:Cm.den (PW (m-1)) [some (.tup (es.map aD)),some f,sI Z.length,G] M1=.ok (.vl ((Z.map (·.2)).map nD)) M1:=by unfold Cm;rw[Bv (d:=f) (M1:=M1) (xs:=Z) (f:=aD) (g:=λe=>nD e.2) rfl g3 (by lia) (λx hx=>⟨_,rfl,by simp[aD,nD,Ei]⟩)];simp[ir,jb]
    have c1:Cj.den (PW (m-1)) [some (.tup (es.map aD)),some f,sI Z.length,some (.vl ((Z.map (·.2)).map nD))] M1=.ok (.vl ((lft Z).map aD)) M1:=by
     unfold Cj;rw[Ht (d:=f) (M1:=M1) (xs:=Z) (f:=aD) (q:=λe=>decide (e.1∈Z.map (·.2))) (g:=aD) rfl g3 (by lia) (λx hx=>⟨_,rfl,by
      have:=agj M1 x.1 (Z.map (·.2));simp[-List.map_map,aD,Xk,this],λ_=>by simp⟩)]
     rfl
    refine⟨M1,.next,[some (.tup (es.map aD)),some (.vl ((lft Z).map aD)),sI Z.length,some (.vl ((Z.map (·.2)).map nD))],M1,_,by simp[hl,e],?_,.inl rfl,?_,lft Z,_,Z.length,_,rfl,g2,rfl,λu hu=>g4 u ((qi.mp hu).1),?_,?_,rfl⟩
    .simp only[Cq]
     simp[-List.map_map,hl,c2,c1]
    .by_cases U:Z=[]
     .subst U;simp[lft] at e ⊢;simp[e]
     .have:=alz E g4 U
      simp only[e,jt];split<;>lia
    .exact au (vz _ _) g5
    .intro h
     by_cases U:Z=[]
     .subst U;rfl
     .have:=alz E g4 U;lia)
  Vd _ [some (.tup (es.map aD)),sR M.length,sI (-1),none] (M++[.lst (es.map aD)]) (by have:=E.few;show _<1000000;split<;>lia)
  ⟨es,.ref M.length,-1,none,rfl,j8.app _ _,Ci (jd zx),λ_ h=>h,E.few,λh=>by lia,rfl⟩
 apply _k;refine⟨M',?_,g2⟩;simp only[Fn.run,Ka,J0];simp[ph,MW.new,Hj,Ls,a]
def V2{Z:List Ar}{k:Nat}(U:1<=m)(G:j7 M d=some (Z.map aD)):prog.call m 8 [d,.int k] M=.ok (.bl (decide (k<Z.length))) M:=by rw[call_of U rfl];simp[Fn.run,Kd,Kc,Ha G]
theorem Yh{G:Type}:∀Z:List G,allB (Z.map λ_=>D.bl true)=some true
 |[]=>rfl|_::Z=>by simp[allB,Yh Z]
theorem Ye.zip:∀{w:Y3},Ye es w->∀p∈w.zip (w.drop 1),(at_ es p.1).2=(at_ es p.2).1
 |[],_,p,h=>by simp at h|[_],_,p,h=>by simp at h
 |a::b::r,c,p,h=>by
  simp only[List.drop_succ_cons,List.drop_zero,List.zip_cons_cons,dh] at h;rcases h with rfl|h
  .exact c.1
  .exact Ye.zip (w:=b::r) c.2 p (by simpa using h)
def O2(hm:2<=m)(Z:j7 M d=some (es.map aD))(qq:es.length<=10)(E:w.length<=60)(W:Way es w):prog.call m 9 [d,cj w] M=.ok (.bl true) M:=by
 rw[call_of (au (by decide) hm) rfl];have c2:Eb.den (PW (m-1)) [some d,some (cj w)] M=.ok (.vl (w.map λ_=>.bl true)) M:=by
  unfold Eb;rw[Bv (d:=cj w) (M1:=M) (xs:=w) (f:=nD) (g:=λ_=>.bl true) rfl rfl (by lia) (λx G=>⟨_,rfl,by
   have:=V2 (m:=m-1) (k:=x) (by lia) Z;simp[nD,this,W.lt x G]⟩)]
  rfl
 have hl:1<=w.length:=jn.mpr W.ne
 have cu:Va (cj w) (some 1) none M=some (cj (w.drop 1)):=by
  have:Oz (w.map nD) (some 1) none=(w.drop 1).map nD:=by
   have e:min 1 w.length=1:=by lia
   simp only[Oz,clip,bu];rw[cg (by decide),show(1:Int).toNat=1 from rfl,e,List.map_drop];exact yl (by simp)
  show some (D.tup (Oz (w.map nD) (some 1) none))=_;rw[this];rfl
 have zi:(Ox.zip (.p (.v 1) (.cut (.v 1) (.some (.i 1)) .none))).den (PW (m-1)) [some d,some (cj w)] M=.ok (.con (Ua (w.map nD) ((w.drop 1).map nD))) M:=by rw[af4];simp only[Cr,Ek,ale,af3,X8,X7,Ju,Res.yd,cu,Res.ye];rfl
 have c1:Hk.den (PW (m-1)) [some d,some (cj w)] M=.ok (.vl ((w.zip (w.drop 1)).map λ_=>.bl true)) M:=by
  unfold Hk;rw[Jk,zi];have ez:Ua (w.map nD) ((w.drop 1).map nD)=(w.zip (w.drop 1)).map λp=>.tup [nD p.1,nD p.2]:=by rw[Ua,List.zip_map,ir];rfl
  rw[ez,Res.yd,af7 (g:=λ_=>.bl true) (by simp;lia) (λx G=>by
   obtain⟨p,U,rfl⟩:=di.mp G;have z:=W.ch.zip p U;have p1:=W.lt p.1 (Af U).1;have p2:=W.lt p.2 (List.mem_of_mem_drop (Af U).2);simp[nD,Ei,Fq Z p1,Fq Z p2,aD,z])]
  simp
 have R:w.isEmpty=false:=by cases w<;>first|exact absurd rfl W.ne|rfl
 simp only[Fn.run,Ml,Mj];have t0:(Ex.ntr (.v 1)).den (PW (m-1)) [some d,some (cj w)] M=.ok (.bl false) M:=by show Res.q8 (some (D.bl (w.map nD).isEmpty)) M=_;rw[List.isEmpty_map,R];rfl
 simp[t0,-Qc,c2,c1,ph,Yh]
structure N8(es:List Ar)(a b:Y3):Prop where
 one:Way es a
 two:Way es b
 st:Aj es a=Aj es b
 go:yp es a=yp es b
def al0(R:3<=m)(Z:j7 M d=some (es.map aD))(E:Ends es V)(B:N8 es a b):prog.call m 12 [d,cj a,cj b] M=.ok (.bl true) M:=by rw[call_of (au (by decide) R) rfl];have h1:=O2 (m:=m-1) (by lia) Z E.few (Dc E B.one) B.one;have G:=O2 (m:=m-1) (by lia) Z E.few (Dc E B.two) B.two;have h3:=Hq (m:=m-1) (by lia) Z B.one;have h4:=Hq (m:=m-1) (by lia) Z B.two;have U:=Ho (m:=m-1) (by lia) Z B.one;have h6:=Ho (m:=m-1) (by lia) Z B.two;simp[Fn.run,Bk,Bj,h1,G,h3,h4,U,h6,B.st,B.go]
inductive Gn where
 |same (a b:Y3)|apart (k:Nat)
noncomputable def sD(s:String):D:=.str (PySem.Str.ofString s)
def Gn.toD:Gn->D
 |.same a b=>.tup [.str (PySem.Str.ofString "same"),cj a,cj b]|.apart k=>.tup [.str (PySem.Str.ofString "apart"),.int (k:Nat)]
def Gd(Z:List Ar):Gn->Prop
 |.same a b=>N8 Z a b|.apart k=>k<Z.length
def abo(G:4<=m)(Z:j7 M d=some (es.map aD))(E:Ends es V)(g:Gn)(h:Gd es g):prog.call m 7 [d,g.toD] M=.ok (.bl true) M:=by
 rw[call_of (au (by decide) G) rfl];cases g with
 |same a b =>
  have:=al0 (m:=m-1) (by lia) Z E h;simp[Fn.run,Bf,Be,Gn.toD,this]
 |apart k =>
  have:=V2 (m:=m-1) (k:=k) (by lia) Z;have U:PySem.Str.ofString "apart"≠PySem.Str.ofString "same" := by decide
  simp[Fn.run,Bf,Be,Gn.toD,this,U,show k<es.length from h]
def Mv(hm:2<=m)(E:V0 es V):∃M',prog.call m 4 [.tup (es.map aD)] M=.ok .non M'/\j8 M M':=by
 rw[call_of (au (by decide) hm) rfl];obtain⟨M',a,k⟩:=arz (m:=m-1) (M:=M) (by lia) E;have lp:∃Z G:Option D,Bd.den (PW (m-1)) [some (.tup (es.map aD)),none,none] M=.ok (.next,[some (.tup (es.map aD)),Z,G]) M:=by
  unfold Bd;obtain⟨qq,U,e,Z,G,rfl,rfl⟩:=Ij (W:=PW (m-1)) (it:=.v 0) (t:=.names [1,2]) (b:=qx) (ρ:=[D.tup (es.map aD),none,none]) (M:=M) (M1:=M) rfl
   (λ_ R U=>∃Z G:Option D,R=[some (.tup (es.map aD)),Z,G]/\U=M) ⟨none,none,rfl,rfl⟩ (λi x R U hx hI=>by
    obtain⟨Z,G,rfl,rfl⟩:=hI;obtain⟨e,h1,rfl⟩:∃e,es[i]?=some e/\aD e=x:=by simpa using hx
    have hs:=E.sm e (bc h1);have s1:(e.1:Int)<=7:=by lia
    have s2:(e.2:Int)<=7:=by lia
    exact⟨_,.next,[some (.tup (es.map aD)),sI e.1,sI e.2],U,rfl,by simp[qx,Ei,s1,s2],.inl rfl,_,_,rfl,rfl⟩)
  exact⟨Z,G,e⟩
 obtain⟨Z,G,e⟩:=lp;have p1:(1:Int)<=es.length:=by have:=E.pos;lia
 have p2:(es.length:Int)<=10:=by have:=E.few;lia
 refine⟨M',?_,k⟩;simp only[Fn.run,Cw,Cu];simp[ym,p1,p2,e,a]
def agk{Z:List Gn}(hm:5<=m)(E:Ends es V)(hg:∀g∈Z,Gd es g)(hl:Z.length<=8):prog.call m 6 [.tup (es.map aD),.tup (Z.map Gn.toD)] M=.ok .non M:=by
 rw[call_of (au (by decide) hm) rfl];have lp:∃G:Option D,Bt.den (PW (m-1)) [some (.tup (es.map aD)),some (.tup (Z.map Gn.toD)),none] M=.ok (.next,[some (.tup (es.map aD)),some (.tup (Z.map Gn.toD)),G]) M:=by
  unfold Bt;obtain⟨qq,U,e,G,rfl,rfl⟩:=Ij (W:=PW (m-1)) (it:=.v 1) (t:=.name 2) (b:=wk) (ρ:=[D.tup (es.map aD),D.tup (Z.map Gn.toD),none]) (M:=M) (M1:=M) rfl
   (λ_ R U=>∃G:Option D,R=[some (.tup (es.map aD)),some (.tup (Z.map Gn.toD)),G]/\U=M) ⟨none,rfl,rfl⟩ (λi x R U hx hI=>by
    obtain⟨G,rfl,rfl⟩:=hI;obtain⟨g,h1,rfl⟩:∃g,Z[i]?=some g/\g.toD=x:=by simpa using hx
    have:=abo (m:=m-1) (M:=U) (d:=.tup (es.map aD)) (by lia) rfl E g (hg g (bc h1));exact⟨_,.next,[some (.tup (es.map aD)),some (.tup (Z.map Gn.toD)),some g.toD],U,rfl,by simp[wk,this],.inl rfl,_,rfl,rfl⟩)
  exact⟨G,e⟩
 obtain⟨G,e⟩:=lp;have p:¬(8:Int)<Z.length:=by lia
 simp only[Fn.run,Dn,Dm];simp[ym,p,e]
structure Zz where
 es:List Ar
 gs:List Gn
 a:List Nat
 b:List Nat
def Zz.toD(s:Zz):D:=.tup [.tup (s.es.map aD),.tup (s.gs.map Gn.toD),.tup [cj s.a,cj s.b]]
structure Hu(s:Zz)(V:Nat->Nat):Prop where
 E:Ends s.es V
 gs:∀g∈s.gs,Gd s.es g
 few:s.gs.length<=8
 aim:N8 s.es s.a s.b
def V3(hm:6<=m)(h:Hu s V):∃M',prog.call m 3 [s.toD] M=.ok .non M'/\j8 M M':=by
 rw[call_of (au (by decide) hm) rfl];obtain⟨Z,G,k1⟩:=Mv (m:=m-1) (M:=M) (by lia) h.E.e0;have U:=agk (m:=m-1) (M:=Z) (by lia) h.E h.gs h.few;have e3:=al0 (m:=m-1) (M:=Z) (d:=.tup (s.es.map aD)) (by lia) rfl h.E h.aim;obtain⟨l,M2,e4,g4,l4,k4⟩:=abn (m:=m-1) (M:=Z) (by lia) h.E;have R:=len_list (jd g4);have p:¬(60:Int)<l.length:=by lia
 refine⟨M2,?_,k1.trans k4⟩;simp only[Fn.run,Ai,Ah,Zz.toD];simp[G,U,e3,e4,R,p,yw G,yw U]
noncomputable def zc(r:X9):D:=.tup (r.map D.int)
def Xi(Z:List (List Int)):D:=.tup (Z.map zc)
noncomputable def Ay(Z:List (List Int))(k:Nat):List Int:=Z.getD k []
noncomputable def Gw(r:X9)(x:Int):Int:=r.getD x.toNat 0
def stp(Z:List (List Int))(x:Int)(k:Nat):Int:=Gw (Ay Z k) x
def gone(Z:List (List Int))(w:Y3)(x:Int):Int:=w.foldl (stp Z) x
def Led(Z:List (List Int)):List Nat->Int->Prop
 |[],_=>True|k::r,x=>k<Z.length/\0<=x/\x<(Ay Z k).length/\Led Z r (stp Z x k)
def al3{k:Nat}(Z:k<acts.length):vh (Xi acts) (.int k) M=some (zc (Ay acts k)) :=
 Jw (gq _) (by simp[Ay,Z,List.getD])
def Ut{x:Int}{r:X9}(G:0<=x)(U:x<r.length):vh (zc r) (.int x) M=some (.int (Gw r x)):=by
 have Z:x.toNat<r.length:=by lia
 exact Jw G (by simp[Gw,List.getD,Z])
def ax4{W:Lp}{E:Int->Option D->Env}{x:Int}{b:mj}(hb:∀(x:Int) (k:Nat) (M:dj),k<acts.length->0<=x->x<(Ay acts k).length->b.den W (E x (some (.int k))) M=.ok (.next,E (stp acts x k) (some (.int k))) M)
 (hp:∀x (b4:Option D) (d:D),(Tg.name j).put d (E x b4)=some (E x (some d))) (qq:it.den W (E x b4) M=.ok (cj w) M) (h:Led acts w x) :
 ∃Z,(Al.for_ (.name j) (.val it) b).den W (E x b4) M=.ok (.next,E (gone acts w x) Z) M:=by
 obtain⟨qk,G,e,Z,y,r,rfl,rfl,R,U,h3⟩:=Ij (W:=W) (it:=it) (t:=.name j) (b:=b) (ρ:=E x b4) (M:=M) (M1:=M) (ds:=w.map nD) qq
  (λi ρ G=>∃(Z:Option D)(y:Int)(r:Y3),ρ=E y Z/\G=M/\w.drop i=r/\Led acts r y/\gone acts r y=gone acts w x) ⟨b4,x,w,rfl,rfl,rfl,h,rfl⟩ (λi d ρ G hx hI=>by
   obtain⟨Z,y,r,rfl,rfl,R,U,h3⟩:=hI;obtain⟨k,hk,rfl⟩:∃k,w[i]?=some k/\nD k=d:=by simpa using hx
   obtain⟨hl,ek⟩:=ak.mp hk;rw[sr hl,ek] at R;subst R;exact⟨_,.next,_,G,hp y Z _,hb y k G U.1 U.2.1 U.2.2.1,.inl rfl,_,_,_,rfl,rfl,rfl,U.2.2.2,h3⟩)
 rw[bu,List.drop_length] at R;subst R;exact⟨Z,by rw[e,<- h3];rfl⟩
def al4(G:1<=m)(h:Led acts w x):prog.call m 31 [Xi acts,cj w,.int x] M=.ok (.int (gone acts w x)) M:=by
 rw[call_of G rfl];obtain⟨c4,e⟩:=ax4 (W:=PW (m-1)) (j:=4) (it:=.v 1) (b:=Jb) (M:=M) (b4:=none) (E:=λy Z=>[some (Xi acts),some (cj w),some (.int x),some (.int y),Z])
  (λy k M R h0 U=>by simp[Jb,al3 R,Ut h0 U,stp]) (λ_ _ _=>rfl) rfl h
 simp only[Fn.run,Tj,Ti,Oe];simp[e]
noncomputable def mx(e:Ar):Nat:=if e.1<e.2 then e.2 else e.1
noncomputable def Xm(l:Y3)(a:Nat):Nat:=l.foldl (λm x=>if m<x then x else m) a
def Ed(Z:List Ar):Nat:=match Z.map mx with|[]=>0|a::l=>Xm l a
theorem Yi:∀(l:Y3)(a:Nat),(l.map λ(x:Nat)=>(x:Int)).foldl (λm x=>if m<x then x else m) (a:Int)=(Xm l a:Nat)
 |[],a=>rfl
 |x::l,a=>by
  have e:(if(a:Int)<(x:Int) then(x:Int) else(a:Int))=((if a<x then x else a:Nat):Int):=by split<;>split<;>lia
  show(l.map λ(x:Nat)=>(x:Int)).foldl (λm x=>if m<x then x else m) (if(a:Int)<(x:Int) then(x:Int) else(a:Int))=_;rw[e,Yi l];rfl
theorem agl:∀(l:Y3)(a:Nat),a<=Xm l a/\∀x∈l,x<=Xm l a
 |[],a=>⟨bf _,by simp⟩
 |x::l,a=>by
  obtain⟨G,U⟩:=agl l (if a<x then x else a);refine⟨?_,λy Z=>?_⟩
  .show a<=Xm l _;split at G<;>lia
  .show y<=Xm l _
   rcases dh.mp Z with rfl|Z
   .split at G<;>lia
   .exact U y Z
def V4(h:e∈es):e.1<=Ed es/\e.2<=Ed es:=by
 have m:mx e∈es.map mx:=di.mpr ⟨e,h,rfl⟩;have k:mx e<=Ed es:=by
  unfold Ed;cases q:es.map mx with
  |nil=>rw[q] at m;cases m
  |cons a l =>
   rw[q] at m;obtain⟨G,Z⟩:=agl l a;rcases dh.mp m with rfl|m
   .exact G
   .exact Z _ m
 unfold mx at k;split at k<;>exact⟨by lia,by lia⟩
theorem agm:∀l:List Nat,X5 (l.map nD)=some (l.map λ(x:Nat)=>(x:Int))
 |[]=>rfl|x::l=>by simp[X5,nD,agm l]
def V5(M:dj)(Z:j7 M d=some ((a::l).map nD)):ph .max [d] M=.ok (.int (Xm l a:Nat)) M:=by show Res.q8 ((((j7 M d).bind X5).bind arb).map D.int) M=_;rw[Z,Option.bind_some,agm,Option.bind_some,dq,arb,Yi];rfl
def ax5{Z:List Ar}{y v:Nat}(U:ρ[v]?=some (some d))(G:ρ.length=y)(R:j7 M d=some (Z.map aD))(hl:Z.length<=10) :
 (Ex.comp true 1 (.name y) (.val (.v v)) (.blt .max (.o (.v y)))).den W ρ M=.ok (.vl ((Z.map mx).map nD)) M:=by
 subst G;rw[Bv (d:=d) (M1:=M) (xs:=Z) (f:=aD) (g:=λe=>nD (mx e)) (by simp[U]) R (by lia) (λx hx=>⟨_,rfl,by
  have g:((ρ++List.replicate 1 none).set ρ.length (some (aD x)))[ρ.length]?=some (some (aD x)):=vd (by simp);have e:ph .max [aD x] M=.ok (nD (mx x)) M:=by rw[V5 (a:=x.1) (l:=[x.2]) M rfl];rfl
  simp[g,e]⟩)]
 simp[ir,jb]
def ax6(Z:es≠[]):ph .max [.vl ((es.map mx).map nD)] M=.ok (.int (Ed es:Nat)) M:=by
 unfold Ed;cases q:es.map mx with
 |nil=>exact absurd (List.map_eq_nil_iff.mp q) Z|cons a l=>exact V5 M rfl
def al5(G:1<=m)(E:Ends es V)(Z:j7 M d=some (es.map aD)):prog.call m 25 [d] M=.ok (.int ((Ed es+1:Nat):Int)) M:=by rw[call_of G rfl];have U:es≠[]:=List.ne_nil_of_length_pos E.pos;have c:=ax5 (W:=PW (m-1)) (ρ:=[some d]) (v:=0) rfl rfl Z E.few;simp only[Fn.run,Tf,Te];simp[-List.map_map,show Od.den (PW (m-1)) [some d] M=_ from c,ax6 U]
def al6(U:List Ar)(G:X9)(Z:List (List Int))(k:Nat):Prop :=
 ((Ay Z k).length:Int)=Gw G (at_ U k).1/\∀x∈Ay Z k,0<=x/\x<Gw G (at_ U k).2
structure Sets(es:List Ar)(zs:X9)(acts:List (List Int)):Prop where
 n:zs.length=Ed es+1
 a:acts.length=es.length
 z:∀z∈zs,0<=z
 r:∀k,k<es.length->al6 es zs acts k
def Hv(e:Ar):vh (aD e) (.int 0) M=some (.int (e.1:Nat)):=Ih _ _
def Mw(e:Ar):vh (aD e) (.int 1) M=some (.int (e.2:Nat)):=Nr _ _ _
theorem abp{G:Type}(q:G->Bool):∀Z:List G,allB (Z.map λx=>D.bl (q x))=some (Z.all q)
 |[]=>rfl|x::Z=>by simp[allB,abp q Z]
def Rx{G:Type}(q:G->Bool)(Z:List G):ph .all [.vl (Z.map λx=>D.bl (q x))] M=.ok (.bl (Z.all q)) M:=by show Res.q8 ((allB (Z.map λx=>D.bl (q x))).map D.bl) M=_;rw[abp];rfl
def av7{Z:X9}(E:Ends es V)(U:Z.length=Ed es+1)(G:k<es.length):(at_ es k).1<Z.length/\(at_ es k).2<Z.length:=by
 have:=V4 (Jf G)
 lia
def ar0(hm:2<=m)(E:Ends es V)(hl:zs.length<=1000)(hr:∀r∈acts,(r:X9).length<=1000) :
 ∃b,prog.call m 28 [.tup (es.map aD),zc zs,Xi acts] M=.ok (.bl b) M/\(b=true↔Sets es zs acts):=by
 rw[call_of (au (by decide) hm) rfl];have e0:=al5 (m:=m-1) (M:=M) (d:=.tup (es.map aD)) (by lia) E rfl;have l1:ph .len [zc zs] M=.ok (.int zs.length) M:=by simp[zc,ym]
 have l2:ph .len [Xi acts] M=.ok (.int acts.length) M:=by simp[Xi,ym]
 have l3:ph .len [.tup (es.map aD)] M=.ok (.int es.length) M:=by simp[ym]
 have R:((zs.length:Int)=(Ed es:Int)+1)↔zs.length=Ed es+1:=by lia
 have q2:((acts.length:Int)=(es.length:Int))↔acts.length=es.length:=by lia
 simp only[Fn.run,Vw,Vv]
 by_cases Z:zs.length=Ed es+1
 case neg=>exact⟨false,by simp[e0,l1,R,Z],by simp;exact λh=>Z h.n⟩
 by_cases U:acts.length=es.length
 case neg=>exact⟨false,by simp[e0,l1,R,Z,l2,l3,q2,U],by simp;exact λh=>U h.a⟩
 have c2:Kr.den (PW (m-1)) [some (.tup (es.map aD)),some (zc zs),some (Xi acts),none,none] M=.ok (.vl (zs.map λz=>.bl (decide (0<=z)))) M:=by unfold Kr;rw[Bv (d:=zc zs) (M1:=M) (xs:=zs) (f:=D.int) (g:=λz=>.bl (decide (0<=z))) rfl rfl (by lia) (λx hx=>⟨_,rfl,by simp⟩)];rfl
 by_cases h3:(zs.all λz=>decide (0<=z))=true
 case neg =>
  have a:=Rx (M:=M) (λz:Int=>decide (0<=z)) zs;rw[Bool.eq_false_iff.mpr h3] at a;exact⟨false,by simp[e0,l1,R,Z,l2,l3,q2,U,c2,a],by simp;exact λh=>h3 (jg.mpr λz hz=>vo (h.z z hz))⟩
 have a3:=Rx (M:=M) (λz:Int=>decide (0<=z)) zs;rw[h3] at a3;have hz:∀z∈zs,0<=z:=λz hz=>iy (jg.mp h3 z hz)
 have lp:Goes (λi ρ M1=>∃b3 b4:Option D,ρ=[some (.tup (es.map aD)),some (zc zs),some (Xi acts),b3,b4]/\M1=M/\∀k,k<i->al6 es zs acts k) (λv M1=>v=.bl false/\M1=M/\∃k,k<es.length/\¬al6 es zs acts k) es.length (Kq.den (PW (m-1)) [some (.tup (es.map aD)),some (zc zs),some (Xi acts),none,none] M):=by
  unfold Kq;refine af9 (s:=.con (Ua (acts.map zc) (es.map aD))) (M1:=M) rfl (by simp[Src.len,Ua,U]) _ _ ⟨none,none,rfl,rfl,λk G=>absurd G (qj _)⟩ (λ_ _ _=>rfl) (λi ρ M1 hi hI=>?_);refine hG λ_ _k=>?_
  obtain⟨b3,b4,rfl,rfl,G⟩:=hI;obtain⟨s1,s2⟩:=av7 E Z hi;have z1:vh (zc zs) (.int ((at_ es i).1:Nat)) M1=some (.int (Gw zs (at_ es i).1)):=Ut (gq _) (by lia);have z2:vh (zc zs) (.int ((at_ es i).2:Nat)) M1=some (.int (Gw zs (at_ es i).2)):=Ut (gq _) (by lia);have lr:ph .len [zc (Ay acts i)] M1=.ok (.int (Ay acts i).length) M1:=by simp[zc,ym]
  have rl:(Ay acts i).length<=1000:=hr _ (by
   have:i<acts.length:=by lia
   have e:acts[i]?=some (Ay acts i):=by simp[Ay,List.getD,this]
   exact bc e)
  apply _k;refine⟨.tup [zc (Ay acts i),aD (at_ es i)],[some (.tup (es.map aD)),some (zc zs),some (Xi acts),some (zc (Ay acts i)),some (aD (at_ es i))],?_,rfl,?_⟩
  .have qq:i<acts.length:=by lia
   have e1:acts[i]?=some (Ay acts i):=by simp[Ay,List.getD,qq]
   show(Ua (acts.map zc) (es.map aD))[i]?=_;rw[Ua,ie,List.getElem?_zip_eq_some (z:=(zc (Ay acts i),aD (at_ es i))).mpr ⟨by rw[ie,e1];rfl,by rw[ie,Om hi];rfl⟩];rfl
  .have c1:Kp.den (PW (m-1)) [some (.tup (es.map aD)),some (zc zs),some (Xi acts),some (zc (Ay acts i)),some (aD (at_ es i))] M1=.ok (.vl ((Ay acts i).map λx=>.bl (decide (0<=x)&&decide (x<Gw zs (at_ es i).2)))) M1:=by
    unfold Kp;rw[Bv (d:=zc (Ay acts i)) (M1:=M1) (xs:=Ay acts i) (f:=D.int) (g:=λx=>.bl (decide (0<=x)&&decide (x<Gw zs (at_ es i).2))) rfl rfl (by lia) (λx hx=>⟨_,rfl,by
     by_cases h:0<=x<;>simp[h,Mw,z2]⟩)]
    rfl
   simp only[Qi]
   by_cases r1:((Ay acts i).length:Int)=Gw zs (at_ es i).1
   case neg=>exact⟨.ret (.bl false),[some (.tup (es.map aD)),some (zc zs),some (Xi acts),some (zc (Ay acts i)),some (aD (at_ es i))],M1,by simp[lr,Hv,z1,r1],.inr ⟨_,rfl,rfl,rfl,i,hi,λh=>r1 h.1⟩⟩
   have a1:=Rx (M:=M1) (λx:Int=>decide (0<=x)&&decide (x<Gw zs (at_ es i).2)) (Ay acts i)
   by_cases r2:((Ay acts i).all λx=>decide (0<=x)&&decide (x<Gw zs (at_ es i).2))=true
   .rw[r2] at a1
    refine⟨.next,[some (.tup (es.map aD)),some (zc zs),some (Xi acts),some (zc (Ay acts i)),some (aD (at_ es i))],M1,by simp[lr,Hv,z1,r1,c1,a1],.inl ⟨rfl,_,_,rfl,rfl,λk qv=>?_⟩⟩;rcases ju k i with g|g
    .exact G k g
    .have:k=i:=by lia
     subst this;refine⟨r1,λx hx=>?_⟩;have:=jg.mp r2 x hx;simpa using this
   .rw[Bool.eq_false_iff.mpr r2] at a1
    exact⟨.ret (.bl false),[some (.tup (es.map aD)),some (zc zs),some (Xi acts),some (zc (Ay acts i)),some (aD (at_ es i))],M1,by simp[lr,Hv,z1,r1,c1,a1],.inr ⟨_,rfl,rfl,rfl,i,hi,λh=>r2 (jg.mpr λx hx=>by simpa using h.2 x hx)⟩⟩
 obtain⟨fl,qk,M',e,⟨rfl,b3,b4,rfl,rfl,G⟩|⟨v,rfl,rfl,rfl,k,G,hn⟩⟩:=lp
 .exact⟨true,by simp[e0,l1,R,Z,l2,l3,q2,U,c2,a3,e],by simp;exact⟨Z,U,hz,G⟩⟩
 .exact⟨false,by simp[e0,l1,R,Z,l2,l3,q2,U,c2,a3,e],by simp;exact λh=>hn (h.r k G)⟩
def agn{x:Int}{r:X9}(G:0<=x)(h:x<r.length):Gw r x∈r:=by
 have Z:x.toNat<r.length:=by lia
 have:r[x.toNat]?=some (Gw r x):=by simp[Gw,List.getD,Z]
 exact bc this
theorem Sets.led(S:Sets es zs acts):∀{w:Y3}{x:Int},Way es w->0<=x->x<Gw zs (Aj es w)->Led acts w x
 |[],_,W,_,_=>absurd rfl W.ne
 |[k],x,W,h0,h=>by
  have G:=W.lt k (by simp);have r:=S.r k G;have Z:x<Gw zs (at_ es k).1:=h
  exact⟨by have:=S.a;lia,h0,by rw[r.1];exact Z,trivial⟩
 |a::b::r,x,W,h0,h=>by
  have G:=W.lt a (by simp);have q:=S.r a G;have Z:x<Gw zs (at_ es a).1:=h
  have U:x<(Ay acts a).length:=by rw[q.1];exact Z
  have m:=q.2 _ (agn h0 U);have R:Way es (b::r):=⟨by simp,λi hi=>W.lt i (bh _ hi),W.ch.2⟩;exact⟨by have:=S.a;lia,h0,U,S.led R m.1 (by
   have e:Aj es (b::r)=(at_ es a).2:=W.ch.1.symm;rw[e];exact m.2)⟩
def Sets.size(S:Sets es zs acts)(W:Way es w):Gw zs (Aj es w)=((Ay acts (hw w)).length:Int):=(S.r _ W.G9).1.symm
def Tn(Z:List (List Int))(n:Nat)(a b:Y3):Bool:=(List.range n).all λx=>decide (gone Z a x=gone Z b x)
def ago{n:Nat}(R:2<=m)(S:Sets es zs acts)(B:N8 es a b)(Z:Gw zs (Aj es a)=(n:Int))(hl:n<=1000):prog.call m 30 [Xi acts,.int n,cj a,cj b] M=.ok (.bl (Tn acts n a b)) M:=by
 rw[call_of (au (by decide) R) rfl];have c:Ks.den (PW (m-1)) [some (Xi acts),some (.int n),some (cj a),some (cj b)] M=.ok (.vl ((List.range n).map λ(x:Nat)=>.bl (decide (gone acts a x=gone acts b x)))) M:=by
  unfold Ks;rw[Fe (n:=n) (M1:=M) (g:=λ(x:Nat)=>.bl (decide (gone acts a x=gone acts b x))) rfl (by lia) (λi hi=>⟨_,rfl,by
   have U:=al4 (m:=m-1) (M:=M) (by lia) (S.led (x:=(i:Int)) B.one (by lia) (by rw[Z];lia));have G:=al4 (m:=m-1) (M:=M) (by lia) (S.led (x:=(i:Int)) B.two (by lia) (by rw[<- B.st,Z];lia));simp[U,G]⟩)]
  rfl
 have al:=Rx (M:=M) (λx:Nat=>decide (gone acts a x=gone acts b x)) (List.range n);simp only[Fn.run,Vy,Vx];simp[c,al,Tn]
theorem Z0:∀l:List Int,X5 (l.map D.int)=some l
 |[]=>rfl|x::l=>by simp[X5,Z0 l]
def ai9{r:X9}(h:r.length<31):ph .Js [zc r] M=.ok (.int ((Aw r).length:Nat)) M:=by show Res.q8 ((X5 (r.map D.int)).bind λis=>if is.length<31 then some (D.int (Aw is).length) else none) M=_;rw[Z0,Option.bind_some,cg h];rfl
def soB(U:List Ar)(G:X9)(Z:List (List Int)):Gn->Bool
 |.same a b=>Tn Z (Gw G (Aj U a)).toNat a b|.apart k=>decide ((Aw (Ay Z k)).length=(Ay Z k).length)
def agp(S:Sets es zs acts)(Z:k<es.length):Ay acts k∈acts:=by
 have G:k<acts.length:=by rw[S.a];exact Z
 have e:acts[k]?=some (Ay acts k):=by simp[Ay,List.getD,G]
 exact bc e
def abq(S:Sets es zs acts)(Z:∀r∈acts,(r:X9).length<31)(W:Way es w):Gw zs (Aj es w)=((Gw zs (Aj es w)).toNat:Int)/\(Gw zs (Aj es w)).toNat<=1000:=by have h:=S.size W;have q:=Z _ (agp S W.G9);rw[h];exact⟨by simp,by simp;lia⟩
def av8(E:Ends es V)(S:Sets es zs acts)(W:Way es w):vh (zc zs) (.int (Aj es w:Nat)) M=some (.int (Gw zs (Aj es w))):=by have:=(av7 E S.n W.G9).1;exact Ut (gq _) (by unfold Aj;lia)
def a4f(hm:3<=m)(E:Ends es V)(S:Sets es zs acts)(U:∀r∈acts,(r:X9).length<31)(g:Gn)(Z:Gd es g) :
 prog.call m 29 [.tup (es.map aD),zc zs,Xi acts,g.toD] M=.ok (.bl (soB es zs acts g)) M:=by
 rw[call_of (au (by decide) hm) rfl];simp only[Fn.run,agb,aga];cases g with
 |same a b =>
  have B:N8 es a b:=Z;obtain⟨G,e2⟩:=abq S U B.one;have s:=ago (m:=m-1) (M:=M) (by lia) S B G e2;rw[<- G] at s;have w:=Hq (m:=m-1) (M:=M) (d:=.tup (es.map aD)) (by lia) rfl B.one;have ne:PySem.Str.ofString "same"≠PySem.Str.ofString "apart" := by decide
  simp[Gn.toD,ne,w,av8 E S B.one,s,soB]
 |apart k =>
  have R:k<es.length:=Z
  have hl:k<acts.length:=by rw[S.a];exact R
  have lr:ph .len [zc (Ay acts k)] M=.ok (.int (Ay acts k).length) M:=by simp[zc,ym]
  simp[Gn.toD,al3 hl,ai9 (U _ (agp S R)),lr,soB]
  lia
def Brk(s:Zz)(G:X9)(Z:List (List Int)):Prop :=
 Sets s.es G Z/\Tn Z (Gw G (Aj s.es s.a)).toNat s.a s.b=false/\(s.gs.all (soB s.es G Z))=true
def aja(hm:7<=m)(h:Hu s V)(hl:zs.length<=1000)(hr:∀r∈acts,(r:X9).length<31) :
 ∃b M',prog.call m 27 [s.toD,zc zs,Xi acts] M=.ok (.bl b) M'/\j8 M M'/\(b=true↔Brk s zs acts):=by
 rw[call_of (au (by decide) hm) rfl];obtain⟨M1,Z,R⟩:=V3 (m:=m-1) (M:=M) (by lia) h;obtain⟨b,e2,hb⟩:=ar0 (m:=m-1) (M:=M1) (acts:=acts) (by lia) h.E hl (λr h=>by have:=hr r h;lia);simp only[Fn.run,Vu,Vt];have U:∀M,vh s.toD (.int 0) M=some (.tup (s.es.map aD)):=λM=>Ih _ _
 have t1:∀M,vh s.toD (.int 1) M=some (.tup (s.gs.map Gn.toD)):=λM=>Nr _ _ _
 have t2:∀M,vh s.toD (.int 2) M=some (.tup [cj s.a,cj s.b]):=λM=>Um _ _ _ _
 cases b with
 |false=>exact⟨false,M1,by simp[Z,yw Z,U,e2],R,by simp;intro x;exact absurd (hb.mpr x.1) (by simp)⟩
 |true =>
  have S:=hb.mp rfl;obtain⟨n1,n2⟩:=abq S hr h.aim.one;have w:=Hq (m:=m-1) (M:=M1) (d:=.tup (s.es.map aD)) (by lia) rfl h.aim.one;have z:=av8 (M:=M1) h.E S h.aim.one;have G:=ago (m:=m-1) (M:=M1) (by lia) S h.aim n1 n2;rw[<- n1] at G;cases q:Tn acts (Gw zs (Aj s.es s.a)).toNat s.a s.b with
  |true =>
   rw[q] at G;exact⟨false,M1,by simp[Z,yw Z,U,t2,e2,w,z,G],R,by simp;intro x;exact absurd x.2.1 (by simp[q])⟩
  |false =>
   rw[q] at G;have c:O1.den (PW (m-1)) [some s.toD,some (zc zs),some (Xi acts),some (.int (Gw zs (Aj s.es s.a)))] M1=.ok (.vl (s.gs.map λg=>.bl (soB s.es zs acts g))) M1:=by
    unfold O1;rw[Bv (d:=.tup (s.gs.map Gn.toD)) (M1:=M1) (xs:=s.gs) (f:=Gn.toD) (g:=λg=>.bl (soB s.es zs acts g)) (by simp[t1]) rfl (by have:=h.few;lia) (λg hg=>⟨_,rfl,by
     have:=a4f (m:=m-1) (M:=M1) (by lia) h.E S hr g (h.gs g hg);simp[U,this]⟩)]
    rfl
   have al:=Rx (M:=M1) (soB s.es zs acts) s.gs;refine⟨s.gs.all (soB s.es zs acts),M1,by simp[-List.all_eq_true,Z,yw Z,U,t2,e2,w,z,G,c,al],R,?_⟩;exact⟨λa=>⟨S,q,a⟩,λx=>x.2.2⟩
def eq_nil(Z:List D):u9 M (.vl Z) (.vl [])=some Z.isEmpty:=by
 cases Z with
 |nil=>rfl|cons a l=>rfl
theorem agq:∀(l:X9)(a:Int),l.foldl (λm x=>if x<m then x else m) a<0↔a<0\/∃x∈l,x<0
 |[],a=>by simp
 |x::l,a=>by
  rw[Ad,agq l];constructor
  .rintro(h|⟨y,Z,G⟩)
   .split at h
    .exact .inr ⟨x,cz,h⟩
    .exact .inl h
   .exact .inr ⟨y,bh _ Z,G⟩
  .rintro(h|⟨y,Z,G⟩)
   .left;split<;>lia
   .rcases dh.mp Z with rfl|Z
    .left;split<;>lia
    .exact .inr ⟨y,Z,G⟩
def ax7(Z:(zs:X9)≠[]):∃v:Int,ph .min [zc zs] M=.ok (.int v) M/\(v<0↔∃z∈zs,z<0):=by
 cases zs with
 |nil=>exact absurd rfl Z
 |cons a l =>
  refine⟨l.foldl (λm x=>if x<m then x else m) a,?_,?_⟩
  .show Res.q8 (((X5 ((a::l).map D.int)).bind axl).map D.int) M=_
   rw[Z0];rfl
  .rw[agq];simp
noncomputable def isS:Gn->Bool
 |.same _ _=>true|.apart _=>false
def pD(p:List Nat×List Nat):D:=.tup [cj p.1,cj p.2]
def al7:PySem.Str.ofString "apart"≠PySem.Str.ofString "same" := by decide
structure Sp where
 a:List Nat
 b:List Nat
 y:D
def Sp.toD(s:Sp):D:=.tup [cj s.a,cj s.b,s.y]
def Sp.of(s:Sp)(h t:Y3):Prop:=s.a=h/\s.b=t\/s.b=h/\s.a=t
inductive G3(ss:List Sp)(a:Y3):List Nat->Prop
 |refl:G3 ss a a
 |step:G3 ss a b->s∈ss->s.of b c->G3 ss a c
theorem aeg{R:Type}[DecidableEq R]:∀{f S:List R},f.Nodup->(∀p∈f,p∈S)->f.length<=S.length
 |[],S,_,_=>ik _
 |a::f,S,nd,h=>by
  have Z:=kj.mp nd;have G:=h a cz;have:=aeg (f:=f) (S:=S.erase a) Z.2 (λp U=>(yz (λ(e:p=a)=>Z.1 (e▸U))).mpr (h p (bh _ U)));rw[List.length_erase_of_mem G] at this;have:=yj G;simp only[gj];lia
def ax8(h:M[p]?=some (.lst xs)):Xk M a (.ref p)=memD M a xs:=by simp[Xk,h,j7,fj]
def Jl.get(k:Jl r M Z)(G:a≠r)(h:M[a]?=some o):Z[a]?=some o:=k a o G h
theorem Z3:∀(l:Y3)(a:Nat),a<n->(∀x∈l,x<n)->Xm l a<n
 |[],a,h,_=>h
 |x::l,a,h,hl=>by
  show Xm l (if a<x then x else a)<n
  exact Z3 l _ (by have:=hl x cz;split<;>lia) (λy Z=>hl y (bh _ Z))
theorem Way.cons(W:Way es w)(Z:k<es.length)(e:(at_ es k).2=Aj es w):Way es (k::w):=by
 refine⟨by simp,λi G=>?_,?_⟩
 .rcases dh.mp G with rfl|h
  .exact Z
  .exact W.lt i h
 .cases w with
  |nil=>exact absurd rfl W.ne|cons b r=>exact⟨e,W.ch⟩
def ax9(h:w≠[]):hw (w++x)=hw w:=by
 cases w with
 |nil=>exact absurd rfl h|cons a l=>rfl
def Ir(h:w≠[]):Aj es (w++x)=Aj es w:=by rw[Aj,ax9 h,Aj]
def Qn(w:Y3)(k:Nat):yp es (w++[k])=(at_ es k).2:=by simp[yp,lw]
def Gq(h:w≠[]):yp es (k::w)=yp es w:=by
 cases w with
 |nil=>exact absurd rfl h|cons a l=>simp[yp,lw]
theorem N8.app(B:N8 es a b)(Z:k<es.length)(e:(at_ es k).1=yp es a):N8 es (a++[k]) (b++[k]) :=
 ⟨B.one.app Z e,B.two.app Z (e.trans B.go),by rw[Ir B.one.ne,Ir B.two.ne,B.st],by rw[Qn,Qn]⟩
theorem N8.cons(B:N8 es a b)(Z:k<es.length)(e:(at_ es k).2=Aj es a):N8 es (k::a) (k::b) :=
 ⟨B.one.cons Z e,B.two.cons Z (e.trans B.st),rfl,by rw[Gq B.one.ne,Gq B.two.ne,B.go]⟩
def G3.bes(h:G3 ss a b)(G:∀s∈ss,N8 es s.a s.b)(W:Way es a):N8 es a b:=by
 induction h with
 |refl=>exact⟨W,W,rfl,rfl⟩
 |step _ R U Z =>
  have B:=G _ R;rcases U with⟨rfl,rfl⟩|⟨rfl,rfl⟩
  .exact⟨W,B.two,Z.st.trans B.st,Z.go.trans B.go⟩
  .exact⟨W,B.one,Z.st.trans B.st.symm,Z.go.trans B.go.symm⟩
def aya(w:Y3)(k:Nat):lw (w++[k])=k:=by simp[lw]
def Way.off(W:Way es w)(Z:1<w.length):Way es w.dropLast/\yp es w.dropLast=(at_ es (lw w)).1/\Aj es w.dropLast=Aj es w:=by
 obtain⟨u,k,rfl⟩:∃u k,w=u++[k]:=⟨w.dropLast,w.getLast W.ne,(yh W.ne).symm⟩;have hu:u≠[]:=by rintro rfl;simp at Z
 rw[List.dropLast_concat,aya,Ir hu];exact⟨⟨hu,λi G=>W.lt i (ig _ G),W.ch.init⟩,(Ye.last hu W.ch).symm,rfl⟩
def Yj(w:Y3)(k:Nat)(Z:w.length<1000):Ax .add (.tup [.int k]) (cj w) M=.ok (cj (k::w)) M:=by rw[cj,Nq _ _ (by simp;lia)];simp[cj,nD]
def G3.trans(U:G3 ss a b)(Z:G3 ss b c):G3 ss a c:=by
 induction Z with
 |refl=>exact U|step _ R G ih=>exact .step ih R G
def G3.symm(h:G3 ss a b):G3 ss b a:=by
 induction h with
 |refl=>exact .refl
 |step _ R U ih =>
  refine G3.trans (.step .refl R ?_) ih;rcases U with⟨G,Z⟩|⟨G,Z⟩
  .exact .inr ⟨Z,G⟩
  .exact .inl ⟨Z,G⟩
def G3.more(h:G3 ss a b):G3 (ss++X) a b:=by
 induction h with
 |refl=>exact .refl|step _ Z U G=>exact .step G (ig _ Z) U
def Cv(G:List (List Nat))(Z:List Sp):Prop:=∃R:List (List Nat),(∀w∈G,∃r∈R,G3 Z w r)/\R.length+Z.length<=60
theorem Cv.step(C:Cv Z ss)(ha:x.a∈Z)(hb:x.b∈Z)(hn:¬G3 ss x.a x.b):Cv Z (ss++[x]):=by
 obtain⟨R,G,h2⟩:=C;obtain⟨U,a1,a2⟩:=G _ ha;obtain⟨rb,b1,b2⟩:=G _ hb;have ne:U≠rb:=by rintro rfl;exact hn (a2.trans b2.symm)
 refine⟨R.erase rb,λw hw=>?_,?_⟩
 .obtain⟨r,r1,r2⟩:=G w hw
  by_cases e:r=rb
  .subst e
   refine⟨U,(yz ne).mpr a1,?_⟩;have s1:G3 (ss++[x]) x.b x.a:=.step .refl (fu _ cz) (.inr ⟨rfl,rfl⟩);exact(r2.more.trans b2.symm.more).trans (s1.trans a2.more)
  .exact⟨r,(yz e).mpr r1,r2.more⟩
 .rw[List.length_erase_of_mem b1,gr]
  have:=yj b1
  simp;lia
def Cv.len(C:Cv Z ss):ss.length<=60:=by obtain⟨R,_,h⟩:=C;lia
abbrev Cs:=List (Ar×Nat)
noncomputable def kv(Z:Cs):List (List Kx×D):=Z.map λc=>([.inl (c.1.1:Int),.inl (c.1.2:Int)],.ref c.2)
noncomputable def up(Z:Nat->List (List Nat))(a:Nat)(w:Y3)(b:Nat):List (List Nat):=if b=a then Z a++[w] else Z b
noncomputable def Pg(G:Cs)(Z:Nat->List (List Nat)):Nat:=(G.map λc=>(Z c.2).length).sum
def al8{Z:Cs}(h:∀c∈Z,c.2≠a):Pg Z (up ct a w)=Pg Z ct:=by
 unfold Pg
 congr 1
 refine rn λc G=>?_
 simp[up,h c G]
theorem al9:∀{Z:Cs},(Z.map (·.2)).Nodup->Pg Z (up ct a w)<=Pg Z ct+1
 |[],_=>ik _
 |c::Z,nd=>by
  rw[dq] at nd;have G:=kj.mp nd
  by_cases e:c.2=a
  .have:Pg Z (up ct a w)=Pg Z ct:=al8 λx U q=>G.1 (by rw[e,<- q];exact di.mpr ⟨x,U,rfl⟩)
   show(up ct a w c.2).length+Pg Z (up ct a w)<=(ct c.2).length+Pg Z ct+1
   rw[this,e];simp[up];lia
  .have:=al9 (ct:=ct) (a:=a) (w:=w) G.2
   show(up ct a w c.2).length+Pg Z (up ct a w)<=(ct c.2).length+Pg Z ct+1
   rw[show up ct a w c.2=ct c.2 by simp[up,e]];lia
def ama{Z:Cs}:∀{c},c∈Z->(ct c.2).length<=Pg Z ct:=by
 induction Z with
 |nil=>intro c h;cases h
 |cons x l G =>
  intro c h;show _<=(ct x.2).length+Pg l ct
  rcases dh.mp h with rfl|h
  .lia
  .have:=G h;lia
def a4i(Z:Cs)(k:Ar):(∃c∈Z,c.1=k/\Eh (kv Z) [.inl (k.1:Int),.inl (k.2:Int)]=some (.ref c.2))\/Eh (kv Z) [.inl (k.1:Int),.inl (k.2:Int)]=none:=by
 induction Z with
 |nil=>exact .inr rfl
 |cons c Z ih =>
  by_cases e:c.1=k
  .subst e
   exact .inl ⟨c,cz,rfl,by simp[Eh,kv]⟩
  .have ne:¬((c.1.1:Int)=k.1/\(c.1.2:Int)=k.2):=λq=>e (Prod.ext (by have:=q.1;lia) (by have:=q.2;lia))
   have hk:Eh (kv (c::Z)) [.inl (k.1:Int),.inl (k.2:Int)]=Eh (kv Z) [.inl (k.1:Int),.inl (k.2:Int)]:=by
    have:¬((Sum.inl (c.1.1:Int):Kx)=.inl k.1/\(Sum.inl (c.1.2:Int):Kx)=.inl k.2):=λq=>ne ⟨Sum.inl.inj q.1,Sum.inl.inj q.2⟩
    have G:decide (([.inl (c.1.1:Int),.inl (c.1.2:Int)]:List Kx)=[.inl (k.1:Int),.inl (k.2:Int)])=false:=my λq=>this ⟨(Ab q).1,(Ab (Ab q).2).1⟩
    simp only[Eh,kv,dq,m7,G]
   rw[hk];rcases ih with⟨x,h1,U,R⟩|h
   .exact .inl ⟨x,bh _ h1,U,R⟩
   .exact .inr h
structure Rws(es:List Ar)(r q:Nat)(M M1:dj)(cs:Cs)(ct:Nat->List (List Nat))(n:Nat):Prop where
 g:M1[r]?=some (.dT (kv cs))
 c:∀c∈cs,q<c.2/\M1[c.2]?=some (.lst ((ct c.2).map cj))/\ct c.2≠[]/\∀w∈ct c.2,Way es w/\(Aj es w,yp es w)=c.1
 nd:(cs.map (·.2)).Nodup
 z:Pg cs ct<=n
 l:cs.length<=n
 ne:0<n->cs≠[]
 k:j8 M M1
noncomputable def xK:Ex:=.bm .append (.bm .setdefault (.v 1) (.p (.tup (.p (.ix (.ix (.v 0) (.ix (.v 2) (.i 0))) (.i 0)) (.ix (.ix (.v 0) (.ix (.v 2) (.neg (.i 1)))) (.i 1)))) (.lst .z))) (.o (.v 2))
def Rws.step{G:Cs}{ct:Nat->List (List Nat)}(hd:j7 Z d=some (es.map aD))(R:Rws es r q M Z G ct n)(hr:M.length<=r)(hq:r<q)(q0:q<Z.length)(W:Way es w)(hn:n<=60) :
 ∃(qv:Cs)(q1:Nat->List (List Nat))(M':dj),xK.den (PW m) [some d,sR r,some (cj w),b3,b4,b5] Z=.ok .non M'/\Rws es r q M M' qv q1 (n+1)/\∀a o,a<=q->a≠r->Z[a]?=some o->M'[a]?=some o:=by
 have kt:Px (.tup [.int (Aj es w),.int (yp es w)])=some [.inl (Aj es w:Int),.inl (yp es w:Int)]:=rfl;have e1:=V1 (M:=Z) W;have e2:=Qk (M:=Z) W;have e3:=Fq hd W.G9;have e4:=Fq hd W.Ql;have rl:=tu R.g;have r2:(Z++[.lst []])[r]?=some (.dT (kv G)):=Ba R.g;have qk:Lh .setdefault (.ref r) Z=true:=by simp[Lh,R.g]
 have qq:∀{v:D}{M2:dj},Fw .setdefault (.ref r) [.tup [.int (Aj es w),.int (yp es w)],.ref Z.length] (Z++[.lst []])=.ok v M2->Lh .append v M2=true->xK.den (PW m) [some d,sR r,some (cj w),b3,b4,b5] Z=Fw .append v [cj w] M2:=fun{v M2} U h2=>by simp[xK,qk,e1,e2,e3,e4,Hv,Mw,MW.new];rw[show(at_ es (hw w)).1=Aj es w from rfl,show(at_ es (lw w)).2=yp es w from rfl,U];simp[h2]
 rcases a4i G (Aj es w,yp es w) with⟨c,U,h2,h3⟩|h3
 .obtain⟨c1,c2,c3,c4⟩:=R.c c U
  have cl:=tu c2;have g2:(Z++[.lst []])[c.2]?=some (.lst ((ct c.2).map cj)):=Ba c2;have s1:Fw .setdefault (.ref r) [.tup [.int (Aj es w),.int (yp es w)],.ref Z.length] (Z++[.lst []])=.ok (.ref c.2) (Z++[.lst []]):=by simp only[Fw,onT,r2,kt];simp only at h3;simp only[h3]
  have zl:=ama (ct:=ct) U;have zn:=R.z;refine⟨G,up ct c.2 w,(Z++[MO.lst []]).set c.2 (.lst ((ct c.2++[w]).map cj)),?_,⟨?_,λx hx=>?_,R.nd,au (al9 R.nd) (by lia),by have:=R.l;lia,λ_ q=>by rw[q] at U;(cases U),j8.set (j8.trans R.k (j8.app _ _)) (by lia)⟩,λa o U h2 h=>?_⟩
  .rw[qq s1 (Lx g2),Ii g2 (by simp;lia)]
   simp
  .rw[jq (by lia)];exact r2
  .obtain⟨x1,x2,x3,x4⟩:=R.c x hx
   by_cases e:x.2=c.2
   .have ek:x.1=c.1:=by
     rw[e] at x3 x4;obtain⟨u,hu⟩:=List.exists_mem_of_ne_nil _ x3;rw[<- (x4 u hu).2,(c4 u hu).2]
    rw[e];refine⟨c1,by rw[o6 g2];simp[up],by simp[up],λu hu=>?_⟩;have hu:u∈ct c.2++[w]:=by simpa[up] using hu
    rcases bx.mp hu with q|q
    .rw[ek];exact c4 u q
    .simp at q;subst q;exact⟨W,by rw[ek,h2]⟩
   .have:up ct c.2 w x.2=ct x.2:=by simp[up,e]
    rw[this];exact⟨x1,by rw[jq (jy e)];exact Ba x2,x3,x4⟩
  .rw[jq (by lia)];exact Ba h
 .have fr:∀c∈G,c.2≠Z.length:=λc hc=>by have:=tu (R.c c hc).2.1;lia
  have s1:Fw .setdefault (.ref r) [.tup [.int (Aj es w),.int (yp es w)],.ref Z.length] (Z++[.lst []])=.ok (.ref Z.length) ((Z++[MO.lst []]).set r (.dT (kv (G++[((Aj es w,yp es w),Z.length)])))):=by
   have hl:(kv G).length<100000:=by have:=R.l;simp[kv];lia
   simp only[Fw,onT,r2,kt];simp only at h3;simp only[h3,hl,km];simp[kv]
  have g3:((Z++[MO.lst []]).set r (.dT (kv (G++[((Aj es w,yp es w),Z.length)]))))[Z.length]?=some (.lst []):=by rw[jq (by lia)];exact zx
  have same:Pg G (λb=>if b=Z.length then[w] else ct b)=Pg G ct:=by
   unfold Pg
   congr 1
   exact rn λc hc=>by simp[fr c hc]
  have zn:=R.z;refine⟨G++[((Aj es w,yp es w),Z.length)],λb=>if b=Z.length then[w] else ct b,((Z++[MO.lst []]).set r (.dT (kv (G++[((Aj es w,yp es w),Z.length)])))).set Z.length (.lst [cj w]),?_,⟨?_,λx hx=>?_,?_,?_,by have:=R.l;simp;lia,λ_=>by simp,j8.set (j8.set (j8.trans R.k (j8.app _ _)) hr) (by lia)⟩,λa o U h2 h=>?_⟩
  .rw[qq s1 (Lx g3),Ii g3 (by simp)]
   simp
  .rw[jq (by lia)];exact o6 r2
  .rcases bx.mp hx with q|q
   .obtain⟨x1,x2,x3,x4⟩:=R.c x q
    simp only[fr x q,jt];exact⟨x1,by rw[jq (jy (fr x q)),jq (by lia)];exact Ba x2,x3,x4⟩
   .simp at q;subst q
    simp only[km];exact⟨q0,by rw[o6 g3];rfl,by simp,λu hu=>by simp at hu;subst hu;exact⟨W,rfl⟩⟩
  .rw[gf,oh]
   refine⟨R.nd,by simp,λa ha b hb=>?_⟩;simp at hb;subst hb;obtain⟨x,hx,rfl⟩:=di.mp ha;exact fr x hx
  .have:Pg (G++[((Aj es w,yp es w),Z.length)]) (λb=>if b=Z.length then[w] else ct b)=Pg G (λb=>if b=Z.length then[w] else ct b)+1:=by simp[Pg]
   rw[this,same];lia
  .rw[jq (by lia),jq (jy h2)];exact Ba h
def al2(hm:1<=m)(E:Ends es V)(hd:j7 M d=some (es.map aD))(hr:M[r]?=some (.dT []))(hM:j8 M0 M)(h0:M0.length<=r)(qv:j7 M0 d=some (es.map aD)) :
 ∃b2 U G M',Dj.den (PW m) [some d,sR r,none,none,none,none] M=.ok (.next,[some d,sR r,b2,none,none,none]) M'/\Rws es r M.length M0 M' U G 60:=by
 unfold Dj;refine hG λ_ _k=>?_
 obtain⟨ws,M1,e1,g1,L,k1⟩:=Zw (m:=m) (M:=M) (d:=d) hm E hd;have rl:=tu hr;have fw:=L.few;obtain⟨q1,M',e,b2,U,G,rfl,R,-,-⟩:=zy (W:=PW m) (it:=.call 32 (.o (.v 0))) (t:=.name 2) (b:=Gz) (ρ:=[some d,sR r,none,none,none,none]) (M:=M) (M1:=M1) (d:=.ref M.length) (by simp[e1]) (jd g1)
  (λi ρ Z=>∃(b2:Option D)(U:Cs)(G:Nat->List (List Nat)),ρ=[some d,sR r,b2,none,none,none]/\Rws es r M.length M0 Z U G i/\Z[M.length]?=some (.lst (ws.map cj))/\j7 Z d=some (es.map aD))
  ⟨none,[],λ_=>[],rfl,⟨k1 _ _ hr,by simp,by simp,ik _,ik _,λh=>absurd h (qj _),hM.trans k1⟩,g1,j8.j7 k1 hd⟩
  (λi ρ Z h=>by obtain⟨_,_,_,_,_,g,_⟩:=h;exact jd g)
  (λi z ρ Z hz hI=>by
   refine hG λ_ _k=>?_
   obtain⟨b2,U,G,rfl,R,g,qk⟩:=hI;obtain⟨w,hi,rfl⟩:∃w,ws[i]?=some w/\cj w=z:=by simpa using hz
   have il:=(ak.mp hi).1;obtain⟨qq,q0,M3,e3,R3,k3⟩:=R.step (m:=m) (b3:=none) (b4:=none) (b5:=none) qk h0 rl (tu g) (L.way w (bc hi)) (by lia);apply _k;refine⟨_,.next,[some d,sR r,some (cj w),none,none,none],M3,rfl,?_,.inl rfl,_,qq,q0,rfl,R3,k3 _ _ (bf _) (by lia) g,j8.j7 R3.k qv⟩;have e4:(Al.expr xK).den (PW m) [some d,sR r,some (cj w),none,none,none] Z=.ok (.next,[some d,sR r,some (cj w),none,none,none]) M3:=by rw[Zn,e3];rfl
   show(mj.o (.expr xK)).den (PW m) [some d,sR r,some (cj w),none,none,none] Z=_;rw[wj,e4];rfl)
 rw[bu] at R;apply _k;refine⟨b2,U,G,M',e,R.g,R.c,R.nd,au R.z fw,au R.l fw,λ_=>R.ne ?_,R.k⟩;have:=L.one 0 (by have:=E.pos;lia);exact yj this
structure Prs(es:List Ar)(p:Nat)(M M1:dj)(L:List (List Nat×List Nat))(n:Nat):Prop where
 g:M1[p]?=some (.lst (L.map pD))
 b:∀x∈L,N8 es x.1 x.2
 l:L.length<=n
 k:j8 M M1
abbrev EA(d:D)(r p:Nat)(b2 b4 b5:Option D):Env:=[some d,sR r,b2,sR p,b4,b5]
def al1{l:List (List Nat)}(hl:l.length<=60)(qk:l≠[])(hb:∀w∈l,Way es w/\(Aj es w,yp es w)=c)(ha:U[a]?=some (.lst (l.map cj)))(qq:a≠p)(hp:M.length<=p)(P:Prs es p M U L n)(hn:n<=3600) :
 ∃R Z M',Dg.den (PW m) (EA d r p b2 (sR a) b5) U=.ok (.next,EA d r p b2 (sR a) R) M'/\Prs es p M M' Z (n+60*l.length)/\Z≠[]/\Jl p U M':=by
 unfold Dg;refine hG λ_ _k=>?_
 obtain⟨qv,M',e,R,Z,rfl,G,k',h'⟩:=zy (W:=PW m) (it:=.v 4) (t:=.name 5) (b:=Bb) (ρ:=EA d r p b2 (sR a) b5) (M:=U) (M1:=U) (d:=.ref a) rfl (jd ha)
  (λi ρ M2=>∃(R:Option D)(Z:List (List Nat×List Nat)),ρ=EA d r p b2 (sR a) R/\Prs es p M M2 Z (n+60*i)/\Jl p U M2/\(0<i->Z≠[]))
  ⟨b5,L,rfl,P,Jl.refl _ _,λh=>absurd h (qj _)⟩
  (λi ρ M2 h=>by obtain⟨_,_,_,_,k,_⟩:=h;exact jd (k _ _ qq ha))
  (λi z ρ M2 hz hI=>by
   refine hG λ_ _k=>?_
   obtain⟨R,Z,rfl,G,k',h'⟩:=hI;obtain⟨w,hi,rfl⟩:∃w,l[i]?=some w/\cj w=z:=by simpa using hz
   have il:=(ak.mp hi).1;have a2:=k' _ _ qq ha;obtain⟨Ww,cw⟩:=hb w (bc hi);have c1:Df.den (PW m) (EA d r p b2 (sR a) (some (cj w))) M2=.ok (.vl ((l.map λu=>(w,u)).map pD)) M2:=by unfold Df;rw[Bv (d:=.ref a) (M1:=M2) (xs:=l) (f:=cj) (g:=λu=>pD (w,u)) rfl (Ci (jd a2)) (by lia) (λu hu=>⟨_,rfl,by simp[pD]⟩)];simp[ir,jb]
   have lp:=G.l;apply _k;refine⟨_,.next,EA d r p b2 (sR a) (some (cj w)),M2.set p (.lst ((Z++l.map λu=>(w,u)).map pD)),rfl,?_,.inl rfl,_,Z++l.map λu=>(w,u),rfl,⟨o6 G.g,λx hx=>?_,by simp;lia,j8.set G.k hp⟩,k'.trans (Jl.set _ _ _),λ_=>by simp[qk]⟩
   .show Bb.den (PW m) (EA d r p b2 (sR a) (some (cj w))) M2=_
    simp only[Bb];simp[-List.map_map,Ku G.g,c1,Ru G.g (ys:=(l.map λu=>(w,u)).map pD) (by simp;lia)]
   .rcases bx.mp hx with q|q
    .exact G.b x q
    .obtain⟨u,hu,rfl⟩:=di.mp q
     obtain⟨Wu,cu⟩:=hb u hu;have:=cw.trans cu.symm;exact⟨Ww,Wu,(Prod.ext_iff.mp this).1,(Prod.ext_iff.mp this).2⟩)
 rw[bu] at G h';apply _k;exact⟨R,Z,M',e,G,h' (jn.mpr qk),k'⟩
def amb(hm:2<=m)(E:Ends es V)(hd:j7 M d=some (es.map aD)) :
 ∃p L M',prog.call m 33 [d] M=.ok (.ref p) M'/\M.length<=p/\Prs es p M M' L 3600/\L≠[]:=by
 rw[call_of (au (by decide) hm) rfl];refine hG λ_ _k=>?_
 obtain⟨b2,Z,ct,G,e1,R⟩:=al2 (m:=m-1) (M:=M++[.dT []]) (r:=M.length) (M0:=M) (by lia) E (j8.j7 (j8.app _ _) hd) zx (j8.app _ _) (bf _) hd;have rl:=tu R.g;have q0:=R.z;have lp:∃b4 U L M',Di.den (PW (m-1)) (EA d M.length G.length b2 none none) (G++[.lst []])=.ok (.next,EA d M.length G.length b2 b4 U) M'/\Prs es G.length M M' L 3600/\L≠[]:=by
  unfold Di;refine hG λ_ _k=>?_
  have qv:(G++[.lst []])[M.length]?=some (.dT (kv Z)):=Ba R.g;obtain⟨q1,M',e,b4,U,L,rfl,P,Pb,-⟩:=axy (W:=PW (m-1)) (it:=.vals (.v 1)) (t:=.name 4) (b:=Dh) (ρ:=EA d M.length G.length b2 none none) (M:=G++[.lst []]) (M1:=(G++[MO.lst []]).set M.length (.dF (kv Z))) (s:=.con (Z.map λc=>.ref c.2)) (n:=Z.length)
   (by
    have:af0 (.ref M.length) (G++[.lst []])=.ok (.con (Z.map λc=>.ref c.2)) ((G++[MO.lst []]).set M.length (.dF (kv Z))):=by simp only[af0,qv];simp[kv,ir,jb]
    rw[abj,ale];exact this) (by simp[Src.len])
   (λi ρ M2=>∃(b4 U:Option D)(L:List (List Nat×List Nat)),ρ=EA d M.length G.length b2 b4 U/\Prs es G.length M M2 L (60*Pg (Z.take i) ct)/\(0<i->L≠[])/\∀c∈Z,M2[c.2]?=some (.lst ((ct c.2).map cj)))
   ⟨none,none,[],rfl,⟨by rw[jq (by lia)];exact zx,by simp,ik _,j8.set (j8.trans R.k (j8.app _ _)) (bf _)⟩,λh=>absurd h (qj _),λc hc=>by
    have:=(R.c c hc).1;rw[jq (by simp at this;lia)];exact Ba (R.c c hc).2.1⟩ (λ_ _ _=>rfl)
   (λi ρ M2 hi hI=>by
    refine hG λ_ _k=>?_
    obtain⟨b4,U,L,rfl,P,Pb,hc⟩:=hI;obtain⟨c,qk⟩:∃c,Z[i]?=some c:=⟨_,du hi⟩;have qq:=bc qk;obtain⟨c1,c2,c3,c4⟩:=R.c c qq;have cl:=ama (ct:=ct) qq;have tk:Pg (Z.take (i+1)) ct=Pg (Z.take i) ct+(ct c.2).length:=by rw[m5,qk];simp[Pg]
    have tl:Pg (Z.take (i+1)) ct<=Pg Z ct:=by
     have:Pg Z ct=Pg (Z.take (i+1)) ct+Pg (Z.drop (i+1)) ct:=by
      conv=>lhs;rw[<- t7 (i+1) Z]
      unfold Pg;rw[gf,Ag]
     lia
    apply _k;have cne:∀x∈Z,x.2≠G.length:=λx hx=>by have:=tu (R.c x hx).2.1;lia
    obtain⟨V6,L',M3,e3,P3,n3,k3⟩:=al1 (m:=m-1) (d:=d) (r:=M.length) (b2:=b2) (b5:=U) (l:=ct c.2) (by lia) c3 c4 (hc c qq) (cne c qq) (tu R.g |> λh=>by lia) P (by lia);refine⟨.ref c.2,EA d M.length G.length b2 (sR c.2) U,by simp[Src.item,qk],rfl,EA d M.length G.length b2 (sR c.2) V6,M3,?_,_,V6,L',rfl,⟨P3.g,P3.b,by have:=P3.l;rw[tk];lia,P3.k⟩,λ_=>n3,λx hx=>k3 _ _ (cne x hx) (hc x hx)⟩;simp only[Dh];simp[e3])
  apply _k;exact⟨b4,U,L,M',e,⟨P.g,P.b,by have:=P.l;rw[qd] at this;lia,P.k⟩,Pb (jn.mpr (R.ne (by decide)))⟩
 obtain⟨b4,U,L,M',e,P,Pb⟩:=lp;apply _k;refine⟨G.length,L,M',?_,by lia,P,Pb⟩;simp only[Fn.run,Im,Il];simp[MW.new,e1,e]
def Nu(R:1<=es.length)(G:es.length<=10)(Z:∀e∈es,(e:Ar).1<=7/\e.2<=7)(h4:∀v,v<8->((nxt es v).map λk=>1+V (at_ es k).2).sum<=V v)(U:((List.range es.length).map λk=>1+V (at_ es k).2).sum<=60):Ends es V :=
 ⟨⟨R,G,Z,λv=>by
  rcases ju v 8 with h|h
  .exact h4 v h
  .have:nxt es v=[]:=xf.mpr λk hk=>by
    obtain⟨q1,q2⟩:=Ip.mp hk;have:=(Z _ (Jf q1)).1
    lia
   rw[this];exact ik _⟩,U⟩
noncomputable def Vk(l:Y3)(v:Nat):Nat:=l.getD v 0
noncomputable def kn:List (List Ar):=[[(0,1),(0,1),(1,2)],[(0,1),(1,2),(0,2),(2,3)],[(0,1),(0,2),(1,3),(2,3),(3,4)],[(0,1),(1,2),(0,3),(3,4),(1,4),(2,5),(4,5)],[(3,1),(3,1),(1,0),(1,0),(0,2)]]
def ar3(h:es∈kn):∃V,Ends es V:=by
 simp only[kn,dh,yg,or_false] at h;rcases h with rfl|rfl|rfl|rfl|rfl
 .exact⟨Vk [4,1],Nu (by decide) (by decide) (by decide) (by decide+kernel) (by decide+kernel)⟩
 .exact⟨Vk [5,2,1],Nu (by decide) (by decide) (by decide) (by decide+kernel) (by decide+kernel)⟩
 .exact⟨Vk [6,2,2,1],Nu (by decide) (by decide) (by decide) (by decide+kernel) (by decide+kernel)⟩
 .exact⟨Vk [8,4,1,2,1],Nu (by decide) (by decide) (by decide) (by decide+kernel) (by decide+kernel)⟩
 .exact⟨Vk [1,4,0,10],Nu (by decide) (by decide) (by decide) (by decide+kernel) (by decide+kernel)⟩
structure Rnd(es:List Ar):Prop where
 r:∀e∈es,e.1<=3/\e.1<e.2/\e.2<=6
noncomputable def cn(Z:List Ar)(v:Nat):Nat:=(Z.filter λe=>decide (e.1=v)).length
def Pr(Z:List Ar):Nat->Nat
 |0=>(1+cn Z 0)*((1+cn Z 1)*((1+cn Z 2)*(1+cn Z 3)))|1=>(1+cn Z 1)*((1+cn Z 2)*(1+cn Z 3))|2=>(1+cn Z 2)*(1+cn Z 3)|3=>1+cn Z 3|_=>1
def amd(es:List Ar):(List.range es.length).map (at_ es)=es:=by
 refine List.ext_getElem? λi=>?_
 rcases ju i es.length with h|h
 .simp[h,Om]
  have:=Om h;rw[du h] at this;exact(iu this).symm
 .simp[h]
def ayb(Z:List Ar)(v:Nat):(nxt Z v).length=cn Z v:=by
 have:(Z.filter λe=>decide (e.1=v))=(nxt Z v).map (at_ Z):=by
  conv=>lhs;rw[<- amd Z]
  rw[List.filter_map];rfl
 rw[cn,this,bu]
theorem ame{f:Nat->Nat}:∀{l:Y3},(∀k∈l,f k<=b)->(l.map f).sum<=l.length*b
 |[],_=>by simp
 |a::l,h=>by
  have:=ame (l:=l) λk Z=>h k (bh _ Z)
  have:=h a cz;simp[Nat.add_mul];lia
def Ff{a b c:Nat}(h:c<=b):c<=(1+a)*b:=by
 have:b<=(1+a)*b:=by rw[Nat.add_mul];lia
 lia
theorem amf(Z:List Ar):∀v,1<=Pr Z v
 |0=>Ff (Ff (Ff (by lia)))|1=>Ff (Ff (by lia))|2=>Ff (by lia)|3=>by show 1<=1+cn Z 3;lia
 |_+4=>bf _
theorem ar4(Z:List Ar):∀v,Pr Z (v+1)<=Pr Z v
 |0=>Ff (bf _)|1=>Ff (bf _)|2=>Ff (bf _)|3=>amf Z 3|_+4=>bf _
theorem Z4(Z:List Ar):∀{u v:Nat},v<=u->Pr Z u<=Pr Z v
 |0,v,h=>by rw[Nat.le_zero.mp h];exact bf _
 |u+1,v,h=>by
  rcases ju v (u+1) with q|q
  .exact au (ar4 Z u) (Z4 Z (by lia))
  .have:v=u+1:=by lia
   rw[this];exact bf _
theorem ayc(Z:List Ar):∀{v:Nat},v<=3->Pr Z v=(1+cn Z v)*Pr Z (v+1)
 |0,_=>rfl|1,_=>rfl|2,_=>rfl|3,_=>(Nat.mul_one _).symm
theorem aeh:∀{es:List Ar},Rnd es->∀f:Nat->Nat,(es.map λe=>f e.1).sum=cn es 0*f 0+cn es 1*f 1+cn es 2*f 2+cn es 3*f 3
 |[],_,f=>by simp[cn]
 |e::es,R,f=>by
  have G:=aeh (es:=es) ⟨λx Z=>R.r x (bh _ Z)⟩ f;have h:=(R.r e cz).1;have c:∀v,cn (e::es) v=cn es v+if e.1=v then 1 else 0:=λv=>by
   unfold cn
   by_cases q:e.1=v<;>simp[q]
  rw[dq,List.sum_cons,G,c,c,c,c];have:e.1=0\/e.1=1\/e.1=2\/e.1=3:=by lia
  rcases this with q|q|q|q<;>simp[q,Nat.add_mul]<;>lia
theorem agr:∀l:List Ar,(l.map λ_=>1).sum=l.length
 |[]=>rfl|_::l=>by rw[dq,List.sum_cons,agr l,gj];lia
def four:∀a,a<7->∀b,b<7->∀c,c<7->∀d,d<7->a+b+c+d<=6->a*((1+b)*((1+c)*(1+d)))+b*((1+c)*(1+d))+c*(1+d)+d<=60:=by decide+kernel
def amg(R:Rnd es)(h1:1<=es.length)(h2:es.length<=6):Ends es λv=>Pr es v-1:=by
 have pp:=amf es;have pe:∀v,1+(Pr es v-1)=Pr es v:=λv=>by have:=pp v;lia
 refine⟨⟨h1,by lia,λe Z=>by have:=R.r e Z;lia,λv=>?_⟩,?_⟩
 .simp only[pe]
  rcases ju 3 v with h|h
  .have:nxt es v=[]:=xf.mpr λk G=>by
    obtain⟨U,q2⟩:=Ip.mp G;have:=(R.r _ (Jf U)).1
    lia
   rw[this];exact ik _
  .have:=ame (f:=λk=>Pr es (at_ es k).2) (b:=Pr es (v+1)) (l:=nxt es v) λk G=>by
    obtain⟨U,q2⟩:=Ip.mp G;have:=(R.r _ (Jf U)).2.1;exact Z4 es (by lia)
   rw[ayb] at this;have e:=ayc es h;rw[Nat.add_mul,Nat.one_mul] at e;have:=pp (v+1)
   lia
 .simp only[pe]
  have a:((List.range es.length).map λk=>Pr es (at_ es k).2).sum=(es.map λe=>Pr es e.2).sum:=by have:=o9 (List.map λe=>Pr es e.2) (amd es);rw[ir] at this;exact o9 List.sum this
  have b:∀l:List Ar,(∀e∈l,e∈es)->(l.map λe=>Pr es e.2).sum<=(l.map λe=>Pr es (e.1+1)).sum:=by
   intro l
   induction l with
   |nil=>intro _;simp
   |cons x l ih =>
    intro h;have:=ih λe Z=>h e (bh _ Z)
    have:=Z4 es (show x.1+1<=x.2 from(R.r x (h x cz)).2.1)
    simp;lia
  have c:(es.map λe=>Pr es (e.1+1)).sum=cn es 0*Pr es 1+cn es 1*Pr es 2+cn es 2*Pr es 3+cn es 3*Pr es 4:=aeh R λv=>Pr es (v+1)
  have d:=aeh R λ_=>1
  rw[agr] at d;simp only[Nat.mul_one] at d;have:=b es λ_ h=>h
  rw[a];have g:=four (cn es 0) (by lia) (cn es 1) (by lia) (cn es 2) (by lia) (cn es 3) (by lia) (by lia);rw[c,show Pr es 1=(1+cn es 1)*((1+cn es 2)*(1+cn es 3)) from rfl,show Pr es 2=(1+cn es 2)*(1+cn es 3) from rfl,show Pr es 3=1+cn es 3 from rfl,show Pr es 4=1 from rfl,Nat.mul_one] at this;exact au this g
def Has.lt(h:Has t f M):t<M.length:=by obtain⟨n,h,_⟩:=h;exact tu h
theorem St.set(S:St t f M U)(hp:M.length<=p)(R:t<M.length):St t f M (U.set p o):=by obtain⟨n,h,Z⟩:=S.has;exact⟨by simpa using S.len,⟨n,by rw[jq (by lia)];exact h,Z⟩,λa u G e=>by rw[jq (by have:=tu e;lia)];exact S.keep a u G e⟩
def St.keep'(S:St t f M Z)(k:j8 Z M2):St t f M M2:=S.trans (.of S.has k)
theorem St.refl(h:Has t f M):St t f M M:=.of h (j8.refl M)
abbrev EY(t:Nat)(b1 b2 b3 b4 b5 b6 b7 b8:Option D):Env:=[sR t,b1,b2,b3,b4,b5,b6,b7,b8]
theorem a4k(M:dj):∀{v:Nat},v<4->∃z:Nat,vh (.vl [.int 1,.int 1,.int 2,.int 3]) (.int v) M=some (.int z)/\1<=z/\z<=3
 |0,_=>⟨1,rfl,by decide,by decide⟩|1,_=>⟨1,rfl,by decide,by decide⟩|2,_=>⟨2,rfl,by decide,by decide⟩|3,_=>⟨3,rfl,by decide,by decide⟩
def sy1(hm:1<=m)(hs:Has t f M)(hp:M1[p]?=some (.lst []))(S:St t f M M1)(hl:M.length<=p) :
 ∃Z U G M',Dz.den (PW m) (EY t (sR p) none none none none none none none) M1=.ok (.next,EY t (sR p) U G none none none none none) M'/\M'[p]?=some (.lst (Z.map aD))/\Rnd Z/\1<=Z.length/\Z.length<=6/\St t f M M':=by
 unfold Dz;refine hG λ_ _k=>?_
 obtain⟨v,M2,e2,hv,s2,l2⟩:=wu (m:=m) (many:=6) hm S.has (by decide) (by decide);have tl:=hs.lt;obtain⟨qq,M',e,Z,U,G,rfl,g1,g2,g3,g4⟩:=Bh (W:=PW m) (n:=1+v) (M1:=M2) (t:=.name 2) (b:=Dy) (ρ:=EY t (sR p) none none none none none none none) (M:=M1) (it:=.bin .add (.i 1) (.call 2 (.p (.v 0) (.i 6)))) (by
  simp[e2]) (by lia) (λi ρ R=>∃(Z:List Ar)(U G:Option D),ρ=EY t (sR p) U G none none none none none/\R[p]?=some (.lst (Z.map aD))/\Rnd Z/\Z.length=i/\St t f M R) ⟨[],none,none,rfl,s2.keep _ _ (by lia) hp,⟨by simp⟩,rfl,S.trans s2⟩ (λi ρ R hi hI=>by
  refine hG λ_ _k=>?_
  obtain⟨Z,U,G,rfl,g1,g2,g3,g4⟩:=hI;obtain⟨a,M4,e4,h4,s4,_⟩:=wu (m:=m) (many:=4) hm g4.has (by decide) (by decide);obtain⟨c,M5,e5,h5,s5,_⟩:=wu (m:=m) (many:=4) hm s4.has (by decide) (by decide);obtain⟨z,e6,z1,z2⟩:=a4k M5 (v:=c) (by lia);obtain⟨x,M7,e7,h7,s7,_⟩:=wu (m:=m) (many:=z) hm s5.has (by lia) (by lia);have S7:St t f M M7:=((g4.trans s4).trans s5).trans s7;have p4:M4[p]?=some (.lst (Z.map aD)):=s4.keep _ _ (by lia) g1;have p7:M7[p]?=some (.lst (Z.map aD)):=s7.keep _ _ (by lia) (s5.keep _ _ (by lia) p4);have ei:((a:Int)+1+(x:Int))=((a+1+x:Nat):Int):=by lia
  apply _k;refine⟨_,.next,EY t (sR p) (sI i) (sI a) none none none none none,M7.set p (.lst ((Z++[(a,a+1+x)]).map aD)),rfl,?_,.inl rfl,Z++[(a,a+1+x)],_,_,rfl,o6 p7,⟨λe he=>?_⟩,by simp;lia,S7.set hl tl⟩
  .show Dy.den (PW m) (EY t (sR p) (sI i) G none none none none none) R=_
   simp only[Dy];simp[e4,Lx p4,e5,e6,e7,Ii p7 (d:=.tup [.int (a:Int),.int ((a:Int)+1+(x:Int))]) (by simp;lia),aD]
  .rcases bx.mp he with q|q
   .exact g2.r e q
   .simp at q;subst q
    exact⟨by show a<=3;lia,by show a<a+1+x;lia,by show a+1+x<=6;lia⟩)
 apply _k;exact⟨Z,U,G,M',e,g1,g2,by lia,by lia,g4⟩
def sy2(hm:1<=m)(S:St t f M G)(tl:t<M.length)(hd:∀M2,St t f M M2->j7 M2 d=some (es.map aD))(E:Ends es V) :
 ∃(Z:List Gn)(U:dj),Dw.den (PW m) (EY t (some d) b2 b3 b4 b5 none none none) G=.ok (.ref U.length) (U++[.lst (Z.map Gn.toD)])/\(∀g∈Z,Gd es g)/\Z.length<=3/\St t f M U/\G.length<=U.length/\(∀a o,a≠t->G[a]?=some o->U[a]?=some o):=by
 unfold Dw;refine hG λ_ _k=>?_
 obtain⟨v,M2,e2,hv,s2,l2⟩:=wu (m:=m) (many:=4) hm S.has (by decide) (by decide);have hf:=E.few;have hp:=E.pos;obtain⟨ys,U,e,Z,rfl,h1,h2,R,h4,h5⟩:=Jx (W:=PW m) (v:=false) (k:=1) (n:=v) (M1:=M2) (t:=.name 9) (e:=.tup (.p (.cst (.str (PySem.Str.ofString "apart"))) (.call 2 (.p (.v 0) (.l (.v 1)))))) (ρ:=EY t (some d) b2 b3 b4 b5 none none none) (M:=G) (it:=.call 2 (.p (.v 0) (.i 4))) (by simp[e2]) (by lia)
  (λi xs M3=>∃Z:List Gn,xs=Z.map Gn.toD/\(∀g∈Z,Gd es g)/\Z.length=i/\St t f M M3/\G.length<=M3.length/\(∀a o,a≠t->G[a]?=some o->M3[a]?=some o)) ⟨[],rfl,by simp,rfl,S.trans s2,s2.len,s2.keep⟩ (λi xs M3 hi hI=>by
   refine hG λ_ _k=>?_
   obtain⟨Z,rfl,h1,h2,R,h4,h5⟩:=hI;have ll:=Ha (hd M3 R);rw[bu] at ll;obtain⟨k,M4,e4,hk,s4,_⟩:=wu (m:=m) (many:=es.length) hm R.has (by lia) (by lia);apply _k;refine⟨_,Gn.toD (.apart k),M4,rfl,?_,Z++[.apart k],by simp,λg hg=>?_,by simp;lia,R.trans s4,au h4 s4.len,λa o n h=>s4.keep a o n (h5 a o n h)⟩
   .simp[ll,e4,Gn.toD]
   .rcases bx.mp hg with q|q
    .exact h1 g q
    .simp at q;subst q;exact Int.ofNat_lt.mp hk)
 apply _k;exact⟨Z,U,e,h1,by lia,R,h4,h5⟩
def amh(x:List Nat×List Nat):Ax .add (.tup [.str (PySem.Str.ofString "same")]) (pD x) M=.ok (Gn.toD (.same x.1 x.2)) M:=by rw[pD,Nq _ _ (by simp)];rfl
def sy0{gs:List Gn}(hm:1<=m)(S:St t f M U)(tl:t<M.length)(hg:U[g]?=some (.lst (gs.map Gn.toD)))(qk:p≠g)(qq:M.length<=g)(K5:M.length<=p)(hp:U[p]?=some (.lst ((L:List (List Nat×List Nat)).map pD)))(hb:∀x∈L,N8 es x.1 x.2)(hl:L.length<=3600)(Pb:L≠[])(qv:∀g∈gs,Gd es g)(q1:gs.length<=3) :
 ∃(Z:List Gn)(G:Option D)(M':dj),Du.den (PW m) (EY t b1 b2 b3 b4 (sR p) (sR g) none none) U=.ok (.next,EY t b1 G b3 b4 (sR p) (sR g) none none) M'/\M'[g]?=some (.lst (Z.map Gn.toD))/\M'[p]?=some (.lst (L.map pD))/\(∀g∈Z,Gd es g)/\Z.length<=6/\St t f M M':=by
 unfold Du;refine hG λ_ _k=>?_
 obtain⟨v,M2,e2,hv,s2,l2⟩:=wu (m:=m) (many:=4) hm S.has (by decide) (by decide);have lp:0<L.length:=jn.mpr Pb
 obtain⟨q0,M',e,Z,G,rfl,h1,h2,h3,h4,h5⟩:=Bh (W:=PW m) (n:=v) (M1:=M2) (t:=.name 2) (b:=Dt) (ρ:=EY t b1 b2 b3 b4 (sR p) (sR g) none none) (M:=U) (it:=.call 2 (.p (.v 0) (.i 4))) (by simp[e2]) (by lia)
  (λi ρ R=>∃(Z:List Gn)(G:Option D),ρ=EY t b1 G b3 b4 (sR p) (sR g) none none/\R[g]?=some (.lst (Z.map Gn.toD))/\R[p]?=some (.lst (L.map pD))/\(∀g∈Z,Gd es g)/\Z.length<=3+i/\St t f M R) ⟨gs,b2,rfl,s2.keep _ _ (by lia) hg,s2.keep _ _ (by lia) hp,qv,by lia,S.trans s2⟩ (λi ρ R hi hI=>by
   refine hG λ_ _k=>?_
   obtain⟨Z,G,rfl,h1,h2,h3,h4,h5⟩:=hI;obtain⟨k,M4,e4,hk,s4,_⟩:=wu (m:=m) (many:=L.length) hm h5.has (by lia) (by lia);have ll:=len_list (jd h2);rw[bu] at ll;have g4:=s4.keep _ _ (show g≠t by lia) h1;have p4:=s4.keep _ _ (show p≠t by lia) h2;obtain⟨x,hx⟩:∃x,L[k]?=some x:=⟨_,du (by lia)⟩;have ix:vh (.ref p) (.int k) M4=some (pD x):=zu (jd p4) (gq _) (by simp[hx]);apply _k;refine⟨_,.next,EY t b1 (sI i) b3 b4 (sR p) (sR g) none none,M4.set g (.lst ((Z++[Gn.same x.1 x.2]).map Gn.toD)),rfl,?_,.inl rfl,Z++[Gn.same x.1 x.2],_,rfl,o6 g4,by rw[jq (jy qk)];exact p4,λy hy=>?_,by simp;lia,(h5.trans s4).set qq tl⟩
   .show Dt.den (PW m) (EY t b1 (sI i) b3 b4 (sR p) (sR g) none none) R=_
    simp only[Dt];simp[Lx h1,ll,e4,ix,amh,Ii g4 (d:=Gn.toD (.same x.1 x.2)) (by simp;lia)]
   .rcases bx.mp hy with q|q
    .exact h3 y q
    .simp at q;subst q;exact hb x (bc hx))
 apply _k;exact⟨Z,G,M',e,h1,h2,h3,by lia,h5⟩
def ajb(Z:List D)(n:Nat):Oz Z (some (n:Int)) none=Z.drop n:=by
 simp only[Oz,clip];rw[cg (by lia),jk,yl (by simp)];rcases Nat.le_total n Z.length with h|h
 .rw[Nat.min_eq_left h]
 .rw[Nat.min_eq_right h,List.drop_length,List.drop_of_length_le h]
def ar5(Z:List D)(n:Nat):Oz Z none (some (n:Int))=Z.take n:=by
 simp only[Oz,clip,List.drop_zero,Nat.sub_zero];rw[cg (by lia),jk];rcases Nat.le_total n Z.length with h|h
 .rw[Nat.min_eq_left h]
 .rw[Nat.min_eq_right h,qd,yl h]
def ar6(h:M[g]?=some (.lst ds))(Z G:Option Int):Va (.ref g) Z G M=some (.vl (Oz ds Z G)):=by simp[Va,fj,h]
def aei(Z:List D):ph .tuple [.vl Z] M=.ok (.tup Z) M:=rfl
def tlS:mj:=.c (.a 5 (.call 33 (.o (.v 1)))) (.c (.a 6 Dw) (.c Du (.c (.a 7 (.call 2 (.p (.v 0) (.bin .add (.i 1) (.l (.v 6)))))) (.q (.a 8 Bu) (.f (.or (.cmp .eq (.v 8) (.Bg .z)) (.cmp .eq (.call 2 (.p (.v 0) (.i 8))) (.i 0))) (.o (.a 8 (.v 5)))) (.ret (.tup (.q (.blt .tuple (.o (.v 1))) (.blt .tuple (.o (.bin .add (.cut (.v 6) (.some (.v 7)) .none) (.cut (.v 6) .none (.some (.v 7)))))) (.ix (.v 8) (.call 2 (.p (.v 0) (.l (.v 8))))))))))))
def ar7(hm:2<=m)(hs:Has t f M)(E:Ends es V)(hd:∀M5,St t f M M5->j7 M5 d=some (es.map aD)) :
 ∃s qk M',tlS.den (PW m) (EY t (some d) b2 b3 b4 none none none none) M=.ok (.ret s.toD,qk) M'/\Hu s V/\St t f M M':=by
 refine hG λ_ _k=>?_
 have tl:=hs.lt;obtain⟨p,L,M1,e1,p1,P,hL⟩:=amb (m:=m) hm E (hd M (.refl hs));have S1:St t f M M1:=.of hs P.k;obtain⟨gs,Z,e2,g2,n2,S2,l2,k2⟩:=sy2 (m:=m) (b2:=b2) (b3:=b3) (b4:=b4) (b5:=sR p) (by lia) S1 tl hd E;have pl:=tu P.g;have qv:St t f M (Z++[.lst (gs.map Gn.toD)]):=S2.keep' (j8.app _ _);have lp:0<L.length:=jn.mpr hL
 have Ll:=P.l;obtain⟨U,c2,M3,e3,g3,p3,d3,n3,S3⟩:=sy0 (m:=m) (b1:=some d) (b2:=b2) (b3:=b3) (b4:=b4) (g:=Z.length) (p:=p) (gs:=gs) (L:=L) (by lia) qv tl zx (by lia) (by have:=S2.len;lia) p1 (Ba (k2 _ _ (by lia) P.g)) P.b P.l hL g2 n2;have l3:=len_list (jd g3);rw[bu] at l3;obtain⟨u,M4,e4,hu,S4,_⟩:=wu (m:=m) (many:=1+U.length) (by lia) S3.has (by lia) (by lia);have p4:=S4.keep _ _ (show p≠t by lia) p3;have g4:=S4.keep _ _ (show Z.length≠t by have:=S2.len;lia) g3;have c1:Bu.den (PW m) (EY t (some d) c2 b3 b4 (sR p) (sR Z.length) (sI u) none) M4=.ok (.vl ((L.filter λx=>decide (x.1≠x.2)).map pD)) M4:=by unfold Bu;rw[Ht (d:=.ref p) (M1:=M4) (xs:=L) (f:=pD) (q:=λx=>decide (x.1≠x.2)) (g:=pD) rfl (Ci (jd p4)) (by lia) (λx hx=>⟨_,rfl,by simp[pD,Rt],λ_=>by simp⟩)];rfl
 have fin:∃v8 X M5,((Al.f (.or (.cmp .eq (.v 8) (.Bg .z)) (.cmp .eq (.call 2 (.p (.v 0) (.i 8))) (.i 0))) (.o (.a 8 (.v 5)))).den (PW m) (EY t (some d) c2 b3 b4 (sR p) (sR Z.length) (sI u) (some (.vl ((L.filter λx=>decide (x.1≠x.2)).map pD)))) M4=.ok (.next,EY t (some d) c2 b3 b4 (sR p) (sR Z.length) (sI u) (some v8)) M5)/\fj M5 v8=some (X.map pD)/\(∀G,St t f M5 G->fj G v8=some (X.map pD))/\X≠[]/\X.length<=3600/\(∀x∈X,N8 es x.1 x.2)/\St t f M4 M5:=by
  by_cases h:L.filter (λx=>decide (x.1≠x.2))=[]
  .refine⟨.ref p,L,M4,?_,jd p4,λG s=>jd (s.keep _ _ (by lia) p4),hL,Ll,P.b,.refl S4.has⟩
   rw[h];simp[eq_nil]
  .obtain⟨q,M5,e5,hq,R,_⟩:=wu (m:=m) (many:=8) (by lia) S4.has (by decide) (by decide)
   have he:((L.filter λx=>decide (x.1≠x.2)).map pD).isEmpty=false:=by rw[List.isEmpty_map];simpa using h
   by_cases q0:q=0
   .have p5:=R.keep _ _ (show p≠t by lia) p4
    refine⟨.ref p,L,M5,?_,jd p5,λG s=>jd (s.keep _ _ (by lia) p5),hL,Ll,P.b,R⟩;subst q0;rw[alk,av2,Uk];simp only[Ve,Ek,alf,Res.yd,alm,eq_nil,he,rz,Res.ye,av3];simp[e5]
   .refine⟨.vl ((L.filter λx=>decide (x.1≠x.2)).map pD),L.filter (λx=>decide (x.1≠x.2)),M5,?_,rfl,λ_ _=>rfl,h,au (vz _ _) Ll,λx hx=>P.b x (qi.mp hx).1,R⟩
    rw[alk,av2,Uk];have:¬(q:Int)=0:=by lia
    simp only[Ve,Ek,alf,Res.yd,alm,eq_nil,he,rz,Res.ye,av3];simp[e5,this,q0]
 obtain⟨v8,X,M5,e5,a5,k5,nX,lX,bX,R⟩:=fin;have l5:=len_list a5;rw[bu] at l5;have xp:0<X.length:=jn.mpr nX
 obtain⟨v,G,e6,hv,S6,_⟩:=wu (m:=m) (many:=X.length) (by lia) R.has (by lia) (by lia);obtain⟨x,hx⟩:∃x,X[v]?=some x:=⟨_,du (by lia)⟩;have i6:vh v8 (.int v) G=some (pD x):=zu (k5 G S6) (gq _) (by simp[hx]);have qq:St t f M M5:=(S3.trans S4).trans R;have d5:=hd M5 qq;have t5:ph .tuple [d] M5=.ok (.tup (es.map aD)) M5:=by simp[ph,d5]
 have g5:=R.keep _ _ (show Z.length≠t by have:=S2.len;lia) g4;apply _k;refine⟨⟨es,U.drop u++U.take u,x.1,x.2⟩,EY t (some d) c2 b3 b4 (sR p) (sR Z.length) (sI u) (some v8),G,?_,⟨E,λg hg=>?_,?_,bX x (bc hx)⟩,qq.trans S6⟩
 .have q1:Bu.den (PW m) [sR t,some d,c2,b3,b4,sR p,sR Z.length,sI u,none] M4=_:=c1
  simp only[tlS];simp[e1,e2,e3,l3,e4];rw[q1];simp only[Res.yd,Res.ye,aec,aeb,List.set_cons_succ,List.set_cons_zero,v9];simp only[wj,e5,v9];simp[t5,ar6 g5,ajb,ar5,l5];rw[Yc _ _ (by simp;lia)];simp[aei,l5,e6,i6,Zz.toD,pD]
 .rcases bx.mp hg with q|q
  .exact d3 g (List.mem_of_mem_drop q)
  .exact d3 g (List.mem_of_mem_take q)
 .simp;lia
def knD:List D:=kn.map λZ=>.tup (Z.map aD)
noncomputable def kX1:Ex:=(.Bg (.q (.tup (.q (.tup (.p (.i 0) (.i 1))) (.tup (.p (.i 0) (.i 1))) (.tup (.p (.i 1) (.i 2))))) (.tup (.c (.tup (.p (.i 0) (.i 1))) (.q (.tup (.p (.i 1) (.i 2))) (.tup (.p (.i 0) (.i 2))) (.tup (.p (.i 2) (.i 3)))))) (.tup (.c (.tup (.p (.i 0) (.i 1))) (.c (.tup (.p (.i 0) (.i 2))) (.q (.tup (.p (.i 1) (.i 3))) (.tup (.p (.i 2) (.i 3))) (.tup (.p (.i 3) (.i 4)))))))))
noncomputable def kX2:Ex:=(.Bg (.p (.tup (.c (.tup (.p (.i 0) (.i 1))) (.c (.tup (.p (.i 1) (.i 2))) (.c (.tup (.p (.i 0) (.i 3))) (.c (.tup (.p (.i 3) (.i 4))) (.q (.tup (.p (.i 1) (.i 4))) (.tup (.p (.i 2) (.i 5))) (.tup (.p (.i 4) (.i 5))))))))) (.tup (.c (.tup (.p (.i 3) (.i 1))) (.c (.tup (.p (.i 3) (.i 1))) (.q (.tup (.p (.i 1) (.i 0))) (.tup (.p (.i 1) (.i 0))) (.tup (.p (.i 0) (.i 2)))))))))
def fS:Al:=.f (.cmp .gt (.call 2 (.p (.v 0) (.i 3))) (.i 0)) (.o (.a 1 (.ix (.v 4) (.call 2 (.p (.v 0) (.i 5))))))
def ajd(hm:3<=m)(hs:Has t f M):∃s V M',prog.call m 34 [.ref t] M=.ok s.toD M'/\Hu s V/\St t f M M':=by
 rw[call_of (au (by decide) hm) rfl];have tl:=hs.lt;have S0:St t f M (M++[.lst []]):=.of hs (j8.app _ _);obtain⟨es,G,Z,M1,e1,g1,R,n1,n2,S1⟩:=sy1 (m:=m-1) (by lia) hs zx S0 (bf _);obtain⟨v,M2,e2,hv,S2,_⟩:=wu (m:=m-1) (many:=3) (by lia) S1.has (by decide) (by decide);have g2:=S2.keep _ _ (show M.length≠t by lia) g1;have qv:∃d es V M3,ifK ((mj.o (.a 1 (.ix (.v 4) (.call 2 (.p (.v 0) (.i 5)))))).den (PW (m-1)) (EY t (sR M.length) G Z (some (.vl knD)) none none none none)) (mj.nil.den (PW (m-1)) (EY t (sR M.length) G Z (some (.vl knD)) none none none none)) (.ok (.bl (decide (0<(v:Int)))) M2)=.ok (.next,EY t (some d) G Z (some (.vl knD)) none none none none) M3/\Ends es V/\(∀M5,St t f M3 M5->j7 M5 d=some (es.map aD))/\St t f M2 M3:=by
  by_cases h:v=0
  .subst h
   exact⟨.ref M.length,es,_,M2,rfl,amg R n1 n2,λM5 s=>Ci (jd (s.keep _ _ (by lia) g2)),.refl S2.has⟩
  .obtain⟨k,M3,e3,hk,S3,_⟩:=wu (m:=m-1) (many:=5) (by lia) S2.has (by decide) (by decide)
   obtain⟨x,hx⟩:∃x,kn[k]?=some x:=⟨_,du (by show k<5;lia)⟩;obtain⟨V,E⟩:=ar3 (bc hx);refine⟨.tup (x.map aD),x,V,M3,?_,E,λ_ _=>rfl,S3⟩;have h':(0:Int)<(v:Int):=by lia
   have i3:vh (.vl knD) (.int k) M3=some (.tup (x.map aD)):=zu rfl (gq _) (by simp[knD,hx]);rw[vo h',a3v];simp[e3,i3]
 obtain⟨d,q1,V,M3,e3,E,hd,S3⟩:=qv;obtain⟨s,q0,M4,e4,h4,S4⟩:=ar7 (m:=m-1) (b2:=G) (b3:=Z) (b4:=some (.vl knD)) (by lia) S3.has E hd;refine⟨s,V,M4,?_,h4,((S1.trans S2).trans S3).trans S4⟩;have qq:∀U M,kX1.den (PW (m-1)) U M=.ok (.vl (knD.take 3)) M:=λU M=>rfl
 have qk:∀U M,kX2.den (PW (m-1)) U M=.ok (.vl (knD.drop 3)) M:=λU M=>rfl
 have ka:∀M,Ax .add (.vl (knD.take 3)) (.vl (knD.drop 3)) M=.ok (.vl knD) M:=λM=>by rw[Yc _ _ (by rw[<- gr,t7];show 5<=100000;decide),t7]
 have b0:Og=.c (.a 1 (.lst .z)) (.c Dz (.c (.a 4 kX1) (.c (.a 4 (.bin .add (.v 4) kX2)) (.c fS tlS)))):=rfl;have e0:fS.den (PW (m-1)) (EY t (sR M.length) G Z (some (.vl knD)) none none none none) M1=.ok (.next,EY t (some d) G Z (some (.vl knD)) none none none none) M3:=by rw[fS,alk,Uk,Vf];simp only[Cr,Ek,axo,Ju,Res.yd,e2,cmp_gt,rz,Res.ye];exact e3
 simp only[Fn.run,Oh,b0];simp[MW.new,e1,qq,qk,ka,e0,e4]
def ags(E:Ends es V):Ed es<=7:=by
 have U:es≠[]:=List.ne_nil_of_length_pos E.pos;unfold Ed;cases q:es.map mx with
 |nil=>exact ik _
 |cons a l =>
  have all:∀x∈a::l,x<8:=λx Z=>by rw[<- q] at Z;obtain⟨e,G,rfl⟩:=di.mp Z;have:=E.sm e G;unfold mx;split<;>lia
  have:=Z3 (n:=8) l a (all a cz) λx Z=>all x (bh _ Z)
  exact wz this
def Z5(h:M[p]?=some (.lst ds)):ph .tuple [.ref p] M=.ok (.tup ds) M:=by simp[ph,j7,fj,h]
noncomputable abbrev Mk:=List (List Nat×List Nat)
noncomputable def mkOf(Z:Mk)(w:Y3):List Nat:=((Z.find? λp=>decide (p.1=w)).map (·.2)).getD w
noncomputable def kx(w:Y3):List Kx:=w.map λ(x:Nat)=>Sum.inl (x:Int)
def Jh(Z:Mk):List (List Kx×D):=Z.map λp=>(kx p.1,cj p.2)
theorem aej:∀{a b:Y3},kx a=kx b->a=b
 |[],[],_=>rfl|[],_::_,h=>by simp[kx] at h|_::_,[],h=>by simp[kx] at h
 |x::a,y::b,h=>by
  have Z:(Sum.inl (x:Int):Kx)=.inl (y:Int):=(Ab h).1;have G:(x:Int)=(y:Int):=Sum.inl.inj Z;rw[aej (Ab h).2,show x=y by lia]
def Hw(w:Y3):Px (cj w)=some (kx w):=by
 show ad9 (w.map nD)=some (kx w)
 induction w with
 |nil=>rfl|cons x w Z=>simp only[dq,ad9,Z];rfl
def ami(a b:Y3):decide (kx a=kx b)=decide (a=b):=by
 by_cases h:a=b
 .simp[h]
 .have:¬kx a=kx b:=λe=>h (aej e)
  simp[h,this]
def lk_row(Z:Mk)(w:Y3):Eh (Jh Z) (kx w)=(Z.find? λp=>decide (p.1=w)).map λp=>cj p.2:=by
 unfold Eh Jh
 induction Z with
 |nil=>rfl
 |cons p Z G =>
  simp only[dq,m7,ami]
  by_cases h:p.1=w
  .simp[h]
  .simp only[h,decide_false];exact G
def ayd(Z:Mk)(w:Y3):(Eh (Jh Z) (kx w)).getD (cj w)=cj (mkOf Z w):=by rw[lk_row,mkOf];cases Z.find? λp=>decide (p.1=w)<;>rfl
noncomputable def Ef(Z:Mk)(w v:Y3):Mk:=if w∈Z.map (·.1) then Z.map (λp=>if p.1=w then(p.1,v) else p) else Z++[(w,v)]
def aek(mk:Mk)(w v:Y3):U9 (Jh mk) (kx w) (cj v)=Jh (Ef mk w v):=by
 have e:((Jh mk).any λkv=>decide (kv.1=kx w))=decide (w∈mk.map (·.1)):=by
  induction mk with
  |nil=>simp[Jh]
  |cons p mk Z =>
   have:Jh (p::mk)=(kx p.1,cj p.2)::Jh mk:=rfl;rw[this,Aa,Z,ami,dq]
   by_cases h:p.1=w
   .simp[h]
   .simp[h,jy h]
 unfold U9 Ef;rw[e]
 by_cases h:w∈mk.map (·.1)
 .rw[cg (by simpa using h),cg h,Jh,Jh,ir,ir]
  refine rn λp _=>?_
  show(if kx p.1=kx w then(kx p.1,cj v) else(kx p.1,cj p.2))=_
  by_cases q:p.1=w
  .simp[q]
  .have:¬kx p.1=kx w:=λe=>q (aej e)
   simp[q,this]
 .rw[bz (by simpa using h),bz h];simp[Jh]
def find_some{mk:Mk}(h:w∈mk.map (·.1)):∃v,mk.find? (λp=>decide (p.1=w))=some (w,v)/\(w,v)∈mk:=by
 induction mk with
 |nil=>cases h
 |cons p mk G =>
  by_cases e:p.1=w
  .exact⟨p.2,by simp[<- e],by rw[<- e];exact cz⟩
  .rw[dq] at h
   rcases dh.mp h with q|q
   .exact absurd q.symm e
   .obtain⟨v,U,Z⟩:=G q
    exact⟨v,by simp[e,U],bh _ Z⟩
def find_none{Z:Mk}(h:w∉Z.map (·.1)):Z.find? (λp=>decide (p.1=w))=none:=by rw[List.find?_eq_none];intro p G e;exact h (di.mpr ⟨p,G,by simpa using e⟩)
def V7{Z:Mk}(h:w∉Z.map (·.1)):mkOf Z w=w:=by rw[mkOf,find_none h];rfl
def agt{mk:Mk}(h:w∈mk.map (·.1)):(w,mkOf mk w)∈mk:=by obtain⟨v,G,Z⟩:=find_some h;rw[mkOf,G];exact Z
def Qo(Z:Mk)(w v:Y3):∀x,x∈(Ef Z w v).map (·.1)↔x∈Z.map (·.1)\/x=w:=λx=>by
 unfold Ef
 by_cases h:w∈Z.map (·.1)
 .rw[cg h,ir]
  have:(((λ(p:List Nat×List Nat)=>p.1) ∘ λp=>if p.1=w then(p.1,v) else p):List Nat×List Nat->List Nat)=λp=>p.1:=by funext p;by_cases q:p.1=w<;>simp[q]
  rw[this];exact⟨.inl,λq=>q.elim id λe=>e▸h⟩
 .rw[bz h];simp
def amj(Z:Mk)(w v x:Y3):mkOf (Ef Z w v) x=if x=w then v else mkOf Z x:=by
 unfold Ef
 by_cases h:w∈Z.map (·.1)
 .rw[cg h]
  unfold mkOf;have e:∀l:Mk,((l.map λp=>if p.1=w then(p.1,v) else p).find? λp=>decide (p.1=x))=(l.find? λp=>decide (p.1=x)).map λp=>if p.1=w then(p.1,v) else p:=λl=>by
   induction l with
   |nil=>rfl
   |cons p l G =>
    have U:(if p.1=w then(p.1,v) else p).1=p.1:=by by_cases q:p.1=w<;>simp[q]
    simp only[dq,m7,U,G]
    by_cases q:p.1=x<;>simp[q]
  rw[e]
  by_cases q:x=w
  .subst q
   obtain⟨u,R,_⟩:=find_some h;rw[R];simp
  .rw[bz q]
   cases hf:Z.find? λp=>decide (p.1=x) with
   |none=>rfl
   |some p =>
    have:p.1=x:=by have:=List.find?_some hf;simpa using this
    have:¬p.1=w:=by rw[this];exact q
    simp[this]
 .rw[bz h]
  unfold mkOf;rw[List.find?_append]
  by_cases q:x=w
  .subst q
   rw[find_none h];simp
  .rw[bz q]
   cases Z.find? λp=>decide (p.1=x) with
   |some p=>rfl|none=>simp[jy q]
def Ry{Z:Mk}(h:(Z.map (·.1)).Nodup)(w v:Y3):((Ef Z w v).map (·.1)).Nodup:=by
 unfold Ef
 by_cases q:w∈Z.map (·.1)
 .rw[cg q,ir]
  have:(((λ(p:List Nat×List Nat)=>p.1) ∘ λp=>if p.1=w then(p.1,v) else p):List Nat×List Nat->List Nat)=λp=>p.1:=by funext p;by_cases q:p.1=w<;>simp[q]
  rw[this];exact h
 .rw[bz q,gf]
  exact oh.mpr ⟨h,by simp,λa U b G e=>by simp at G;subst G;subst e;exact q U⟩
def Uu(Z:Mk)(w v:Y3):(Ef Z w v).length<=Z.length+1:=by unfold Ef;split<;>simp
def Yk(kept gone:Y3)(p:List Nat×List Nat):List Nat×List Nat:=if p.2=gone then(p.1,kept) else p
def tkM(Z:Mk)(a b:Y3):Mk:=(Ef (Ef Z a (mkOf Z a)) b (mkOf Z b)).map (Yk (mkOf Z a) (mkOf Z b))
def agu(Z:Mk)(a b x:Y3):mkOf (Ef (Ef Z a (mkOf Z a)) b (mkOf Z b)) x=mkOf Z x:=by
 rw[amj,amj]
 by_cases h:x=b
 .rw[cg h,h]
 .rw[bz h]
  by_cases q:x=a
  .rw[cg q,q]
  .rw[bz q]
structure TI(ss:List Sp)(mk:Mk):Prop where
 nd:(mk.map (·.1)).Nodup
 vk:∀p∈mk,p.2∈mk.map (·.1)
 id:∀w,mkOf mk (mkOf mk w)=mkOf mk w
 Yl:∀w u,mkOf mk w=mkOf mk u↔G3 ss w u
 l:mk.length<=2*ss.length
def Z6(k g:Y3)(p:List Nat×List Nat):(Yk k g p).1=p.1:=by unfold Yk;split<;>rfl
def Uv(k g:Y3)(Z:Mk):(Z.map (Yk k g)).map (·.1)=Z.map (·.1):=by rw[ir];exact rn λp _=>Z6 k g p
def aml(T:TI ss mk)(a b w:Y3):mkOf mk w∈mk.map (·.1)\/mkOf mk w=w:=by
 by_cases h:w∈mk.map (·.1)
 .exact .inl (T.vk _ (agt h))
 .exact .inr (V7 h)
def a4l(T:TI ss mk)(a b w:Y3):mkOf (tkM mk a b) w=if mkOf mk w=mkOf mk b then mkOf mk a else mkOf mk w:=by
 have G:∀x,x=a\/x=b->mkOf mk x∈(Ef (Ef mk a (mkOf mk a)) b (mkOf mk b)).map (·.1):=λx R=>by
  rw[Qo,Qo];rcases aml T a b x with q|q
  .exact .inl (.inl q)
  .rw[q];rcases R with rfl|rfl
   .exact .inl (.inr rfl)
   .exact .inr rfl
 have Z:=agu mk a b w;unfold tkM
 by_cases h:w∈(Ef (Ef mk a (mkOf mk a)) b (mkOf mk b)).map (·.1)
 .obtain⟨v,U,_⟩:=find_some h
  have e:v=mkOf mk w:=by rw[<- Z,mkOf,U];rfl
  have f:∀l:Mk,l.find? (λp=>decide (p.1=w))=some (w,v)->(l.map (Yk (mkOf mk a) (mkOf mk b))).find? (λp=>decide (p.1=w))=some (Yk (mkOf mk a) (mkOf mk b) (w,v)):=λl=>by
   induction l with
   |nil=>intro h;cases h
   |cons p l ih =>
    intro h;simp only[dq,m7,Z6] at h ⊢
    by_cases q:p.1=w
    .simp only[q,decide_true] at h ⊢;cases h;rfl
    .simp only[q,decide_false] at h ⊢;exact ih h
  rw[mkOf,f _ U,e];unfold Yk
  by_cases q:mkOf mk w=mkOf mk b<;>simp[q]
 .rw[V7 (by rw[Uv];exact h)]
  have e:mkOf mk w=w:=by rw[<- Z];exact V7 h
  rw[e,bz];intro q;exact h (q▸G b (.inr rfl))
def ar8(T:TI ss mk)(x:Sp):TI (ss++[x]) (tkM mk x.a x.b):=by
 have tf:=a4l T x.a x.b;have qv:=T.id x.a;refine⟨?_,λp hp=>?_,λw=>?_,λw u=>?_,?_⟩
 .unfold tkM;rw[Uv];exact Ry (Ry T.nd _ _) _ _
 .have keys:∀y,y∈(tkM mk x.a x.b).map (·.1)↔(y∈mk.map (·.1)\/y=x.a)\/y=x.b:=λy=>by unfold tkM;rw[Uv,Qo,Qo]
  have Z:∀y,y∈(tkM mk x.a x.b).map (·.1)->mkOf mk y∈(tkM mk x.a x.b).map (·.1):=λy hy=>by
   rcases aml T x.a x.b y with q|q
   .exact(keys _).mpr (.inl (.inl q))
   .rw[q];exact hy
  have hk:p.1∈(tkM mk x.a x.b).map (·.1):=di.mpr ⟨p,hp,rfl⟩;obtain⟨r,hr,rfl⟩:=di.mp hp;have qk:=Ry (Ry T.nd x.a (mkOf mk x.a)) x.b (mkOf mk x.b);have qq:r.1∈(Ef (Ef mk x.a (mkOf mk x.a)) x.b (mkOf mk x.b)).map (·.1):=di.mpr ⟨r,hr,rfl⟩;have e:r.2=mkOf mk r.1:=by
   obtain⟨v,G,R⟩:=find_some qq;have:v=mkOf mk r.1:=by rw[<- agu mk x.a x.b r.1,mkOf,G];rfl
   obtain⟨i,hi⟩:=n6.mp hr;obtain⟨j,U⟩:=n6.mp R;have:i=j:=Hs qk (x:=r.1) (by rw[ie,hi];rfl) (by rw[ie,U];rfl);subst this;rw[hi] at U;have U:=iu U;rw[U];assumption
  rw[Z6] at hk;unfold Yk;split
  .exact Z x.a ((keys _).mpr (.inl (.inr rfl)))
  .rw[e];exact Z _ hk
 .rw[tf,tf w]
  by_cases q:mkOf mk w=mkOf mk x.b
  .rw[cg q]
   split
   .rfl
   .exact qv
  .rw[bz q,T.id,bz q]
 .rw[tf,tf]
  constructor
  .intro h
   have sw:G3 (ss++[x]) x.a x.b:=.step .refl (fu _ cz) (.inl ⟨rfl,rfl⟩)
   by_cases q:mkOf mk w=mkOf mk x.b
   .rw[cg q] at h
    have G:=((T.Yl _ _).mp q).more (X:=[x])
    by_cases r:mkOf mk u=mkOf mk x.b
    .exact G.trans ((T.Yl _ _).mp r).more.symm
    .rw[bz r] at h
     exact(G.trans sw.symm).trans ((T.Yl _ _).mp h).more
   .rw[bz q] at h
    by_cases r:mkOf mk u=mkOf mk x.b
    .rw[cg r] at h
     exact(((T.Yl _ _).mp h).more.trans sw).trans ((T.Yl _ _).mp r).more.symm
    .rw[bz r] at h
     exact((T.Yl _ _).mp h).more
  .intro h
   induction h with
   |refl=>rfl
   |step _ G R ih =>
    refine ih.trans ?_;have fin:∀{y z:Y3},mkOf mk y=mkOf mk z->(if mkOf mk y=mkOf mk x.b then mkOf mk x.a else mkOf mk y)=if mkOf mk z=mkOf mk x.b then mkOf mk x.a else mkOf mk z:=λe=>by rw[e]
    have Z:(if mkOf mk x.a=mkOf mk x.b then mkOf mk x.a else mkOf mk x.a)=if mkOf mk x.b=mkOf mk x.b then mkOf mk x.a else mkOf mk x.b:=by simp
    rcases bx.mp G with q|q
    .rcases R with⟨rfl,rfl⟩|⟨rfl,rfl⟩
     .exact fin ((T.Yl _ _).mpr (.step .refl q (.inl ⟨rfl,rfl⟩)))
     .exact fin ((T.Yl _ _).mpr (.step .refl q (.inr ⟨rfl,rfl⟩)))
    .simp at q;subst q
     rcases R with⟨rfl,rfl⟩|⟨rfl,rfl⟩
     .exact Z
     .exact Z.symm
 .unfold tkM
  have:=Uu (Ef mk x.a (mkOf mk x.a)) x.b (mkOf mk x.b);have:=Uu mk x.a (mkOf mk x.a);have:=T.l
  simp;lia
def aye:TI [] []:=⟨by simp,by simp,λ_=>rfl,λw u=>⟨λh=>by have h:w=u:=h;rw[h];exact .refl,λh=>by
 induction h with
 | refl=>rfl|step _ Z _ _=>cases Z⟩,bf _⟩
structure Tie(t p q:Nat)(M:dj)(ss:List Sp)(mk:Mk):Prop where
 i:M[t]?=some (.ins 5 [(1,.ref p),(0,.ref q)])
 s:M[p]?=some (.lst (ss.map Sp.toD))
 k:M[q]?=some (.dT (Jh mk))
def agv{Z:Mk}(T:Tie t p q M ss Z):Jj (.ref t) 1 M=some (.ref p):=by simp[Jj,T.i,List.lookup]
def av9{Z:Mk}(T:Tie t p q M ss Z):Jj (.ref t) 0 M=some (.ref q):=by simp[Jj,T.i,List.lookup]
def ayf{Z:Mk}(T:Tie t p q M ss Z):t≠p:=by rintro rfl;have:=T.i;rw[T.s] at this;cases this
def ayg{Z:Mk}(T:Tie t p q M ss Z):t≠q:=by rintro rfl;have:=T.i;rw[T.k] at this;cases this
def ayh{Z:Mk}(T:Tie t p q M ss Z):p≠q:=by rintro rfl;have:=T.s;rw[T.k] at this;cases this
def amm{mk:Mk}(T:Tie t p q M ss mk)(k:j8 M Z):Tie t p q Z ss mk:=⟨k _ _ T.i,k _ _ T.s,k _ _ T.k⟩
def Mx(p q:Nat)(M Z:dj):Prop:=∀(a:Nat)(o:MO),a≠p->a≠q->M[a]?=some o->Z[a]?=some o
def Mx.refl(p q:Nat)(M:dj):Mx p q M M:=λ_ _ _ _ h=>h
def Mx.trans(a:Mx p q M Z)(b:Mx p q Z M2):Mx p q M M2:=λx o n k h=>b x o n k (a x o n k h)
def Mx.of(k:j8 M M'):Mx p q M M':=λa o _ _ h=>k a o h
def My:prog.cls[5]?=some ⟨15,[(0,16),(1,17),(2,18),(3,19)]⟩:=rfl
def ayi(h:M[n]?=some (.dT Z)):Lh .get (.ref n) M=true:=by simp[Lh,h]
def Qp{Z:Mk}(G:1<=m)(T:Tie t p q M ss Z):prog.call m 16 [.ref t,cj w] M=.ok (cj (mkOf Z w)) M:=by
 rw[call_of G rfl];have g:Fw .get (.ref q) [cj w,cj w] M=.ok (cj (mkOf Z w)) M:=by simp[Fw,onT,T.k,Hw,ayd]
 simp[Fn.run,S8,Sy,av9 T,ayi T.k,g]
def Z7{Z:Mk}(G:2<=m)(T:Tie t p q M ss Z):prog.call m 17 [.ref t,cj a,cj b] M=.ok (.bl (decide (mkOf Z a=mkOf Z b))) M:=by
 rw[call_of (au (by decide) G) rfl];have e:∀w,prog.call (m-1) 16 [.ref t,cj w] M=.ok (cj (mkOf Z w)) M:=λw=>Qp (by lia) T
 simp[Fn.run,K7,K6,T.i,My,List.lookup,e,Rt]
def ar9{A B:Mk}{Z:List Nat×List Nat}(h:((A++Z::B).map (·.1)).Nodup):Eh (Jh (A++Z::B)) (kx Z.1)=some (cj Z.2)/\∀v,Ef (A++Z::B) Z.1 v=A++(Z.1,v)::B:=by
 have U:Z.1∉A.map (·.1):=by rw[gf,oh] at h;intro q;exact h.2.2 _ q Z.1 (by simp) rfl
 have R:Z.1∉B.map (·.1):=by rw[gf,oh] at h;exact(kj.mp h.2.1).1
 have G:∀(l:Mk)(v:Y3),Z.1∉l.map (·.1)->(l.map λp=>if p.1=Z.1 then(p.1,v) else p)=l:=λl v hl=>by
  conv=>rhs;rw[<- List.map_id l]
  refine rn λp hp=>?_
  have:¬p.1=Z.1:=λe=>hl (e▸di.mpr ⟨p,hp,rfl⟩)
  simp[this]
 constructor
 .rw[lk_row,List.find?_append,find_none U];simp
 .intro v
  unfold Ef;rw[cg (by simp),gf,dq,G A v U,G B v R];simp
def asa(w:Y3):ai6 (kx w)=cj w:=by unfold ai6 kx cj;rw[ir];rfl
def amn(Z:Mk):((Jh Z).map λp=>ai6 p.1)=(Z.map (·.1)).map cj:=by rw[Jh,ir,ir];exact rn λp _=>asa _
def asb{Z:Mk}{M:dj}(hi:M[t]?=some (.ins 5 [(1,.ref p),(0,.ref q)]))(hk:M[q]?=some (.dT (Jh Z)))(nd:(Z.map (·.1)).Nodup)(hl:Z.length<=1000)(qk:t≠q) :
 ∃R M',Ja.den (PW m) [sR t,b1,some (cj kept),some (cj gn),none] M=.ok (.next,[sR t,b1,some (cj kept),some (cj gn),R]) M'/\M'[q]?=some (.dT (Jh (Z.map (Yk kept gn))))/\Jl q M M'/\M'.length=M.length:=by
 unfold Ja;refine hG λ_ _k=>?_
 have li:ph .list [.ref q] M=.ok (.vl ((Z.map (·.1)).map cj)) M:=by
  have a:j7 M (.ref q)=none:=by simp[j7,fj,hk]
  have l:(Jh Z).length<=1000:=by simpa[Jh] using hl
  simp only[ph,Fv,a,hk,cg l,amn]
 have fl:Jj (.ref t) 0 M=some (.ref q):=by simp[Jj,hi,List.lookup]
 obtain⟨q1,M',e,R,rfl,h1,h2,h3⟩:=zy (W:=PW m) (it:=.blt .list (.o (.fld (.v 0) 0))) (t:=.name 4) (b:=Gj) (ρ:=[sR t,b1,cj kept,cj gn,none]) (M:=M) (M1:=M) (d:=.vl ((Z.map (·.1)).map cj)) (by simp[fl,li]) rfl
  (λi ρ U=>∃R,ρ=[sR t,b1,some (cj kept),some (cj gn),R]/\U[q]?=some (.dT (Jh ((Z.take i).map (Yk kept gn)++Z.drop i)))/\Jl q M U/\U.length=M.length)
  ⟨none,rfl,by simpa using hk,Jl.refl _ _,rfl⟩ (λ_ _ _ _=>rfl) (λi x ρ U hx hI=>by
   refine hG λ_ _k=>?_
   obtain⟨R,rfl,g1,g2,g3⟩:=hI;obtain⟨G,hp,rfl⟩:∃G,Z[i]?=some G/\cj G.1=x:=by simpa using hx
   have qv:=(ak.mp hp).1;have dr:Z.drop i=G::Z.drop (i+1):=by rw[sr qv,(ak.mp hp).2]
   have q0:(((Z.take i).map (Yk kept gn)++G::Z.drop (i+1)).map (·.1)).Nodup:=by
    have:((Z.take i).map (Yk kept gn)++G::Z.drop (i+1)).map (·.1)=Z.map (·.1):=by rw[gf,Uv,<- dr,<- gf,t7]
    rw[this];exact nd
   rw[dr] at g1;obtain⟨f1,f2⟩:=ar9 q0;have qq:Jj (.ref t) 0 U=some (.ref q):=by simp[Jj,g2 t _ qk hi,List.lookup]
   have x1:vh (.ref q) (cj G.1) U=some (cj G.2):=by rw[a4d g1 (Hw _),f1]
   have tk:(Z.take (i+1)).map (Yk kept gn)++Z.drop (i+1)=(Z.take i).map (Yk kept gn)++Yk kept gn G::Z.drop (i+1):=by rw[m5,hp];simp
   apply _k
   by_cases e:G.2=gn
   .refine⟨_,.next,[sR t,b1,some (cj kept),some (cj gn),some (cj G.1)],U.set q (.dT (Jh ((Z.take (i+1)).map (Yk kept gn)++Z.drop (i+1)))),rfl,?_,.inl rfl,_,rfl,o6 g1,g2.trans (Jl.set _ _ _),by simpa using g3⟩
    have st:=aed (d:=cj kept) g1 (Hw G.1) (by simp[Jh];lia);rw[aek,f2] at st;rw[tk];have sw:Yk kept gn G=(G.1,kept):=by simp[Yk,e]
    simp[Gj,qq,x1,Rt,e,st,sw]
   .refine⟨_,.next,[sR t,b1,some (cj kept),some (cj gn),some (cj G.1)],U,rfl,?_,.inl rfl,_,rfl,?_,g2,g3⟩
    .simp[Gj,qq,x1,Rt,e]
    .rw[tk,show Yk kept gn G=G by simp[Yk,e]];exact g1)
 apply _k;refine⟨R,M',e,?_,h2,h3⟩;simpa using h1
def asd{mk:Mk}(hm:2<=m)(T:Tie t p q M ss mk)(I:TI ss mk)(x:Sp)(hl:ss.length<=100) :
 ∃R,prog.call m 18 [.ref t,x.toD] M=.ok .non R/\Tie t p q R (ss++[x]) (tkM mk x.a x.b)/\Mx p q M R/\R.length=M.length:=by
 rw[call_of (au (by decide) hm) rfl];have U:=ayh T;have tp:=ayf T;have G:=ayg T;have il:=I.l;have ap:=Ii (d:=x.toD) T.s (by simp;lia);generalize hM1:M.set p (.lst (ss.map Sp.toD++[x.toD]))=M1 at ap;have Z:Tie t p q M1 (ss++[x]) mk:=⟨by rw[<- hM1,jq (jy tp)];exact T.i,by rw[<- hM1,o6 T.s];simp,by rw[<- hM1,jq U];exact T.k⟩;have e1:∀w,prog.call (m-1) 16 [.ref t,cj w] M1=.ok (cj (mkOf mk w)) M1:=λw=>Qp (by lia) Z
 have s1:=aed (d:=cj (mkOf mk x.a)) Z.k (Hw x.a) (by simp[Jh];lia);rw[aek] at s1;generalize Zy:M1.set q (.dT (Jh (Ef mk x.a (mkOf mk x.a))))=M2 at s1;have k2:M2[q]?=some (.dT (Jh (Ef mk x.a (mkOf mk x.a)))):=by rw[<- Zy];exact o6 Z.k
 have i2:M2[t]?=some (.ins 5 [(1,.ref p),(0,.ref q)]):=by rw[<- Zy,jq (jy G)];exact Z.i
 have l1:=Uu mk x.a (mkOf mk x.a);have s2:=aed (d:=cj (mkOf mk x.b)) k2 (Hw x.b) (by simp[Jh];lia);rw[aek] at s2;have l2:=Uu (Ef mk x.a (mkOf mk x.a)) x.b (mkOf mk x.b);generalize hM3:M2.set q (.dT (Jh (Ef (Ef mk x.a (mkOf mk x.a)) x.b (mkOf mk x.b))))=M3 at s2;have k3:M3[q]?=some (.dT (Jh (Ef (Ef mk x.a (mkOf mk x.a)) x.b (mkOf mk x.b)))):=by rw[<- hM3];exact o6 k2
 have i3:M3[t]?=some (.ins 5 [(1,.ref p),(0,.ref q)]):=by rw[<- hM3,jq (jy G)];exact i2
 obtain⟨b4,M4,e4,k4,B4,l4⟩:=asb (m:=m-1) (b1:=some x.toD) (kept:=mkOf mk x.a) (gn:=mkOf mk x.b) i3 k3 (Ry (Ry I.nd _ _) _ _) (by lia) G;have x0:∀M,vh x.toD (.int 0) M=some (cj x.a):=λM=>Ih _ _
 have x1:∀M,vh x.toD (.int 1) M=some (cj x.b):=λM=>Nr _ _ _
 have f2:Jj (.ref t) 0 M2=some (.ref q):=by simp[Jj,i2,List.lookup]
 refine⟨M4,?_,⟨B4 _ _ G i3,?_,k4⟩,?_,?_⟩
 .simp only[Fn.run,Td,Tc]
  simp[agv T,Lx T.s,ap,Z.i,My,List.lookup,x0,x1,e1,av9 Z,s1,f2,s2,e4]
 .refine B4 _ _ U ?_
  rw[<- hM3,jq (jy U),<- Zy,jq (jy U)];exact Z.s
 .intro a o n1 n2 h
  refine B4 a o n2 ?_;rw[<- hM3,jq (jy n2),<- Zy,jq (jy n2),<- hM1,jq (jy n1)];exact h
 .rw[l4,<- hM3,<- Zy,<- hM1];simp
def amo{U:Mk}(hm:3<=m)(T:Tie t p q M ss U)(I:TI ss U)(hl:ss.length<=100)(a b:Y3)(y:D) :
 ∃R Z G,prog.call m 19 [.ref t,cj a,cj b,y] M=.ok .non R/\Tie t p q R Z G/\TI Z G/\Mx p q M R/\R.length=M.length/\(Z=ss/\G=U/\G3 ss a b\/Z=ss++[⟨a,b,y⟩]/\¬G3 ss a b):=by
 rw[call_of (au (by decide) hm) rfl];have e1:=Z7 (m:=m-1) (a:=a) (b:=b) (by lia) T
 by_cases h:mkOf U a=mkOf U b
 .refine⟨M,ss,U,?_,T,I,Mx.refl _ _ _,rfl,.inl ⟨rfl,rfl,(I.Yl _ _).mp h⟩⟩
  simp[Fn.run,Kh,Kg,T.i,My,List.lookup,e1,h]
 .obtain⟨R,e2,T2,B2,l2⟩:=asd (m:=m-1) (by lia) T I ⟨a,b,y⟩ hl
  refine⟨R,_,_,?_,T2,ar8 I _,B2,l2,.inr ⟨rfl,λq=>h ((I.Yl _ _).mpr q)⟩⟩;have qq:prog.call (m-1) 18 [.ref t,.tup [cj a,cj b,y]] M=_:=e2;simp[Fn.run,Kh,Kg,T.i,My,List.lookup,e1,h,qq]
theorem amq{Z:List (List Nat)}(one:∀k,k<es.length->[k]∈Z)(G:∀w∈Z,∀u∈ext es w,u∈Z):∀(n:Nat){w:Y3},w.length=n->Way es w->w∈Z
 |0,w,h,W=>absurd (uf h) W.ne
 |n+1,w,h,W=>by
  obtain⟨u,k,rfl⟩:∃u k,w=u++[k]:=⟨w.dropLast,w.getLast W.ne,(yh W.ne).symm⟩;have U:k<es.length:=W.lt k (by simp)
  by_cases hu:u=[]
  .subst hu;exact one k U
  .have R:Way es u:=⟨hu,λi hi=>W.lt i (ig _ hi),W.ch.init⟩
   have m:=amq one G n (by simpa using h) R;exact G u m _ (di.mpr ⟨k,Ip.mpr ⟨U,Ye.last hu W.ch⟩,rfl⟩)
def amr(hm:2<=m)(E:Ends es V) :
 ∃(us:List (List Nat))(M':dj),prog.call m 13 [.tup (es.map aD)] M=.ok (.ref M.length) M'/\M'[M.length]?=some (.lst (us.map cj))/\us.length<=60/\j8 M M'/\(∀w∈us,Way es w)/\∀w,Way es w->w∈us:=by
 rw[call_of (au (by decide) hm) rfl];refine hG λ_ _k=>?_
 have hn:es.length<=100000:=au E.few (by decide)
 have c2:Bo.den (PW (m-1)) [some (.tup (es.map aD)),sR M.length,none,none,none,none] (M++[.lst []])=.ok (.vl (((List.range es.length).map λk=>[k]).map cj)) (M++[.lst []]):=by unfold Bo;rw[Fe (n:=es.length) (M1:=M++[.lst []]) (g:=λk=>cj [k]) (by simp[ym]) hn (λi hi=>⟨_,rfl,by simp[cj,nD]⟩)];simp[ir,jb]
 obtain⟨qk,M',a,us,b2,b3,R,U,rfl,g1,g2,g3,g4,g5⟩:=Ec (c:=(Ex.tru (.v 2)).den (PW (m-1))) (body:=Bl.den (PW (m-1)))
  (λn ρ G=>∃(Z us:List (List Nat))(f:D)(b3 R U:Option D),ρ=[some (.tup (es.map aD)),sR M.length,some f,b3,R,U]/\G[M.length]?=some (.lst (us.map cj))/\j8 M G/\fj G f=some (Z.map cj)/\Jt M.length f=true/\(∀w∈Z,Way es w)/\us.length+Phi es V Z<=60/\n=60-us.length/\(∀w∈us,Way es w)/\(∀k,k<es.length->[k]∈us++Z)/\∀w∈us,∀u∈ext es w,u∈us++Z)
  (fun ρ G=>∃(us:List (List Nat))(b2 b3 R U:Option D),ρ=[some (.tup (es.map aD)),sR M.length,b2,b3,R,U]/\G[M.length]?=some (.lst (us.map cj))/\j8 M G/\us.length<=60/\(∀w∈us,Way es w)/\∀w,Way es w->w∈us)
  (λn ρ G hI=>by
   refine hG λ_ _k=>?_
   obtain⟨Z,us,f,b3,R,U,rfl,g1,g2,g3,g4,g5,g6,rfl,g7,g8,g9⟩:=hI;have hs:=Ci g3;apply _k
   by_cases hw:Z=[]
   .left
    subst hw;exact⟨G,by simp[hs],us,some f,b3,R,U,rfl,g1,g2,by lia,g7,λw W=>amq (by simpa using g8) (by simpa using g9) _ rfl W⟩
   .right
    have K5:=Gk es V Z;have qq:0<Z.length:=jn.mpr hw
    have x1:=Zx g1 g3 g4 (by simp;lia);have k1:Jl M.length G (G.set M.length (.lst (us.map cj++Z.map cj))):=Jl.set _ _ _;have f1:=k1.fj g4 g3;generalize Zy:G.set M.length (.lst (us.map cj++Z.map cj))=M2 at x1 k1 f1;have t1:M2[M.length]?=some (.lst (us.map cj++Z.map cj)):=by rw[<- Zy];exact o6 g1
    have f2:fj (M2++[.lst []]) f=some (Z.map cj):=(j8.app _ _).fj f1;have hr:Jt M2.length f=true:=by
     cases f with
     |ref n =>
      have:n<M2.length:=by
       cases e:M2[n]? with
       |none=>simp[MW.fj,e] at f1|some o=>exact tu e
      simpa[Jt] using gh this
     |_=>rfl
    obtain⟨c4,c5,M3,e3,h3,k3⟩:=av6 (m:=m-1) (a1:=sR M.length) (a4:=R) (a5:=U) (by lia) E f2 g5 (by lia) zx hr;have tl:M.length<M2.length:=tu t1
    refine⟨G,.next,[some (.tup (es.map aD)),sR M.length,sR M2.length,sR M2.length,c4,c5],M3,60-(us++Z).length,?_,?_,.inl rfl,by simp;lia,Z.flatMap (ext es),us++Z,.ref M2.length,_,_,_,rfl,by rw[gf];exact k3 _ _ (gh tl) (Ba t1),?_,jd h3,?_,?_,?_,rfl,?_,λk hk=>ig _ (g8 k hk),?_⟩
    .simp[hs,hw]
    .simp only[Bl]
     simp[Ku g1,x1,MW.new,e3]
    .intro a o h
     have ha:=tu h;have:=g2 a o h;refine k3 a o (by lia) (Ba ?_);rw[<- Zy,jq (by lia)];exact this
    .simpa[Jt] using su tl
    .intro u hu
     obtain⟨w,h1,h2⟩:=zg.mp hu;exact Us (g5 w h1) h2
    .have:=Qm E Z
     rw[gr]
     lia
    .intro w hw
     rcases bx.mp hw with q|q
     .exact g7 w q
     .exact g5 w q
    .intro w hw u hu
     rcases bx.mp hw with q|q
     .exact ig _ (g9 w q u hu)
     .exact fu _ (zg.mpr ⟨w,q,hu⟩))
  Vd 60 [some (.tup (es.map aD)),sR M.length,some (.vl (((List.range es.length).map λk=>[k]).map cj)),none,none,none] (M++[.lst []]) (by decide)
  ⟨((List.range es.length).map λk=>[k]),[],_,none,none,none,rfl,zx,j8.app _ _,rfl,rfl,(Wk.start E).way,by
    have:=(Wk.start E).few;rw[List.drop_zero,Gk] at this;simpa using this,rfl,by simp,by simpa using(Wk.start E).one,by simp⟩
 apply _k;refine⟨us,M',?_,g1,g3,g2,g4,g5⟩;simp only[Fn.run,Kf,Ke];simp[-List.map_map,MW.new,c2,G7,Ls,a]
def So(s:Zz)(a b:Y3):Prop:=∀G Z,Sets s.es G Z->(s.gs.all (soB s.es G Z))=true->∀x:Int,0<=x->x<Gw G (Aj s.es a)->gone Z a x=gone Z b x
def Qq:gone acts (w++[k]) x=stp acts (gone acts w x) k:=by simp[gone,List.foldl_append]
def ams(S:Sets es zs acts)(Z:k<es.length)(G:0<=x)(h:x<Gw zs (at_ es k).1):0<=stp acts x k/\stp acts x k<Gw zs (at_ es k).2 :=
 (S.r k Z).2 _ (agn G (by rw[(S.r k Z).1];exact h))
theorem amt(S:Sets es zs acts):∀{w:Y3}{x:Int},Way es w->0<=x->x<Gw zs (Aj es w)->0<=gone acts w x/\gone acts w x<Gw zs (yp es w)
 |[],_,W,_,_=>absurd rfl W.ne|[k],x,W,h0,h=>ams S (W.lt k (by simp)) h0 h
 |a::b::r,x,W,h0,h=>by
  have m:=ams S (W.lt a (by simp)) h0 h;have Z:Way es (b::r):=⟨by simp,λi G=>W.lt i (bh _ G),W.ch.2⟩;have e:Aj es (b::r)=(at_ es a).2:=W.ch.1.symm;have:=amt S Z m.1 (by rw[e];exact m.2);rw[Gq (by simp)];exact this
def So.refl:So s a a:=λ_ _ _ _ _ _ _=>rfl
def So.cons(h:So s a b)(R:k<s.es.length)(e:(at_ s.es k).2=Aj s.es a):So s (k::a) (k::b):=λG Z S g x h0 U=>by have m:=ams S R h0 U;exact h G Z S g _ m.1 (by rw[<- e];exact m.2)
def So.app(h:So s a b)(R:a≠[]):So s (a++[k]) (b++[k]):=λU Z S g x h0 G=>by rw[Ir R] at G;rw[Qq,Qq,h U Z S g x h0 G]
theorem awb:∀r:List Int,(Aw r).length<=r.length
 |[]=>bf _
 |x::r=>by
  have:=awb r;unfold Aw;split<;>simp<;>lia
theorem awc:∀{r:X9},(Aw r).length=r.length->r.Nodup
 |[],_=>by simp
 |x::r,h=>by
  unfold Aw at h;have l:=awb r;split at h
  .simp at h;lia
  .next q=>exact kj.mpr ⟨q,awc (by simpa using h)⟩
theorem awd:∀{r:X9},r.Nodup->Aw r=r
 |[],_=>rfl
 |x::r,h=>by
  have h:=kj.mp h;unfold Aw;rw[bz h.1,awd h.2]
def Qs{r:X9}{x:Int}(Z:0<=x)(h:x<r.length):r[x.toNat]?=some (Gw r x):=by
 have:x.toNat<r.length:=by lia
 simp[Gw,List.getD,this]
def So.off(h:So s (a++[k]) (b++[k]))(B:N8 s.es a b)(hk:k<s.es.length)(e:(at_ s.es k).1=yp s.es a)(hg:.apart k∈s.gs):So s a b:=λzs Z S g x h0 R=>by
 have q:=h zs Z S g x h0 (by rw[Ir B.one.ne];exact R);rw[Qq,Qq] at q;have m:=jg.mp g _ hg;have nd:(Ay Z k).Nodup:=awc (by simpa[soB] using m);have U:=amt S B.one h0 R;have G:=amt S B.two h0 (by rw[<- B.st];exact R);rw[<- e,<- (S.r k hk).1] at U;rw[<- B.go,<- e,<- (S.r k hk).1] at G;have g1:=Qs U.1 U.2;have g2:=Qs G.1 G.2;have q':Gw (Ay Z k) (gone Z a x)=Gw (Ay Z k) (gone Z b x):=q;rw[q'] at g1;have:=Hs nd g1 g2
 lia
theorem So.same(h:.same a b∈s.gs):So s a b:=λG Z S g x R U=>by have m:=jg.mp g _ h;have m:Tn Z (Gw G (Aj s.es a)).toNat a b=true:=m;have:=jg.mp m x.toNat (ji.mpr (by lia));have:=iy this;rw[show((x.toNat:Nat):Int)=x by lia] at this;exact this
theorem So.trans(h1:So s a b)(h2:So s b c)(e:Aj s.es a=Aj s.es b):So s a c:=λG Z S g x R U=>(h1 G Z S g x R U).trans (h2 G Z S g x R (by rw[<- e];exact U))
theorem So.symm(U:So s a b)(e:Aj s.es a=Aj s.es b):So s b a:=λG Z S g x h0 R=>(U G Z S g x h0 (by rw[e];exact R)).symm
def So.Yl{Z:List Sp}(R:∀x∈Z,N8 s.es x.a x.b)(ho:∀x∈Z,So s x.a x.b)(W:Way s.es a)(h:G3 Z a b):So s a b:=by
 induction h with
 |refl=>exact So.refl
 |step h0 G h2 U =>
  have B:=R _ G;have O:=ho _ G;have B0:=h0.bes R W;rcases h2 with⟨rfl,rfl⟩|⟨rfl,rfl⟩
  .exact U.trans O B0.st
  .exact U.trans (O.symm B.st) B0.st
structure Ts(s:Zz)(ws:List (List Nat))(t p q:Nat)(M:dj)(ss:List Sp)(mk:Mk):Prop where
 T:Tie t p q M ss mk
 I:TI ss mk
 c:Cv ws ss
 b:∀x∈ss,N8 s.es x.a x.b
 o:∀x∈ss,So s x.a x.b
def Qt{mk:Mk}(A:Ts s G t p q M ss mk)(k:j8 M Z):Ts s G t p q Z ss mk:=⟨amm A.T k,A.I,A.c,A.b,A.o⟩
def V8{mk:Mk}(hm:3<=m)(L:Wys s.es ws)(A:Ts s ws t p q M ss mk)(B:N8 s.es a b)(O:So s a b)(y:D) :
 ∃G X Z,prog.call m 19 [.ref t,cj a,cj b,y] M=.ok .non G/\Ts s ws t p q G (ss++X) Z/\Mx p q M G/\G.length=M.length/\G3 (ss++X) a b/\(X=[]->Z=mk):=by
 obtain⟨G,qq,Z,e,T',R,B',l',⟨rfl,rfl,h⟩|⟨rfl,h⟩⟩:=amo hm A.T A.I (by have:=A.c.len;lia) a b y
 .exact⟨G,[],Z,e,⟨by simpa using T',by simpa using R,by simpa using A.c,by simpa using A.b,by simpa using A.o⟩,B',l',by simpa using h,λ_=>rfl⟩
 .refine⟨G,[⟨a,b,y⟩],Z,e,⟨T',R,A.c.step (L.all _ rfl B.one) (L.all _ rfl B.two) h,λx U=>?_,λx U=>?_⟩,B',l',.step .refl (fu _ cz) (.inl ⟨rfl,rfl⟩),λh=>by simp at h⟩
  .rcases bx.mp U with q|q
   .exact A.b x q
   .simp at q;subst q;exact B
  .rcases bx.mp U with q|q
   .exact A.o x q
   .simp at q;subst q;exact O
def abr{R:Mk}(hm:3<=m)(L:Wys s.es ws)(A:Ts s ws t p q M ss R)(c:Prop)(h:c->N8 s.es a b/\So s a b)(y:D) :
 ∃G X Z,(c->prog.call m 19 [.ref t,cj a,cj b,y] M=.ok .non G)/\(¬c->G=M)/\Ts s ws t p q G (ss++X) Z/\Mx p q M G/\G.length=M.length/\(c->G3 (ss++X) a b)/\(X=[]->Z=R):=by
 by_cases U:c
 .refine hG λ_ _k=>?_
  obtain⟨G,X,Z,e,A',B',l',g,i⟩:=V8 hm L A (h U).1 (h U).2 y;apply _k;exact⟨G,X,Z,λ_=>e,λq=>absurd U q,A',B',l',λ_=>g,i⟩
 .exact⟨M,[],R,λq=>absurd q U,λ_=>rfl,by simpa using A,Mx.refl _ _ _,rfl,λq=>absurd q U,λ_=>rfl⟩
def pa1{mk:Mk}{x:Sp}(hm:3<=m)(E:Ends s.es V)(L:Wys s.es ws)(A:Ts s ws t p q M ss mk)(B:N8 s.es x.a x.b)(O:So s x.a x.b) :
 ∃X Z V6 G M',Hl.den (PW m) [sR t,some (.tup (s.es.map aD)),some (cj x.a),some (cj x.b),b4,b5,b6] M=.ok (.next,[sR t,some (.tup (s.es.map aD)),some (cj x.a),some (cj x.b),b4,V6,G]) M'/\Ts s ws t p q M' (ss++X) Z/\Mx p q M M'/\M'.length=M.length/\(X=[]->Z=mk) /\
  ∀k,k<s.es.length->((at_ s.es k).2=Aj s.es x.a->G3 (ss++X) (k::x.a) (k::x.b))/\((at_ s.es k).1=yp s.es x.a->G3 (ss++X) (x.a++[k]) (x.b++[k])):=by
 unfold Hl;refine hG λ_ _k=>?_
 have la:=Dc E B.one;have lb:=Dc E B.two;obtain⟨qk,M',e,X,Z,V6,G,rfl,h1,h2,h3,h4,h5⟩:=Ma (W:=PW m) (it:=.v 1) (t:=.names [5,6]) (b:=Ep) (ρ:=[sR t,D.tup (s.es.map aD),cj x.a,cj x.b,b4,b5,b6]) (M:=M) (M1:=M) (ds:=s.es.map aD) rfl
  (λi ρ M1=>∃(X:List Sp)(Z:Mk)(V6 G:Option D),ρ=[sR t,some (.tup (s.es.map aD)),some (cj x.a),some (cj x.b),b4,V6,G]/\Ts s ws t p q M1 (ss++X) Z/\Mx p q M M1/\M1.length=M.length/\(X=[]->Z=mk) /\
   ∀k,k<i->((at_ s.es k).2=Aj s.es x.a->G3 (ss++X) (k::x.a) (k::x.b))/\((at_ s.es k).1=yp s.es x.a->G3 (ss++X) (x.a++[k]) (x.b++[k])))
  ⟨[],mk,b5,b6,rfl,by simpa using A,Mx.refl _ _ _,rfl,λ_=>rfl,λk hk=>absurd hk (qj _)⟩
  (λi y ρ M1 hy hI=>by
   refine hG λ_ _k=>?_
   obtain⟨X,Z,V6,G,rfl,A1,B1,l1,i1,C1⟩:=hI;have hi:i<s.es.length:=by simpa using(ak.mp hy).1
   have ex:y=aD (at_ s.es i):=by simpa[Om hi] using hy.symm
   subst ex;obtain⟨M2,X2,qv,e2,n2,A2,B2,l2,t2,i2⟩:=abr (m:=m) (a:=i::x.a) (b:=i::x.b) hm L A1 ((at_ s.es i).2=Aj s.es x.a) (λq=>⟨B.cons hi q,O.cons hi q⟩) (.tup [sD "put",.tup [.int i],.tup []]);obtain⟨M3,X3,qq,R,n3,A3,B3,l3,t3,i3⟩:=abr (m:=m) (a:=x.a++[i]) (b:=x.b++[i]) hm L A2 ((at_ s.es i).1=yp s.es x.a) (λq=>⟨B.app hi q,O.app B.one.ne⟩) (.tup [sD "put",.tup [],.tup [.int i]]);have w1:=Hq (m:=m) (M:=M1) (d:=.tup (s.es.map aD)) (by lia) rfl B.one;have w2:=Ho (m:=m) (M:=M2) (d:=.tup (s.es.map aD)) (by lia) rfl B.one;have r1:∀M,Ax .add (.tup [.int i]) (cj x.a) M=.ok (cj (i::x.a)) M:=λM=>Yj _ _ (by lia)
   have r2:∀M,Ax .add (.tup [.int i]) (cj x.b) M=.ok (cj (i::x.b)) M:=λM=>Yj _ _ (by lia)
   have r3:∀M,Ax .add (cj x.a) (.tup [.int i]) M=.ok (cj (x.a++[i])) M:=λM=>Hr _ _ (by lia)
   have r4:∀M,Ax .add (cj x.b) (.tup [.int i]) M=.ok (cj (x.b++[i])) M:=λM=>Hr _ _ (by lia)
   have as:ss++X++X2++X3=ss++(X++(X2++X3)):=by simp
   rw[as] at A3 t3;apply _k;refine⟨_,.next,[sR t,some (.tup (s.es.map aD)),some (cj x.a),some (cj x.b),b4,sI i,some (aD (at_ s.es i))],M3,rfl,?_,.inl rfl,X++(X2++X3),qq,_,_,rfl,A3,(B1.trans B2).trans B3,by lia,?_,?_⟩
   .show Ep.den (PW m) [sR t,some (.tup (s.es.map aD)),some (cj x.a),some (cj x.b),b4,sI i,some (aD (at_ s.es i))] M1=_
    have j1:=A1.T.i;have j2:=A2.T.i;simp only[Ep];unfold sD at e2 R
    by_cases c1:(at_ s.es i).2=Aj s.es x.a
    .have e2:=e2 c1
     by_cases U:(at_ s.es i).1=yp s.es x.a
     .have R:=R U
      simp[Hv,Mw,w1,w2,Cd,u9,c1,U,j1,j2,My,List.lookup,r1,r2,r3,r4,e2,R]
     .have n3:=n3 U
      simp[Hv,Mw,w1,w2,Cd,u9,c1,U,j1,j2,My,List.lookup,r1,r2,r3,r4,e2,n3]
    .have n2:=n2 c1
     subst n2
     by_cases U:(at_ s.es i).1=yp s.es x.a
     .have R:=R U
      simp[Hv,Mw,w1,w2,Cd,u9,c1,U,j1,j2,My,List.lookup,r1,r2,r3,r4,R]
     .have n3:=n3 U
      simp[Hv,Mw,w1,w2,Cd,u9,c1,U,j1,j2,My,List.lookup,r1,r2,r3,r4,n3]
   .intro h
    simp at h;rw[i3 h.2.2,i2 h.2.1,i1 h.1]
   .intro k hk
    rw[<- as];rcases Nat.lt_or_eq_of_le (wz hk) with q|rfl
    .exact⟨λh=>((C1 k q).1 h).more.more,λh=>((C1 k q).2 h).more.more⟩
    .exact⟨λh=>(t2 h).more,λh=>by rw[as];exact t3 h⟩)
 rw[bu] at h5;apply _k;exact⟨X,Z,V6,G,M',e,h1,h2,h3,h4,h5⟩
def Put(Z:List Ar)(U G:List Sp):Prop:=∀x∈U,∀k,k<Z.length->((at_ Z k).2=Aj Z x.a->G3 G (k::x.a) (k::x.b))/\((at_ Z k).1=yp Z x.a->G3 G (x.a++[k]) (x.b++[k]))
def awe{Z:Mk}(A:Ts s G t p q M ss Z):t<M.length/\p<M.length/\q<M.length:=⟨tu A.T.i,tu A.T.s,tu A.T.k⟩
def a4n{mk:Mk}(hm:4<=m)(E:Ends s.es V)(L:Wys s.es ws)(A:Ts s ws t p q M ss mk) :
 ∃X Z M',prog.call m 21 [.ref t,.tup (s.es.map aD)] M=.ok .non M'/\Ts s ws t p q M' (ss++X) Z/\Mx p q M M'/\M.length<=M'.length/\(X=[]->Z=mk)/\Put s.es ss (ss++X):=by
 rw[call_of (au (by decide) hm) rfl];refine hG λ_ _k=>?_
 obtain⟨-,lp,lq⟩:=awe A;have li:ph .list [.ref p] M=.ok (.ref M.length) (M++[.lst (ss.map Sp.toD)]):=by have a:=Ci (jd A.T.s);simp only[ph,Fv,a,MW.new]
 obtain⟨qk,M',e,X,Z,b2,b3,b4,U,R,rfl,A',B',l',i',C'⟩:=zy (W:=PW (m-1)) (it:=.blt .list (.o (.fld (.v 0) 1))) (t:=.names [2,3,4]) (b:=Er) (ρ:=[sR t,D.tup (s.es.map aD),none,none,none,none,none]) (M:=M) (M1:=M++[.lst (ss.map Sp.toD)]) (d:=.ref M.length) (by simp[agv A.T,li]) (jd zx)
  (λi ρ G=>∃(X:List Sp)(Z:Mk)(b2 b3 b4 U R:Option D),ρ=[sR t,some (.tup (s.es.map aD)),b2,b3,b4,U,R]/\Ts s ws t p q G (ss++X) Z/\Mx p q (M++[.lst (ss.map Sp.toD)]) G/\(M++[MO.lst (ss.map Sp.toD)]).length<=G.length/\(X=[]->Z=mk)/\Put s.es (ss.take i) (ss++X))
  ⟨[],mk,none,none,none,none,none,rfl,by simpa using Qt A (j8.app _ _),Mx.refl _ _ _,bf _,λ_=>rfl,by intro x hx;simp at hx⟩
  (λi ρ G h=>by
   refine hG λ_ _k=>?_
   obtain⟨_,_,_,_,_,_,_,_,_,k,_⟩:=h;apply _k;exact jd (k _ _ (by lia) (by lia) zx))
  (λi y ρ G hy hI=>by
   refine hG λ_ _k=>?_
   obtain⟨X,Z,b2,b3,b4,U,R,rfl,A1,B1,l1,i1,C1⟩:=hI;obtain⟨x,hi,rfl⟩:∃x,ss[i]?=some x/\x.toD=y:=by simpa using hy
   have hx:=bc hi;obtain⟨X2,qq,c5,c6,M2,e2,A2,B2,l2,i2,C2⟩:=pa1 (m:=m-1) (b4:=some x.y) (b5:=U) (b6:=R) (by lia) E L A1 (A.b x hx) (A.o x hx);have as:ss++X++X2=ss++(X++X2):=by simp
   rw[as] at A2 C2;apply _k;refine⟨_,.next,_,M2,rfl,by
    show Er.den (PW (m-1)) [sR t,some (.tup (s.es.map aD)),some (cj x.a),some (cj x.b),some x.y,U,R] G=_;simp only[Er,Vi,e2];rfl,.inl rfl,X++X2,qq,_,_,_,_,_,rfl,A2,B1.trans B2,by lia,?_,?_⟩
   .intro h
    simp at h;rw[i2 h.2,i1 h.1]
   .rw[m5,hi]
    intro z hz k hk;rcases bx.mp hz with r|r
    .have:=C1 z r k hk
     rw[<- as];exact⟨λh=>(this.1 h).more,λh=>(this.2 h).more⟩
    .have r:z=x:=by simpa using r
     subst r;exact C2 k hk)
 simp only[bu,qd] at C';apply _k;refine⟨X,Z,M',?_,A',(Mx.of (j8.app _ _)).trans B',by simp at l';lia,i',C'⟩;have e':Mq.den (PW (m-1)) _ M=_:=e;simp[Fn.run,Qg,Qf,e']
noncomputable def arw:Gn->Nat
 |.apart k=>k|.same _ _=>0
def Zz.ks(s:Zz):List Nat:=(s.gs.filter λg=>!isS g).map arw
def amu{s:Zz}{k:Nat}:k∈s.ks↔.apart k∈s.gs:=by
 unfold Zz.ks;rw[di];constructor
 .rintro⟨g,G,rfl⟩
  obtain⟨U,Z⟩:=qi.mp G;cases g with
  |same a b=>cases Z|apart k=>exact U
 .intro h
  exact⟨_,qi.mpr ⟨h,rfl⟩,rfl⟩
def a4o{s:Zz}(Z:1<=m)(U:s.gs.length<=8):prog.call m 14 [.tup (s.gs.map Gn.toD)] M=.ok (.vl (s.ks.map nD)) M:=by
 rw[call_of Z rfl];have c:Fy.den (PW (m-1)) [some (.tup (s.gs.map Gn.toD))] M=.ok (.vl (s.ks.map nD)) M:=by
  unfold Fy;rw[Ht (d:=.tup (s.gs.map Gn.toD)) (M1:=M) (xs:=s.gs) (f:=Gn.toD) (q:=λg=>!isS g) (g:=λg=>nD (arw g)) rfl rfl (by lia) (λg G=>⟨_,rfl,by
   cases g<;>simp[Gn.toD,isS,al7.symm],λh=>by
   cases g with
   | same a b=>cases h|apart k=>simp[Gn.toD,arw,nD]⟩)]
  simp[Zz.ks,ir,jb]
 simp[Fn.run,Mp,Mm,c]
def Off(Z:List Ar)(G:List Sp)(k:Nat):Prop:=∀a b,Way Z a->Way Z b->yp Z a=(at_ Z k).1->yp Z b=(at_ Z k).1->G3 G (a++[k]) (b++[k])->G3 G a b
def ayj{mk:Mk}(A:Ts s U t p q M ss mk)(R:f≠t)(Z:f≠p)(G:f≠q):Ts s U t p q (M.set f o) ss mk :=
 ⟨⟨by rw[jq R];exact A.T.i,by rw[jq Z];exact A.T.s,by rw[jq G];exact A.T.k⟩,A.I,A.c,A.b,A.o⟩
def ael{Z:Mk}(I:TI ss Z)(w:Y3):G3 ss (mkOf Z w) w:=(I.Yl _ _).mp (I.id w)
structure Fst(es:List Ar)(k:Nat)(ss:List Sp)(F:Mk):Prop where
 h:∀x∈F,Way es x.2/\yp es x.2=(at_ es k).1/\G3 ss (x.2++[k]) x.1
def a4p(h:M[n]?=some (.dT Z)):Lh .setdefault (.ref n) M=true:=by simp[Lh,h]
def to0{U F:Mk}(hg:.apart k∈s.gs)(hk:k<s.es.length)(A:Ts s ws t p q M ss U)(hf:M[f]?=some (.dT (Jh F)))(h1:f≠t)(h2:f≠p)(h3:f≠q)(S:Fst s.es k ss F)(hl:F.length<=1000)(W:Way s.es w)(hw:yp s.es w=(at_ s.es k).1) :
 ∃g G R,Fw .setdefault (.ref f) [cj (mkOf U (w++[k])),cj w] M=.ok (cj g) R/\Ts s ws t p q R ss U/\R[f]?=some (.dT (Jh G))/\Jl f M R/\R.length=M.length/\N8 s.es g w/\So s g w/\Fst s.es k ss G/\G.length<=F.length+1 /\
  mkOf U (w++[k])∈G.map (·.1)/\mkOf G (mkOf U (w++[k]))=g/\∀x∈F.map (·.1),x∈G.map (·.1)/\mkOf G x=mkOf F x:=by
 have tg:=ael A.I (w++[k]);generalize mkOf U (w++[k])=κ at tg;have sd:∀v,Eh (Jh F) (kx κ)=some v->Fw .setdefault (.ref f) [cj κ,cj w] M=.ok v M:=λv h=>by simp only[Fw,onT,hf,Hw,h]
 by_cases h:κ∈F.map (·.1)
 .have m:=agt h
  obtain⟨w1,w2,w3⟩:=S.h _ m;have tt:=w3.trans tg;have W1:=w1.app hk w2.symm;have B1:=tt.bes A.b W1;have B:N8 s.es (mkOf F κ) w:=⟨w1,W,by have:=B1.st;rw[Ir w1.ne,Ir W.ne] at this;exact this,w2.trans hw.symm⟩;have O:=So.off (So.Yl A.b A.o W1 tt) B hk w2.symm hg;refine⟨mkOf F κ,F,M,sd _ ?_,A,hf,Jl.refl _ _,rfl,B,O,S,by lia,h,rfl,λx Z=>⟨Z,rfl⟩⟩;obtain⟨v,e1,_⟩:=find_some h;rw[lk_row,mkOf,e1];rfl
 .have n:Eh (Jh F) (kx κ)=none:=by rw[lk_row,find_none h];rfl
  have lf:(Jh F).length<100000:=by simp[Jh];lia
  have qq:Jh F++[(kx κ,cj w)]=Jh (F++[(κ,w)]):=by simp[Jh]
  have fa:∀x∈F.map (·.1),mkOf (F++[(κ,w)]) x=mkOf F x:=λx Z=>by obtain⟨v,e1,_⟩:=find_some Z;rw[mkOf,mkOf,List.find?_append,e1];rfl
  refine⟨w,F++[(κ,w)],M.set f (.dT (Jh (F++[(κ,w)]))),?_,ayj A h1 h2 h3,o6 hf,Jl.set _ _ _,by simp,⟨W,W,rfl,rfl⟩,So.refl,⟨λx Z=>?_⟩,by simp,by simp,?_,λx Z=>⟨by rw[gf];exact ig _ Z,fa x Z⟩⟩
  .simp only[Fw,onT,hf,Hw,n,lf,km,qq]
  .rcases bx.mp Z with r|r
   .exact S.h x r
   .have r:x=(κ,w):=by simpa using r
    subst r;exact⟨W,hw,tg.symm⟩
  .rw[mkOf,List.find?_append,find_none h];simp
def amv(S:Fst es k ss F):Fst es k (ss++X) F:=⟨λx Z=>let ⟨a,b,c⟩:=S.h x Z;⟨a,b,c.more⟩⟩
def to1{R:Mk}{k:Nat}(hm:3<=m)(E:Ends s.es V)(L:Wys s.es ws)(hg:.apart k∈s.gs)(hk:k<s.es.length)(A:Ts s ws t p q M ss R)(hf:M[f]?=some (.dT []))(h1:f≠t)(h2:f≠p)(h3:f≠q)(B0:Mx p q M0 M)(l0:M0.length<=f)(qv:p<M0.length/\q<M0.length) :
 ∃X Z V6 G M',Ko.den (PW m) [sR t,some (.tup (s.es.map aD)),b2,sI k,sR f,b5,b6] M=.ok (.next,[sR t,some (.tup (s.es.map aD)),b2,sI k,sR f,V6,G]) M'/\Ts s ws t p q M' (ss++X) Z/\Mx p q M0 M'/\M.length<=M'.length/\(X=[]->Z=R/\Off s.es ss k):=by
 unfold Ko;refine hG λ_ _k=>?_
 obtain⟨us,M1,e1,g1,n1,k1,w1,a1⟩:=amr (m:=m) (M:=M) (by lia) E;have fl:=tu hf;obtain⟨qk,M',e,X,Z,F,V6,G,rfl,A',B',l',-,-,-,-,C'⟩:=zy (W:=PW m) (it:=.call 13 (.o (.v 1))) (t:=.name 5) (b:=Cz) (ρ:=[sR t,D.tup (s.es.map aD),b2,sI k,sR f,b5,b6]) (M:=M) (M1:=M1) (d:=.ref M.length) (by simp[e1]) (jd g1)
  (λi ρ M2=>∃(X:List Sp)(Z F:Mk)(V6 G:Option D),ρ=[sR t,some (.tup (s.es.map aD)),b2,sI k,sR f,V6,G]/\Ts s ws t p q M2 (ss++X) Z/\Mx p q M0 M2/\M.length<=M2.length/\M2[f]?=some (.dT (Jh F))/\M2[M.length]?=some (.lst (us.map cj))/\Fst s.es k (ss++X) F/\F.length<=i /\
   (X=[]->Z=R/\∀w∈us.take i,yp s.es w=(at_ s.es k).1->mkOf R (w++[k])∈F.map (·.1)/\G3 ss w (mkOf F (mkOf R (w++[k])))))
  ⟨[],R,[],b5,b6,rfl,by simpa using Qt A k1,B0.trans (Mx.of k1),j8.len k1,k1 _ _ hf,g1,⟨by simp⟩,bf _,λ_=>⟨rfl,by simp⟩⟩
  (λi ρ M2 h=>by
   refine hG λ_ _k=>?_
   obtain⟨_,_,_,_,_,_,_,_,_,_,k,_⟩:=h;apply _k;exact jd k)
  (λi y ρ M2 hy hI=>by
   refine hG λ_ _k=>?_
   obtain⟨X,Z,F,V6,G,rfl,A2,B2,l2,f2,u2,S2,n2,C2⟩:=hI;obtain⟨w,hi,rfl⟩:∃w,us[i]?=some w/\cj w=y:=by simpa using hy
   have il:=(ak.mp hi).1;have W:=w1 w (bc hi);have wl:=Dc E W;have v1:=Ho (m:=m) (M:=M2) (d:=.tup (s.es.map aD)) (by lia) rfl W;have v2:=Fq (M:=M2) (d:=.tup (s.es.map aD)) rfl hk;apply _k
   by_cases c:yp s.es w=(at_ s.es k).1
   .refine hG λ_ _k=>?_
    obtain⟨g,F',M3,e3,A3,f3,B3,l3,Bs,O,S3,n3,m3,q3,o3⟩:=to0 hg hk A2 f2 h1 h2 h3 S2 (by lia) W c;obtain⟨M4,X4,qq,e4,A4,B4,l4,t4,i4⟩:=V8 (m:=m) hm L A3 Bs O (.tup [sD "off",.int k]);have mo:=Qp (m:=m) (w:=w++[k]) (by lia) A2.T;have r3:Ax .add (cj w) (.tup [.int k]) M2=.ok (cj (w++[k])) M2:=Hr _ _ (by lia);have as:ss++X++X4=ss++(X++X4):=by simp
    rw[as] at A4;have bt:Mx p q M0 M3:=λa o x1 x2 h=>B3 a o (by have:=tu h;lia) (B2 a o x1 x2 h)
    apply _k;refine⟨_,.next,[sR t,some (.tup (s.es.map aD)),b2,sI k,sR f,some (cj w),some (cj g)],M4,rfl,?_,.inl rfl,X++X4,qq,F',_,_,rfl,A4,bt.trans B4,by lia,B4 _ _ h2 h3 f3,B4 _ _ (by lia) (by lia) (B3 _ _ (by lia) u2),by rw[<- as];exact amv S3,by lia,?_⟩
    .show Cz.den (PW m) [sR t,some (.tup (s.es.map aD)),b2,sI k,sR f,some (cj w),G] M2=_
     have j2:=A2.T.i;have j3:=A3.T.i;unfold sD at e4;simp only[Cz];simp[v1,v2,Hv,Cd,u9,c,a4p f2,j2,j3,My,List.lookup,r3,mo,e3,e4]
    .intro U
     simp at U;obtain⟨rfl,rfl⟩:=U;obtain⟨rfl,C⟩:=C2 rfl;have i4:=i4 rfl;subst i4;refine⟨rfl,λu hu hc=>?_⟩;rw[m5,hi] at hu;rcases bx.mp hu with r|r
     .obtain⟨x1,x2⟩:=C u r hc
      obtain⟨y1,y2⟩:=o3 _ x1;exact⟨y1,by rw[y2];exact x2⟩
     .have r:u=w:=by simpa using r
      subst r;exact⟨m3,by rw[q3];simpa using t4.symm⟩
   .refine⟨_,.next,[sR t,some (.tup (s.es.map aD)),b2,sI k,sR f,some (cj w),G],M2,rfl,?_,.inl rfl,X,Z,F,_,_,rfl,A2,B2,l2,f2,u2,S2,by lia,λU=>⟨(C2 U).1,λu hu hc=>?_⟩⟩
    .show Cz.den (PW m) [sR t,some (.tup (s.es.map aD)),b2,sI k,sR f,some (cj w),G] M2=_
     simp only[Cz];simp[v1,v2,Hv,Cd,u9,c]
    .rw[m5,hi] at hu
     rcases bx.mp hu with r|r
     .exact(C2 U).2 u r hc
     .have r:u=w:=by simpa using r
      subst r;exact absurd hc c)
 simp only[bu,qd] at C';apply _k;refine⟨X,Z,V6,G,M',e,A',B',l',λU=>⟨(C' U).1,λa b Wa Wb ga gb tg=>?_⟩⟩;obtain⟨x1,x2⟩:=(C' U).2 a (a1 a Wa) ga;obtain⟨y1,y2⟩:=(C' U).2 b (a1 b Wb) gb;rw[(A.I.Yl _ _).mpr tg] at x2;exact x2.trans y2.symm
def a4q{mk:Mk}(hm:4<=m)(h:Hu s V)(L:Wys s.es ws)(A:Ts s ws t p q M ss mk) :
 ∃X Z M',prog.call m 22 [.ref t,.tup (s.es.map aD),.vl (s.ks.map nD)] M=.ok .non M'/\Ts s ws t p q M' (ss++X) Z/\Mx p q M M'/\M.length<=M'.length/\(X=[]->Z=mk/\∀k,.apart k∈s.gs->Off s.es ss k):=by
 rw[call_of (au (by decide) hm) rfl];refine hG λ_ _k=>?_
 obtain⟨lt,lp,lq⟩:=awe A;obtain⟨qk,M',e,X,Z,b3,b4,U,R,rfl,A',B',l',C'⟩:=zy (W:=PW (m-1)) (it:=.v 2) (t:=.name 3) (b:=G8) (ρ:=[sR t,D.tup (s.es.map aD),D.vl (s.ks.map nD),none,none,none,none]) (M:=M) (M1:=M) (d:=.vl (s.ks.map nD)) rfl rfl
  (λi ρ G=>∃(X:List Sp)(Z:Mk)(b3 b4 U R:Option D),ρ=[sR t,some (.tup (s.es.map aD)),some (.vl (s.ks.map nD)),b3,b4,U,R]/\Ts s ws t p q G (ss++X) Z/\Mx p q M G/\M.length<=G.length/\(X=[]->Z=mk/\∀k∈s.ks.take i,Off s.es ss k))
  ⟨[],mk,none,none,none,none,rfl,by simpa using A,Mx.refl _ _ _,bf _,λ_=>⟨rfl,by simp⟩⟩
  (λ_ _ _ _=>rfl)
  (λi y ρ G hy hI=>by
   refine hG λ_ _k=>?_
   obtain⟨X,Z,b3,b4,U,R,rfl,A1,B1,l1,C1⟩:=hI;obtain⟨k,hi,rfl⟩:∃k,s.ks[i]?=some k/\nD k=y:=by simpa using hy
   have hg:=amu.mp (bc hi);have hk:k<s.es.length:=h.gs _ hg
   have A2:=Qt A1 (j8.app G [.dT []]);obtain⟨X3,qq,c5,c6,M3,e3,A3,B3,l3,C3⟩:=to1 (m:=m-1) (b2:=some (.vl (s.ks.map nD))) (b5:=U) (b6:=R) (M0:=M) (by lia) h.E L hg hk A2 zx (by lia) (by lia) (by lia) (B1.trans (Mx.of (j8.app _ _))) l1 ⟨lp,lq⟩;have as:ss++X++X3=ss++(X++X3):=by simp
   rw[as] at A3;apply _k;refine⟨_,.next,[sR t,some (.tup (s.es.map aD)),some (.vl (s.ks.map nD)),sI k,sR G.length,c5,c6],M3,rfl,by
    show G8.den (PW (m-1)) [sR t,some (.tup (s.es.map aD)),some (.vl (s.ks.map nD)),sI k,b4,U,R] G=_;simp[G8,MW.new,e3],.inl rfl,X++X3,qq,_,_,_,_,rfl,A3,B3,by simp at l3;lia,?_⟩
   intro hx;simp at hx;refine hG λ_ _k=>?_
   obtain⟨rfl,rfl⟩:=hx;obtain⟨rfl,D1⟩:=C1 rfl;obtain⟨rfl,D3⟩:=C3 rfl;apply _k;refine⟨rfl,λj hj=>?_⟩;rw[m5,hi] at hj;rcases bx.mp hj with r|r
   .exact D1 j r
   .have r:j=k:=by simpa using r
    subst r;simpa using D3)
 simp only[bu,qd] at C';apply _k;refine⟨X,Z,M',?_,A',B',l',λhx=>⟨(C' hx).1,λk hk=>(C' hx).2 k (amu.mpr hk)⟩⟩;have e':Qh.den (PW (m-1)) _ M=_:=e;simp[Fn.run,Vq,Vp,e']
def agx(G:1<=m):prog.call m 15 [.ref M.length] (M++[.ins 5 []])=.ok .non (M++[.ins 5 [(1,.ref (M.length+1)),(0,.ref (M.length+2))],.lst [],.dT []]):=by
 rw[call_of G rfl];have U:Vc (.ref M.length) 1 (.ref (M.length+1)) (M++[.ins 5 [],.lst []])=some (M++[.ins 5 [(1,.ref (M.length+1))],.lst []]):=by simp[Vc,Vb]
 have Z:Vc (.ref M.length) 0 (.ref (M.length+2)) (M++[.ins 5 [(1,.ref (M.length+1))],.lst [],.dT []])=some (M++[.ins 5 [(1,.ref (M.length+1)),(0,.ref (M.length+2))],.lst [],.dT []]):=by simp[Vc,Vb]
 simp[Fn.run,Oc,Ob,MW.new,U,Z]
structure Clo(s:Zz)(ss:List Sp):Prop where
 put:Put s.es ss ss
 off:∀k,.apart k∈s.gs->Off s.es ss k
 same:∀a b,.same a b∈s.gs->G3 ss a b
def at1{mk:Mk}(hm:3<=m)(h:Hu s V)(L:Wys s.es ws)(A:Ts s ws t p q M [] mk) :
 ∃U Z b2 R M',Km.den (PW m) [some s.toD,sR t,none,none,none] M=.ok (.next,[some s.toD,sR t,b2,R,none]) M'/\Ts s ws t p q M' U Z/\Mx p q M M'/\M.length<=M'.length/\∀a b,.same a b∈s.gs->G3 U a b:=by
 unfold Km;refine hG λ_ _k=>?_
 have i1:∀M,vh s.toD (.int 1) M=some (.tup (s.gs.map Gn.toD)):=λM=>Nr _ _ _
 obtain⟨qk,M',e,U,Z,b2,R,rfl,A',B',l',C'⟩:=Ma (W:=PW m) (it:=.ix (.v 0) (.i 1)) (t:=.names [2,3]) (b:=Cy) (ρ:=[some s.toD,sR t,none,none,none]) (M:=M) (M1:=M) (ds:=s.gs.map Gn.toD) (by simp[i1])
  (λi ρ G=>∃(U:List Sp)(Z:Mk)(b2 R:Option D),ρ=[some s.toD,sR t,b2,R,none]/\Ts s ws t p q G U Z/\Mx p q M G/\M.length<=G.length/\∀a b,.same a b∈s.gs.take i->G3 U a b)
  ⟨[],mk,none,none,rfl,A,Mx.refl _ _ _,bf _,by simp⟩
  (λi y ρ G hy hI=>by
   refine hG λ_ _k=>?_
   obtain⟨U,Z,b2,R,rfl,A1,B1,l1,C1⟩:=hI;obtain⟨g,hi,rfl⟩:∃g,s.gs[i]?=some g/\g.toD=y:=by simpa using hy
   have hg:=bc hi;apply _k;cases g with
   |same a b =>
    refine hG λ_ _k=>?_
    obtain⟨M2,X,qq,e2,A2,B2,l2,t2,-⟩:=V8 (m:=m) hm L A1 (h.gs _ hg) (So.same hg) (.tup [sD "given",.int i]);apply _k;refine⟨_,.next,[some s.toD,sR t,sI i,some (Gn.toD (.same a b)),none],M2,rfl,?_,.inl rfl,U++X,qq,_,_,rfl,A2,B1.trans B2,by lia,λc d hc=>?_⟩
    .show Cy.den (PW m) [some s.toD,sR t,sI i,some (Gn.toD (.same a b)),none] G=_
     unfold sD at e2;have j:=A1.T.i;have x0:vh (Gn.toD (.same a b)) (.int 0) G=some (.str (PySem.Str.ofString "same")):=Ih _ _;have x1:vh (Gn.toD (.same a b)) (.int 1) G=some (cj a):=Nr _ _ _;have x2:vh (Gn.toD (.same a b)) (.int 2) G=some (cj b):=Um _ _ _ _;simp[Cy,x0,x1,x2,j,My,List.lookup,e2]
    .rw[m5,hi] at hc
     rcases bx.mp hc with r|r
     .exact(C1 c d r).more
     .have r:Gn.same c d=Gn.same a b:=jm.mp r
      cases r;exact t2
   |apart k =>
    refine⟨_,.next,[some s.toD,sR t,sI i,some (Gn.toD (.apart k)),none],G,rfl,?_,.inl rfl,U,Z,_,_,rfl,A1,B1,l1,λc d hc=>?_⟩
    .show Cy.den (PW m) [some s.toD,sR t,sI i,some (Gn.toD (.apart k)),none] G=_
     have x0:vh (Gn.toD (.apart k)) (.int 0) G=some (.str (PySem.Str.ofString "apart")):=Ih _ _;simp[Cy,x0,al7]
    .rw[m5,hi] at hc
     rcases bx.mp hc with r|r
     .exact C1 c d r
     .cases jm.mp r)
 rw[bu,qd] at C';apply _k;exact⟨U,Z,b2,R,M',e,A',B',l',C'⟩
def aem(hm:5<=m)(h:Hu s V)(L:Wys s.es ws):∃p q Z U M',prog.call m 20 [s.toD] M=.ok (.ref M.length) M'/\Ts s ws M.length p q M' Z U/\Clo s Z/\j8 M M':=by
 rw[call_of (au (by decide) hm) rfl];have e0:=agx (m:=m-1) (M:=M) (by lia);generalize hM1:M++[.ins 5 [(1,.ref (M.length+1)),(0,.ref (M.length+2))],.lst [],.dT []]=M1 at e0;have k1:j8 M M1:=hM1▸j8.app _ _;have l1:M1.length=M.length+3:=by rw[<- hM1];simp
 refine hG λ_ _k=>?_
 have A1:Ts s ws M.length (M.length+1) (M.length+2) M1 [] []:=⟨⟨by rw[<- hM1];simp,by rw[<- hM1];simp,by rw[<- hM1];simp[Jh]⟩,aye,⟨ws,λw hw=>⟨w,hw,.refl⟩,by simpa using L.few⟩,by simp,by simp⟩;obtain⟨R,qq,b2,b3,M2,e2,A2,B2,l2,C2⟩:=at1 (m:=m-1) (by lia) h L A1;have i0:∀M,vh s.toD (.int 0) M=some (.tup (s.es.map aD)):=λM=>Ih _ _
 have i1:∀M,vh s.toD (.int 1) M=some (.tup (s.gs.map Gn.toD)):=λM=>Nr _ _ _
 obtain⟨qv,M',e,Z,U,z,rfl,A',B',l',C'⟩:=Ec (c:=(Ex.cmp .ne (.v 4) (.l (.fld (.v 1) 1))).den (PW (m-1))) (body:=Kl.den (PW (m-1)))
  (λn ρ G=>∃(Z:List Sp)(U:Mk)(z:Int),ρ=[some s.toD,sR M.length,b2,b3,sI z]/\Ts s ws M.length (M.length+1) (M.length+2) G Z U/\Mx (M.length+1) (M.length+2) M1 G/\M1.length<=G.length/\(∀a b,.same a b∈s.gs->G3 Z a b)/\(z=(Z.length:Int)->Put s.es Z Z/\∀k,.apart k∈s.gs->Off s.es Z k)/\n=if z=(Z.length:Int) then 0 else 1+(60-Z.length))
  (fun ρ G=>∃(Z:List Sp)(U:Mk)(z:Int),ρ=[some s.toD,sR M.length,b2,b3,sI z]/\Ts s ws M.length (M.length+1) (M.length+2) G Z U/\Mx (M.length+1) (M.length+2) M1 G/\M1.length<=G.length/\Clo s Z)
  (λn ρ G hI=>by
   refine hG λ_ _k=>?_
   obtain⟨Z,U,z,rfl,A3,B3,l3,C3,D3,rfl⟩:=hI;have ln:=len_list (jd A3.T.s);rw[bu] at ln;have fs:=agv A3.T;apply _k
   by_cases c:z=(Z.length:Int)
   .left
    exact⟨G,by simp[fs,ln,u9,Zo,c],Z,U,z,rfl,A3,B3,l3,⟨(D3 c).1,(D3 c).2,C3⟩⟩
   .right
    refine hG λ_ _k=>?_
    obtain⟨X,q0,M4,e4,A4,B4,l4,-,P4⟩:=a4n (m:=m-1) (by lia) h.E L A3;obtain⟨Y,qk,M5,e5,A5,B5,l5,C5⟩:=a4q (m:=m-1) (by lia) h L A4;have ap:=a4o (m:=m-1) (M:=M4) (s:=s) (by lia) h.few;have n3:=A3.c.len;have n5:=A5.c.len;apply _k;refine⟨G,.next,[some s.toD,sR M.length,b2,b3,sI (Z.length:Nat)],M5,_,by simp[fs,ln,u9,Zo,c],?_,.inl rfl,?_,Z++X++Y,qk,Z.length,rfl,A5,(B3.trans B4).trans B5,by lia,λa b hg=>(C3 a b hg).more.more,λq=>?_,rfl⟩
    .simp[Kl,fs,ln,i0,i1,e4,ap,e5]
    .rw[bz c]
     simp only[gr] at n5 ⊢;split<;>lia
    .simp at q
     have hX:X=[]:=uf (by lia);have hY:Y=[]:=uf (by lia);subst hX;subst hY;simp at P4 C5 ⊢;exact⟨P4,C5.2⟩)
  Vd (1+(60-R.length)) [some s.toD,sR M.length,b2,b3,sI (-1)] M2 (Nat.lt_of_le_of_lt (show 1+(60-R.length)<=61 by lia) (by decide))
  ⟨R,qq,-1,rfl,A2,B2,by lia,C2,λq=>by lia,(bz (by lia)).symm⟩
 apply _k;refine⟨M.length+1,M.length+2,Z,U,M',?_,A',C',λa o ha=>B' a o (by have:=tu ha;lia) (by have:=tu ha;lia) (k1 a o ha)⟩;simp only[Fn.run,Vo,Vn,Qe];simp[My,e0,e2,Ls];have e':Ej _ _ Vd [some s.toD,sR M.length,b2,b3,sI (-1)] M2=_:=e;simp[e']
def amw(E:Ends es V)(W:Way es w):V (yp es w)<V (Aj es w):=by
 have a:=alw E W;have b:=V_lt E.e0 W.G9;have c:1<=w.length:=jn.mpr W.ne
 show V (yp es w)<V (at_ es (hw w)).1
 lia
def Z8(W:Way es (k::w))(h:w≠[]):Way es w/\Aj es w=(at_ es k).2:=by obtain⟨b,r,rfl⟩:=List.exists_cons_of_ne_nil h;exact⟨⟨by simp,λi Z=>W.lt i (bh _ Z),W.ch.2⟩,W.ch.1.symm⟩
theorem agy:∀{u:Y3},Way es u->Way es w->yp es u=Aj es w->Way es (u++w)/\Aj es (u++w)=Aj es u/\yp es (u++w)=yp es w
 |[],U,_,_=>absurd rfl U.ne|[k],U,W,e=>⟨W.cons (U.lt k (by simp)) e,rfl,Gq W.ne⟩
 |a::b::r,U,W,e=>by
  obtain⟨G,Z⟩:=Z8 U (by simp);rw[Gq (by simp)] at e;obtain⟨x,y,z⟩:=agy G W e;exact⟨x.cons (U.lt a (by simp)) (by rw[y];exact Z.symm),rfl,by rw[show a::b::r++w=a::(b::r++w) from rfl,Gq x.ne,z]⟩
def amx(C:Clo s ss)(G:∀x∈ss,N8 s.es x.a x.b)(W:Way s.es a)(hk:k<s.es.length)(e:(at_ s.es k).1=yp s.es a)(h:G3 ss a b):G3 ss (a++[k]) (b++[k]):=by
 induction h with
 |refl=>exact .refl
 |step h0 Z R ih =>
  have U:=h0.bes G W;have B1:=G _ Z;refine ih.trans ?_;have c:=(C.put _ Z k hk).2;rcases R with⟨rfl,rfl⟩|⟨rfl,rfl⟩
  .exact c (e.trans U.go)
  .exact(c (e.trans (U.go.trans B1.go.symm))).symm
def agz(C:Clo s ss)(G:∀x∈ss,N8 s.es x.a x.b)(W:Way s.es a)(hk:k<s.es.length)(e:(at_ s.es k).2=Aj s.es a)(h:G3 ss a b):G3 ss (k::a) (k::b):=by
 induction h with
 |refl=>exact .refl
 |step h0 Z R ih =>
  have U:=h0.bes G W;have B1:=G _ Z;refine ih.trans ?_;have c:=(C.put _ Z k hk).1;rcases R with⟨rfl,rfl⟩|⟨rfl,rfl⟩
  .exact c (e.trans U.st)
  .exact(c (e.trans (U.st.trans B1.st.symm))).symm
theorem Ym(C:Clo s ss)(Z:∀x∈ss,N8 s.es x.a x.b):∀{w a b:Y3},Way s.es w->Way s.es a->Aj s.es w=yp s.es a->G3 ss a b->G3 ss (a++w) (b++w)
 |[],_,_,W,_,_,_=>absurd rfl W.ne|[k],a,b,W,A,e,h=>amx C Z A (W.lt k (by simp)) e h
 |k::j::r,a,b,W,A,e,h=>by
  obtain⟨R,U⟩:=Z8 W (by simp);have G:=W.lt k (by simp);have:=Ym C Z (a:=a++[k]) (b:=b++[k]) R (A.app G e) (by rw[U,Qn]) (amx C Z A G e h);simpa using this
theorem abt(C:Clo s ss)(Z:∀x∈ss,N8 s.es x.a x.b)(A:Way s.es a)(h:G3 ss a b):∀{u:Y3},Way s.es u->yp s.es u=Aj s.es a->G3 ss (u++a) (u++b)
 |[],U,_=>absurd rfl U.ne|[k],U,e=>agz C Z A (U.lt k (by simp)) e h
 |k::j::r,U,e=>by
  obtain⟨G,R⟩:=Z8 U (by simp);rw[Gq (by simp)] at e;obtain⟨x,y,z⟩:=agy G A e;have y':(at_ s.es k).2=Aj s.es (j::r++a):=by rw[y];exact R.symm
  exact agz C Z x (U.lt k (by simp)) y' (abt C Z A h G e)
def amy{Z:Mk}(I:TI ss Z)(G:∀x∈ss,N8 es x.a x.b)(W:Way es w):N8 es w (mkOf Z w):=(ael I w).symm.bes G W
structure Rw(es:List Ar)(st:Nat)(mk:Mk)(cr:Nat->List (List Nat))(P:List Nat->Prop):Prop where
 nd:∀v,(cr v).Nodup
 el:∀v,∀u∈cr v,(u=[]/\v=st)\/(Way es u/\Aj es u=st/\yp es u=v/\mkOf mk u=u)
 nil:[]∈cr st
 all:∀w,P w->Way es w->Aj es w=st->mkOf mk w∈cr (yp es w)
noncomputable def V9(l:List (List Nat))(u:Y3):Nat:=(l.map λf=>decide (f=u)).findIdx id
def Qu{l:List (List Nat)}{u:Y3}(h:u∈l):l[V9 l u]?=some u:=by
 induction l with
 |nil=>cases h
 |cons x l Z =>
  by_cases e:x=u
  .simp[V9,List.findIdx_cons,e]
  .have h:u∈l:=by simpa[jy e] using h
   have:=Z h;have q:V9 (x::l) u=V9 l u+1:=by simp[V9,List.findIdx_cons,e]
   rw[q];simpa using this
def amz{l:List (List Nat)}{u:Y3}(h:u∈l):V9 l u<l.length:=(ak.mp (Qu h)).1
def ag0{l:List (List Nat)}{u v:Y3}(h:u∈l)(k:v∈l)(e:V9 l u=V9 l v):u=v:=by have a:=Qu h;rw[e,Qu k] at a;exact(iu a).symm
def ayk{l:List (List Nat)}{u:Y3}(Z:l.Nodup)(h:l[i]?=some u):V9 l u=i:=Hs Z (Qu (bc h)) h
def Xn(G:List Ar)(U:Mk)(Z:Nat->List (List Nat))(k:Nat):List Int:=(Z (at_ G k).1).map λu=>((V9 (Z (at_ G k).2) (mkOf U (u++[k])):Nat):Int)
def Qv(Z:List Ar)(U:Mk)(G:Nat->List (List Nat)):List (List Int):=(List.range Z.length).map (Xn Z U G)
def bSz(Z:List Ar)(G:Nat->List (List Nat)):List Int:=(List.range (Ed Z+1)).map λv=>((G v).length:Int)
def ag1(Z:k<es.length):Ay (Qv es mk cr) k=Xn es mk cr k:=by simp[Ay,Qv,List.getD,Z]
def ash(Z:v<=Ed es):Gw (bSz es cr) (v:Nat)=((cr v).length:Int):=by
 have:v<Ed es+1:=by lia
 simp[Gw,bSz,List.getD,this]
def ag2{G:Mk}(R:Rw es st G cr P)(Z:k<es.length)(hu:u∈cr (at_ es k).1):Way es (u++[k])/\Aj es (u++[k])=st/\yp es (u++[k])=(at_ es k).2:=by
 rcases R.el _ u hu with⟨rfl,e⟩|⟨W,e1,U,_⟩
 .exact⟨Way.one Z,e,rfl⟩
 .exact⟨W.app Z U.symm,by rw[Ir W.ne];exact e1,Qn _ _⟩
def Qw{Z:Mk}(R:Rw es st Z cr λ_=>True)(U:k<es.length)(hu:u∈cr (at_ es k).1):mkOf Z (u++[k])∈cr (at_ es k).2:=by obtain⟨W,e1,G⟩:=ag2 R U hu;have:=R.all _ trivial W e1;rw[G] at this;exact this
def awf{mk:Mk}(Z:k<es.length)(hu:u∈cr (at_ es k).1):stp (Qv es mk cr) (V9 (cr (at_ es k).1) u:Nat) k=(V9 (cr (at_ es k).2) (mkOf mk (u++[k])):Nat):=by unfold stp;rw[ag1 Z,Xn,Gw,List.getD,ie,jk,Qu hu];rfl
theorem awg{mk:Mk}(I:TI ss mk)(U:∀x∈ss,N8 s.es x.a x.b)(C:Clo s ss)(R:Rw s.es st mk cr λ_=>True):∀{w u:Y3},Way s.es w->u∈cr (Aj s.es w)->gone (Qv s.es mk cr) w (V9 (cr (Aj s.es w)) u:Nat)=(V9 (cr (yp s.es w)) (mkOf mk (u++w)):Nat)
 |[],_,W,_=>absurd rfl W.ne|[k],u,W,hu=>awf (W.lt k (by simp)) hu
 |k::j::r,u,W,hu=>by
  obtain⟨W',Z⟩:=Z8 W (by simp);have G:=W.lt k (by simp);have m:=Qw R G hu;have ih:=awg I U C R (w:=j::r) (u:=mkOf mk (u++[k])) W' (by rw[Z];exact m);rw[Z] at ih;have e1:=awf (mk:=mk) (es:=s.es) (cr:=cr) (k:=k) G hu;show gone (Qv s.es mk cr) (j::r) (stp (Qv s.es mk cr) (V9 (cr (at_ s.es k).1) u:Nat) k)=_;rw[e1,ih,Gq (k:=k) (w:=j::r) (by simp)];obtain⟨Wu,x1,x2⟩:=ag2 R G hu;have B:=amy I U Wu;have tg:=Ym C U W' B.two (by rw[Z,<- B.go,x2]) (ael I (u++[k]));rw[(I.Yl _ _).mpr tg];simp
def ayl{U:Mk}(E:Ends es V)(R:Rw es st U cr λ_=>True):Sets es (bSz es cr) (Qv es U cr):=by
 refine⟨by simp[bSz],by simp[Qv],λz hz=>?_,λk Z=>?_⟩
 .obtain⟨v,_,rfl⟩:=di.mp hz;exact gq _
 .have t:=V4 (Jf Z)
  refine⟨?_,λx G=>?_⟩
  .rw[ag1 Z,ash t.1];simp[Xn]
  .rw[ag1 Z] at G
   obtain⟨u,hu,rfl⟩:=di.mp G;rw[ash t.2];have:=amz (Qw R Z hu)
   lia
def Uw(W:Way es w):Aj es w<=Ed es/\yp es w<=Ed es:=⟨(V4 (Jf W.G9)).1,(V4 (Jf W.Ql)).2⟩
def a4r{G:Mk}(h:Hu s V)(I:TI ss G)(hb:∀x∈ss,N8 s.es x.a x.b)(C:Clo s ss)(R:Rw s.es (Aj s.es s.a) G cr λ_=>True)(hn:mkOf G s.a≠mkOf G s.b):Brk s (bSz s.es cr) (Qv s.es G cr):=by
 have Z:=fun{w u:Y3}=>awg (w:=w) (u:=u) I hb C R
 refine⟨ayl h.E R,?_,jg.mpr λg hg=>?_⟩
 .rw[ash (Uw h.aim.one).1,jk]
  have l1:=Z h.aim.one R.nil;have U:=Z h.aim.two (by rw[<- h.aim.st];exact R.nil);have m1:=R.all _ trivial h.aim.one rfl;have m2:=R.all _ trivial h.aim.two h.aim.st.symm;rw[<- h.aim.st,<- h.aim.go] at U;rw[<- h.aim.go] at m2;cases q:Tn (Qv s.es G cr) (cr (Aj s.es s.a)).length s.a s.b with
  |false=>rfl
  |true =>
   have:=jg.mp q (V9 (cr (Aj s.es s.a)) []) (ji.mpr (amz R.nil));have:=iy this;rw[l1,U] at this;exact absurd (ag0 m1 m2 (D_ this)) hn
 .cases g with
  |same a b =>
   have B:N8 s.es a b:=h.gs _ hg;show Tn _ (Gw (bSz s.es cr) (Aj s.es a)).toNat a b=true;rw[ash (Uw B.one).1,jk];refine jg.mpr λx hx=>vo ?_
   have hx:=ji.mp hx;obtain⟨u,hu⟩:∃u,(cr (Aj s.es a))[x]?=some u:=⟨_,du hx⟩;have mu:=bc hu;have ex:=ayk (R.nd _) hu;have l1:=Z B.one mu;have U:=Z B.two (by rw[<- B.st];exact mu);rw[<- B.st,<- B.go] at U;rw[ex] at l1 U;have tg:G3 ss (u++a) (u++b):=by
    have t0:=C.same a b hg;rcases R.el _ u mu with⟨rfl,_⟩|⟨W,_,e2,_⟩
    .exact t0
    .exact abt C hb B.one t0 W e2
   rw[l1,U,(I.Yl _ _).mpr tg]
  |apart k =>
   have hk:k<s.es.length:=h.gs _ hg
   show decide ((Aw (Ay (Qv s.es G cr) k)).length=(Ay (Qv s.es G cr) k).length)=true;rw[ag1 hk];refine vo (o9 _ (awd ?_));have inj:∀u∈cr (at_ s.es k).1,∀v∈cr (at_ s.es k).1,mkOf G (u++[k])=mkOf G (v++[k])->u=v:=λu hu v hv e=>by
    have no:∀w,w∈cr (at_ s.es k).1->(at_ s.es k).1=Aj s.es s.a->w=[]:=λw hw q=>by
     rcases R.el _ w hw with⟨rfl,_⟩|⟨W,e1,e2,_⟩
     .rfl
     .have:=amw h.E W
      rw[e1,e2,q] at this
      lia
    rcases R.el _ u hu with⟨r,q⟩|⟨W1,a1,a2,a3⟩
    .rw[r,no v hv q]
    .rcases R.el _ v hv with⟨r,q⟩|⟨W2,b1,b2,b3⟩
     .rw[r,no u hu q]
     .have:=C.off k hg u v W1 W2 a2 b2 ((I.Yl _ _).mp e)
      rw[<- a3,<- b3];exact(I.Yl _ _).mpr this
   have nd:∀l:List (List Nat),l.Nodup->(∀u∈l,u∈cr (at_ s.es k).1)->(l.map λu=>((V9 (cr (at_ s.es k).2) (mkOf G (u++[k])):Nat):Int)).Nodup:=λl=>by
    induction l with
    |nil=>intro _ _;simp
    |cons x l ih =>
     intro nd hl;have nd:=kj.mp nd;rw[dq];refine kj.mpr ⟨λq=>?_,ih nd.2 λu hu=>hl u (bh _ hu)⟩;obtain⟨y,h1,h2⟩:=di.mp q;have hx:=hl x cz;have hy:=hl y (bh _ h1);have e:=ag0 (Qw R hk hy) (Qw R hk hx) (D_ h2);exact nd.1 (inj y hy x hx e▸h1)
   exact nd _ (R.nd _) λ_ h=>h
def a4s{mk:Mk}(E:Ends es V)(L:Wys es ws)(R:Rw es st mk cr P)(U:k<es.length):(cr (at_ es k).1).length<=30:=by
 by_cases e:(at_ es k).1=st
 .have:(cr (at_ es k).1).length<=[([]:Y3)].length:=aeg (R.nd _) λw hw=>by
   rcases R.el _ w hw with⟨rfl,_⟩|⟨W,e1,G,_⟩
   .simp
   .have:=amw E W
    rw[e1,G,e] at this
    lia
  simp at this;lia
 .have Z:∀w∈cr (at_ es k).1,Way es w/\yp es w=(at_ es k).1:=λw hw=>by
   rcases R.el _ w hw with⟨_,q⟩|⟨W,_,G,_⟩
   .exact absurd q e
   .exact⟨W,G⟩
  have n2:((cr (at_ es k).1).map λw=>w++[k]).Nodup:=Nt (λa b h=>by simpa using h) (R.nd _);have nn:((cr (at_ es k).1)++(cr (at_ es k).1).map λw=>w++[k]).Nodup:=oh.mpr ⟨R.nd _,n2,λa ha b hb q=>by
   obtain⟨c,_,rfl⟩:=di.mp hb;have:=(Z a ha).2;rw[q,Qn] at this;have v:=V_lt E.e0 U;rw[this] at v
   lia⟩
  have nl:=aeg nn (S:=ws) λw hw=>by
   rcases bx.mp hw with q|q
   .exact L.all _ rfl (Z w q).1
   .obtain⟨c,hc,rfl⟩:=di.mp q
    exact L.all _ rfl ((Z c hc).1.app U (Z c hc).2.symm)
  have:=L.few;rw[gr,bu] at nl
  lia
noncomputable def RV(Z n:Nat):List D:=(List.range n).map λi=>D.ref (Z+i)
abbrev EK(es:List Ar)(t st:Nat)(b3 b4 b5 b6 b7 b8 b9:Option D):Env:=[some (.tup (es.map aD)),sR t,sI st,b3,b4,b5,b6,b7,b8,b9]
def ag3(Z:v<n):vh (.vl (RV base n)) (.int (v:Nat)) M=some (.ref (base+v)) :=
 zu rfl (gq _) (by simp[RV,Z])
def bs3(R:1<=m)(E:Ends es V):Ey.den (PW m) (EK es t st none none none none none none none) M=.ok (.vl (RV M.length (Ed es+1))) (M++List.replicate (Ed es+1) (.lst [])):=by
 unfold Ey;have tf:=ags E;have c:=al5 (m:=m) (M:=M) (d:=.tup (es.map aD)) R E rfl;obtain⟨ys,M',e,rfl,rfl⟩:=Jx (W:=PW m) (v:=true) (k:=1) (n:=Ed es+1) (M1:=M) (t:=.name 10) (e:=.lst .z) (ρ:=EK es t st none none none none none none none) (M:=M) (it:=.call 25 (.o (.v 0))) (by simp[c]) (by lia)
  (λi Z G=>Z=RV M.length i/\G=M++List.replicate i (.lst [])) ⟨rfl,by simp⟩ (λi Z G hi U=>by
   obtain⟨rfl,rfl⟩:=U;refine⟨_,.ref (M.length+i),_,rfl,?_,by simp[RV,uv],rfl⟩;simp[MW.new,List.replicate_succ',o8])
 exact e
structure Rm(base n:Nat)(M:dj)(cr:Nat->List (List Nat)):Prop where
 g:∀v,v<n->M[base+v]?=some (.lst ((cr v).map cj))
noncomputable def Qx(Z:Nat->List (List Nat))(v:Nat)(u:Y3):Nat->List (List Nat):=λx=>if x=v then Z v++[u] else Z x
def ag4(R:Rm base n M cr)(k:j8 M G):Rm base n G cr:=⟨λv Z=>k _ _ (R.g v Z)⟩
def am0(R:Rm base n M cr)(G:v<n):Rm base n (M.set (base+v) (.lst ((cr v).map cj++[cj u]))) (Qx cr v u):=⟨λx Z=>by
 by_cases e:x=v
 .subst e;rw[o6 (R.g x Z)];simp[Qx]
 .rw[jq (by lia),R.g x Z];simp[Qx,e]⟩
def bs1{mk:Mk}(hm:2<=m)(E:Ends s.es V)(A:Ts s ws t p q M ss mk)(T8:st<=Ed s.es)(R:Rm M.length (Ed s.es+1) M1 cr)(Q:Rw s.es st mk cr λ_=>False)(l1:M.length+(Ed s.es+1)=M1.length)(k1:j8 M M1)(hc:∀v,(cr v).length<=1) :
 ∃b4 b5 G M',Ew.den (PW m) (EK s.es t st (some (.vl (RV M.length (Ed s.es+1)))) none none none none none none) M1=.ok (.next,EK s.es t st (some (.vl (RV M.length (Ed s.es+1)))) b4 b5 none none none none) M'/\Rm M.length (Ed s.es+1) M' G/\Rw s.es st mk G (λ_=>True)/\j8 M M'/\M1.length<=M'.length/\∀v,(G v).length<=61:=by
 unfold Ew;refine hG λ_ _k=>?_
 obtain⟨us,M2,e2,g2,n2,k2,w2,a2⟩:=amr (m:=m) (M:=M1) hm E;obtain⟨qq,M',e,b4,b5,G,rfl,R',Q',K',l',-,n'⟩:=zy (W:=PW m) (it:=.call 13 (.o (.v 0))) (t:=.name 4) (b:=vq) (ρ:=EK s.es t st (some (.vl (RV M.length (Ed s.es+1)))) none none none none none none) (M:=M1) (M1:=M2) (d:=.ref M1.length) (by simp[e2]) (jd g2)
  (λi ρ M3=>∃(b4 b5:Option D)(G:Nat->List (List Nat)),ρ=EK s.es t st (some (.vl (RV M.length (Ed s.es+1)))) b4 b5 none none none none/\Rm M.length (Ed s.es+1) M3 G/\Rw s.es st mk G (λw=>w∈us.take i)/\j8 M M3/\M1.length<=M3.length/\M3[M1.length]?=some (.lst (us.map cj))/\∀v,(G v).length<=i+1)
  ⟨none,none,cr,rfl,ag4 R k2,⟨Q.nd,Q.el,Q.nil,λw hw=>by simp at hw⟩,j8.trans k1 k2,j8.len k2,g2,hc⟩
  (λi ρ M3 h=>by obtain⟨_,_,_,_,_,_,_,_,g,_⟩:=h;exact jd g)
  (λi x ρ M3 hx hI=>by
   refine hG λ_ _k=>?_
   obtain⟨b4,b5,G,rfl,R3,U,K3,l3,g3,n3⟩:=hI;obtain⟨w,hi,rfl⟩:∃w,us[i]?=some w/\cj w=x:=by simpa using hx
   have il:=(ak.mp hi).1;have W:=w2 w (bc hi);have vt:yp s.es w<Ed s.es+1:=Nat.lt_succ_of_le (Uw W).2
   have v1:=Ho (m:=m) (M:=M3) (d:=.tup (s.es.map aD)) (by lia) rfl W;have v2:=Hq (m:=m) (M:=M3) (d:=.tup (s.es.map aD)) (by lia) rfl W;have rv:=ag3 (M:=M3) (base:=M.length) vt;have A3:=Qt A K3;have mo:=Qp (m:=m) (w:=w) (by lia) A3.T;have j:=A3.T.i;have tk:∀z,z∈us.take (i+1)->z∈us.take i\/z=w:=λz hz=>by
    rw[m5,hi] at hz;rcases bx.mp hz with r|r
    .exact .inl r
    .exact .inr (by simpa using r)
   apply _k
   by_cases c:Aj s.es w=st
   .have me:=ax8 (a:=cj (mkOf mk w)) (R3.g _ vt)
    rw[art] at me
    by_cases d:mkOf mk w∈G (yp s.es w)
    .refine⟨_,.next,EK s.es t st (some (.vl (RV M.length (Ed s.es+1)))) (some (cj w)) (sR (M.length+yp s.es w)) none none none none,M3,rfl,?_,.inl rfl,_,_,G,rfl,R3,⟨U.nd,U.el,U.nil,λz hz Z e=>?_⟩,K3,l3,g3,λv=>by have:=n3 v;lia⟩
     .show vq.den (PW m) (EK s.es t st (some (.vl (RV M.length (Ed s.es+1)))) (some (cj w)) b5 none none none none) M3=_
      simp[vq,v1,v2,rv,c,u9,Cd,j,My,List.lookup,mo,me,d,P0]
     .rcases tk z hz with r|rfl
      .exact U.all z r Z e
      .exact d
    .have ap:=Ii (d:=cj (mkOf mk w)) (R3.g _ vt) (by have:=n3 (yp s.es w);simp;lia)
     have B:=amy A.I A.b W;refine⟨_,.next,EK s.es t st (some (.vl (RV M.length (Ed s.es+1)))) (some (cj w)) (sR (M.length+yp s.es w)) none none none none,_,rfl,?_,.inl rfl,_,_,Qx G (yp s.es w) (mkOf mk w),rfl,am0 (u:=mkOf mk w) R3 vt,⟨λv=>?_,λv u hu=>?_,?_,λz hz Z e=>?_⟩,j8.set K3 (by lia),by simpa using l3,by rw[jq (by lia)];exact g3,λv=>?_⟩
     .show vq.den (PW m) (EK s.es t st (some (.vl (RV M.length (Ed s.es+1)))) (some (cj w)) b5 none none none none) M3=_
      simp[vq,v1,v2,rv,c,u9,Cd,j,My,List.lookup,mo,me,d,P0,Lx (R3.g _ vt),ap]
     .unfold Qx
      by_cases r:v=yp s.es w
      .rw[cg r]
       exact oh.mpr ⟨U.nd _,by simp,λa ha b hb q=>by simp at hb;subst hb;subst q;exact d ha⟩
      .rw[bz r];exact U.nd v
     .unfold Qx at hu
      by_cases r:v=yp s.es w
      .rw[cg r] at hu
       rcases bx.mp hu with x|x
       .exact r▸U.el _ u x
       .have x:u=mkOf mk w:=by simpa using x
        subst x;exact .inr ⟨B.two,B.st.symm.trans c,B.go.symm.trans r.symm,A.I.id w⟩
      .rw[bz r] at hu;exact U.el v u hu
     .unfold Qx
      split
      .next r=>exact ig _ (r▸U.nil)
      .exact U.nil
     .unfold Qx
      rcases tk z hz with r|rfl
      .have:=U.all z r Z e
       split
       .next q=>rw[<- q];exact ig _ this
       .exact this
      .simp
     .unfold Qx
      have:=n3 v;have:=n3 (yp s.es w);split<;>simp<;>lia
   .refine⟨_,.next,EK s.es t st (some (.vl (RV M.length (Ed s.es+1)))) (some (cj w)) (sR (M.length+yp s.es w)) none none none none,M3,rfl,?_,.inl rfl,_,_,G,rfl,R3,⟨U.nd,U.el,U.nil,λz hz Z e=>?_⟩,K3,l3,g3,λv=>by have:=n3 v;lia⟩
    .show vq.den (PW m) (EK s.es t st (some (.vl (RV M.length (Ed s.es+1)))) (some (cj w)) b5 none none none none) M3=_
     simp[vq,v1,v2,rv,c,u9,Cd,P0]
    .rcases tk z hz with r|rfl
     .exact U.all z r Z e
     .exact absurd e c)
 simp only[bu,qd] at Q' n';apply _k;exact⟨b4,b5,G,M',e,R',⟨Q'.nd,Q'.el,Q'.nil,λw _ W=>Q'.all w (a2 w W) W⟩,K',l',λv=>by have:=n' v;lia⟩
theorem abu{u:Y3}:∀{l:List (List Nat)},u∈l->(l.map λf=>decide (f=u)).findIdx? id=some (V9 l u)
 |[],h=>by cases h
 |x::l,h=>by
  by_cases e:x=u
  .simp[V9,List.findIdx?_cons,List.findIdx_cons,e]
  .have h:u∈l:=by simpa[jy e] using h
   have:=abu h;simp[V9,List.findIdx?_cons,List.findIdx_cons,e];simpa[V9,jb] using this
def a4t(h:M[n]?=some (.lst Z)):Lh .index (.ref n) M=true:=by simp[Lh,fj,h]
def a4u(h:M[n]?=some (.lst (l.map cj)))(hu:u∈l):Fw .index (.ref n) [cj u] M=.ok (.int (V9 l u:Nat)) M:=by simp only[Fw,Fv,jd h,Option.bind_some,axk,Zt,abu hu,rz,Res.ye]
def bs0{Z:Mk}(hm:1<=m)(E:Ends s.es V)(L:Wys s.es ws)(A:Ts s ws t p q M ss Z)(R:Rm M.length (Ed s.es+1) U cr)(Q:Rw s.es st Z cr λ_=>True)(k1:j8 M U)(hp:U[z]?=some (.lst []))(hz:M.length+(Ed s.es+1)<=z)(hn:∀v,(cr v).length<=61) :
 ∃b7 b8 G M',Eu.den (PW m) (EK s.es t st (some (.vl (RV M.length (Ed s.es+1)))) b4 b5 (sR z) none none none) U=.ok (.next,EK s.es t st (some (.vl (RV M.length (Ed s.es+1)))) b4 b5 (sR z) b7 b8 G) M'/\Rm M.length (Ed s.es+1) M' cr/\j8 M M'/\M'[z]?=some (.lst ((Qv s.es Z cr).map zc)):=by
 unfold Eu;refine hG λ_ _k=>?_
 have ef:=E.few;obtain⟨qq,M',e,b7,b8,G,rfl,R',K',g'⟩:=Ma (W:=PW m) (it:=.v 0) (t:=.names [7,8]) (b:=Ca) (ρ:=EK s.es t st (some (.vl (RV M.length (Ed s.es+1)))) b4 b5 (sR z) none none none) (M:=U) (M1:=U) (ds:=s.es.map aD) rfl
  (λi ρ M2=>∃b7 b8 G:Option D,ρ=EK s.es t st (some (.vl (RV M.length (Ed s.es+1)))) b4 b5 (sR z) b7 b8 G/\Rm M.length (Ed s.es+1) M2 cr/\j8 M M2/\M2[z]?=some (.lst (((List.range i).map (Xn s.es Z cr)).map zc)))
  ⟨none,none,none,rfl,R,k1,by simpa using hp⟩
  (λi y ρ M2 hy hI=>by
   refine hG λ_ _k=>?_
   obtain⟨b7,b8,G,rfl,R2,K2,g2⟩:=hI;have hi:i<s.es.length:=by simpa using(ak.mp hy).1
   have ex:y=aD (at_ s.es i):=by simpa[Om hi] using hy.symm
   subst ex;have tp:=V4 (Jf hi);have v1:(at_ s.es i).1<Ed s.es+1:=by lia
   have v2:(at_ s.es i).2<Ed s.es+1:=by lia
   have r1:=ag3 (M:=M2) (base:=M.length) v1;have r2:=ag3 (M:=M2) (base:=M.length) v2;have A2:=Qt A K2;have j:=A2.T.i;have c2:Et.den (PW m) (EK s.es t st (some (.vl (RV M.length (Ed s.es+1)))) b4 b5 (sR z) (sI i) (some (aD (at_ s.es i))) (sR (M.length+(at_ s.es i).2))) M2=.ok (.vl ((Xn s.es Z cr i).map D.int)) M2:=by
    unfold Et;rw[Bv (d:=.ref (M.length+(at_ s.es i).1)) (M1:=M2) (xs:=cr (at_ s.es i).1) (f:=cj) (g:=λu=>.int (V9 (cr (at_ s.es i).2) (mkOf Z (u++[i])):Nat)) (by simp[Hv,r1]) (Ci (jd (R2.g _ v1))) (by have:=hn (at_ s.es i).1;lia) (λu hu=>⟨_,rfl,by
     have mo:=Qp (m:=m) (w:=u++[i]) hm A2.T;have ul:u.length<1000:=by
      rcases Q.el _ u hu with⟨rfl,_⟩|⟨W,_⟩
      .simp
      .have:=Dc E W;lia
     have ra:Ax .add (cj u) (.tup [.int i]) M2=.ok (cj (u++[i])) M2:=Hr _ _ ul;simp[a4t (R2.g _ v2),j,My,List.lookup,ra,mo,a4u (R2.g _ v2) (Qw Q hi hu)]⟩)]
    simp[Xn,ir,jb]
   have ap:=Ii (d:=zc (Xn s.es Z cr i)) g2 (by simp;lia);apply _k;refine⟨_,.next,EK s.es t st (some (.vl (RV M.length (Ed s.es+1)))) b4 b5 (sR z) (sI i) (some (aD (at_ s.es i))) (sR (M.length+(at_ s.es i).2)),M2.set z (.lst (((List.range (i+1)).map (Xn s.es Z cr)).map zc)),rfl,?_,.inl rfl,_,_,_,rfl,⟨λv hv=>by rw[jq (by lia)];exact R2.g v hv⟩,j8.set K2 (by lia),o6 g2⟩;show Ca.den (PW m) (EK s.es t st (some (.vl (RV M.length (Ed s.es+1)))) b4 b5 (sR z) (sI i) (some (aD (at_ s.es i))) G) M2=_;unfold zc at ap;simp only[Ca];simp[-List.map_map,Mw,r2,Lx g2,c2,aei,ap,uv];rfl)
 rw[bu] at g';apply _k;exact⟨b7,b8,G,M',e,R',K',g'⟩
def am1{G:Mk}(hm:3<=m)(h:Hu s V)(L:Wys s.es ws)(A:Ts s ws t p q M ss G)(C:Clo s ss)(hn:mkOf G s.a≠mkOf G s.b) :
 ∃zs Z M',prog.call m 24 [.tup (s.es.map aD),.ref t,.int (Aj s.es s.a)] M=.ok (.tup [sD "breaks",zc zs,Xi Z]) M'/\j8 M M'/\Brk s zs Z/\zs.length<=1000/\∀r∈Z,r.length<31:=by
 rw[call_of (au (by decide) hm) rfl];have W:=h.aim.one;have st:=(Uw W).1;have R:Aj s.es s.a<Ed s.es+1:=by lia
 have tf:=ags h.E;have e3:=bs3 (m:=m-1) (t:=t) (st:=Aj s.es s.a) (M:=M) (by lia) h.E;have R0:Rm M.length (Ed s.es+1) (M++List.replicate (Ed s.es+1) (.lst [])) (λ_=>[]):=⟨λv hv=>by rw[n8 (by lia)];simp[hv]⟩;have R1:=am0 (u:=[]) R0 R;have ap:=Ii (d:=cj []) (R0.g _ R) (by simp);have Q1:Rw s.es (Aj s.es s.a) G (Qx (λ_=>[]) (Aj s.es s.a) []) λ_=>False:=by
  refine⟨λv=>?_,λv u hu=>?_,by simp[Qx],λ_ f=>f.elim⟩
  .unfold Qx;split<;>simp
  .unfold Qx at hu
   split at hu
   .next q=>exact .inl ⟨by simpa using hu,q⟩
   .cases hu
 generalize hM1:(M++List.replicate (Ed s.es+1) (MO.lst [])).set (M.length+Aj s.es s.a) (.lst (([]:List (List Nat)).map cj++[cj []]))=M1 at ap R1;have k1:j8 M M1:=hM1▸j8.set (j8.app _ _) (by lia);have l1:M.length+(Ed s.es+1)=M1.length:=by rw[<- hM1];simp
 obtain⟨b4,b5,U,M2,e2,R2,Q2,K2,l2,n2⟩:=bs1 (m:=m-1) (by lia) h.E A st R1 Q1 l1 k1 (λv=>by unfold Qx;split<;>simp);refine hG λ_ _k=>?_
 have R3:=ag4 R2 (j8.app M2 [.lst []]);obtain⟨b7,b8,b9,M4,e4,R4,K4,g4⟩:=bs0 (m:=m-1) (b4:=b4) (b5:=b5) (by lia) h.E L A R3 Q2 (j8.trans K2 (j8.app _ _)) zx (by lia) n2;apply _k;refine⟨bSz s.es U,Qv s.es G U,M4,?_,K4,a4r h A.I A.b C Q2 hn,by simp[bSz];lia,λr hr=>?_⟩
 .have c1:Es.den (PW (m-1)) (EK s.es t (Aj s.es s.a) (some (.vl (RV M.length (Ed s.es+1)))) b4 b5 (sR M2.length) b7 b8 b9) M4=.ok (.vl ((List.range (Ed s.es+1)).map λv=>.int (U v).length)) M4:=by
   unfold Es;rw[Bv (d:=.vl (RV M.length (Ed s.es+1))) (M1:=M4) (xs:=List.range (Ed s.es+1)) (f:=λi=>.ref (M.length+i)) (g:=λv=>.int (U v).length) rfl rfl (by simp;lia) (λv hv=>⟨_,rfl,by
    have:=len_list (jd (R4.g v (ji.mp hv)));rw[bu] at this;simp[this]⟩)]
   rfl
  have rv:=ag3 (M:=M++List.replicate (Ed s.es+1) (.lst [])) (base:=M.length) R;have em:D.tup []=cj []:=rfl;simp only[Fn.run,K9,K8];simp[e3,rv,Lx (R0.g _ R),em,ap,e2,MW.new,e4,c1,aei,Z5 g4];simp[sD,zc,Xi,bSz,ir,jb]
 .obtain⟨k,hk,rfl⟩:=di.mp hr
  have:=a4s h.E L Q2 (ji.mp hk);simp[Xn];lia
def Jd(s:Zz)(d:D):Prop:=((∃x,d=.tup [sD "holds",x])/\So s s.a s.b)\/∃G Z,d=.tup [sD "breaks",zc G,Xi Z]/\Brk s G Z/\G.length<=1000/\∀r∈Z,r.length<31
def aje(hm:7<=m)(h:Hu s V):∃d M',prog.call m 23 [s.toD] M=.ok d M'/\j8 M M'/\Jd s d:=by
 rw[call_of (au (by decide) hm) rfl];refine hG λ_ _k=>?_
 obtain⟨ws,_,_,_,L,_⟩:=Zw (m:=1) (M:=[]) (d:=.tup (s.es.map aD)) (by lia) h.E rfl;obtain⟨M1,G,k1⟩:=V3 (m:=m-1) (M:=M) (by lia) h;obtain⟨p,q,ss,R,M2,e2,A,C,k2⟩:=aem (m:=m-1) (M:=M1) (by lia) h L;have e3:=Z7 (m:=m-1) (a:=s.a) (b:=s.b) (by lia) A.T;have i0:∀M,vh s.toD (.int 0) M=some (.tup (s.es.map aD)):=λM=>Ih _ _
 have U:∀M,vh s.toD (.int 2) M=some (.tup [cj s.a,cj s.b]):=λM=>Um _ _ _ _
 have j:=A.T.i;apply _k;simp only[Fn.run,Vs,Vr]
 by_cases c:mkOf R s.a=mkOf R s.b
 .refine⟨_,M2,?_,j8.trans k1 k2,.inl ⟨⟨.tup (ss.map Sp.toD),rfl⟩,So.Yl A.b A.o h.aim.one ((A.I.Yl _ _).mp c)⟩⟩
  simp[G,yw G,e2,U,j,My,List.lookup,e3,c,agv A.T,Z5 A.T.s,sD]
 .refine hG λ_ _k=>?_
  obtain⟨zs,Z,M3,e4,k4,B,l1,l2⟩:=am1 (m:=m-1) (by lia) h L A C c;have w:=Hq (m:=m-1) (M:=M2) (d:=.tup (s.es.map aD)) (by lia) rfl h.aim.one;apply _k;refine⟨_,M3,?_,j8.trans (j8.trans k1 k2) k4,.inr ⟨zs,Z,rfl,B,l1,l2⟩⟩;simp[G,yw G,e2,i0,U,j,My,List.lookup,e3,c,w,e4]
noncomputable def Yn(Z:List Ar)(z:Int):Bool:=decide (0<=z)&&decide (z<Z.length)
def Z9{es:List Ar}{z:Int}(G:1<=m):prog.call m 8 [.tup (es.map aD),.int z] M=.ok (.bl (Yn es z)) M:=by
 rw[call_of G rfl];have Z:j7 M (.tup (es.map aD))=some (es.map aD):=rfl
 by_cases h:0<=z
 .simp[Fn.run,Kd,Kc,Ha Z,Yn,h]
 .simp[Fn.run,Kd,Kc,Ha Z,Yn,h]
def NW(Z:List Ar)(x:D):Prop:=∀m M,2<=m->prog.call m 9 [.tup (Z.map aD),x] M=.ok (.bl false) M
def aym:NW es (.tup []):=λm M Z=>by rw[call_of (au (by decide) Z) rfl];simp[Fn.run,Ml,Mj,j7,Jv]
def aaa{zs:X9}(hl:zs.length<=60)(G:z∈zs)(h:Yn es z=false):NW es (zc zs):=λm M hm=>by
 rw[call_of (au (by decide) hm) rfl];have c2:Eb.den (PW (m-1)) [some (.tup (es.map aD)),some (zc zs)] M=.ok (.vl (zs.map λz=>.bl (Yn es z))) M:=by
  unfold Eb;rw[Bv (d:=zc zs) (M1:=M) (xs:=zs) (f:=D.int) (g:=λz=>.bl (Yn es z)) rfl rfl (by lia) (λx hx=>⟨_,rfl,by
   have:=Z9 (m:=m-1) (es:=es) (z:=x) (M:=M) (by lia);simp[this]⟩)]
  rfl
 have R:zs.isEmpty=false:=List.isEmpty_eq_false_iff.mpr (Ak G);have U:(Ex.ntr (.v 1)).den (PW (m-1)) [some (.tup (es.map aD)),some (zc zs)] M=.ok (.bl false) M:=by show Res.q8 (some (D.bl (zs.map D.int).isEmpty)) M=_;rw[List.isEmpty_map,R];rfl
 have Z:=Rx (M:=M) (Yn es) zs;have af:zs.all (Yn es)=false:=by rw[Bool.eq_false_iff];intro q;have:=jg.mp q z G;rw[h] at this;cases this
 rw[af] at Z;simp only[Fn.run,Ml,Mj];simp[U,-Qc,c2,Z,Jv]
def ayn{a b:Nat}(ha:a<es.length)(hb:b<es.length)(h:(at_ es a).2≠(at_ es b).1):NW es (cj [a,b]):=λm M hm=>by
 rw[call_of (au (by decide) hm) rfl];have G:j7 M (.tup (es.map aD))=some (es.map aD):=rfl;have c2:Eb.den (PW (m-1)) [some (.tup (es.map aD)),some (cj [a,b])] M=.ok (.vl ([a,b].map λ_=>.bl true)) M:=by
  unfold Eb;rw[Bv (d:=cj [a,b]) (M1:=M) (xs:=[a,b]) (f:=nD) (g:=λ_=>.bl true) rfl rfl (by simp) (λx Z=>⟨_,rfl,by
   have:=V2 (m:=m-1) (k:=x) (by lia) G;have U:x<es.length:=by simp at Z;rcases Z with rfl|rfl<;>assumption
   simp[nD,this,U]⟩)]
  rfl
 have zi:(Ox.zip (.p (.v 1) (.cut (.v 1) (.some (.i 1)) .none))).den (PW (m-1)) [some (.tup (es.map aD)),some (cj [a,b])] M=.ok (.con [.tup [nD a,nD b]]) M:=rfl;have c1:Hk.den (PW (m-1)) [some (.tup (es.map aD)),some (cj [a,b])] M=.ok (.vl [.bl false]) M:=by
  unfold Hk;rw[Jk,zi,Res.yd,af7 (g:=λ_=>.bl false) (by simp) (λx Z=>by
   simp at Z;subst Z;simp[nD,Ei,Fq G ha,Fq G hb,aD,u9,Cd,h])]
  simp
 have R:(Ex.ntr (.v 1)).den (PW (m-1)) [some (.tup (es.map aD)),some (cj [a,b])] M=.ok (.bl false) M:=rfl;simp only[Fn.run,Ml,Mj];simp[R,-Qc,c2,c1,ph,allB,Jv]
def NB(Z:List Ar)(x y:D):Prop:=∀m M,3<=m->prog.call m 12 [.tup (Z.map aD),x,y] M=.ok (.bl false) M
def a4v(E:Ends es V)(W:Way es a)(h:NW es x):NB es (cj a) x:=λm M Z=>by rw[call_of (au (by decide) Z) rfl];have U:=O2 (m:=m-1) (M:=M) (d:=.tup (es.map aD)) (by lia) rfl E.few (Dc E W) W;have G:=h (m-1) M (by lia);simp[Fn.run,Bk,Bj,U,G]
def a4w(h:NW es x):NB es x y:=λm M Z=>by rw[call_of (au (by decide) Z) rfl];have G:=h (m-1) M (by lia);simp[Fn.run,Bk,Bj,G]
def a4x(E:Ends es V)(A:Way es a)(B:Way es b)(h:¬(Aj es a=Aj es b/\yp es a=yp es b)):NB es (cj a) (cj b):=λm M hm=>by
 rw[call_of (au (by decide) hm) rfl];have Z:j7 M (.tup (es.map aD))=some (es.map aD):=rfl;have h1:=O2 (m:=m-1) (by lia) Z E.few (Dc E A) A;have G:=O2 (m:=m-1) (by lia) Z E.few (Dc E B) B;have R:=Hq (m:=m-1) (by lia) Z A;have h4:=Hq (m:=m-1) (by lia) Z B;have U:=Ho (m:=m-1) (by lia) Z A;have h6:=Ho (m:=m-1) (by lia) Z B
 by_cases s:Aj es a=Aj es b
 .have g:yp es a≠yp es b:=λg=>h ⟨s,g⟩
  simp[Fn.run,Bk,Bj,h1,G,R,h4,U,h6,u9,Cd,s,g]
 .simp[Fn.run,Bk,Bj,h1,G,R,h4,U,h6,u9,Cd,s]
def NG(Z:List Ar)(x:D):Prop:=∀m M,4<=m->prog.call m 7 [.tup (Z.map aD),x] M=.ok (.bl false) M
def asi(h:NB es x y):NG es (.tup [sD "same",x,y]):=λm M Z=>by rw[call_of (au (by decide) Z) rfl];have G:=h (m-1) M (by lia);simp[Fn.run,Bf,Be,sD,G]
def abv(h:Yn es z=false):NG es (.tup [sD "apart",.int z]):=λm M Z=>by
 rw[call_of (au (by decide) Z) rfl];have G:=Z9 (m:=m-1) (es:=es) (z:=z) (M:=M) (by lia);have U:PySem.Str.ofString "apart"≠PySem.Str.ofString "same" := by decide
 simp[Fn.run,Bf,Be,sD,G,U,h]
theorem ag6{fin:dj->Bool}{item:Nat->dj->Option D}{body:D->Env->dj->Res (Flow×Env)}(I:Nat->Env->dj->Prop)(R:dj->Prop){j n:Nat}(hj:j<n)
 (step:∀i G M,i<j->I i G M->∃d Z U,item i M=some d/\body d G M=.ok (.next,Z) U/\I (i+1) Z U) (last:∀G M,I j G M->∃d Z U,item j M=some d/\body d G M=.ok (.err c,Z) U/\R U) :
 ∀(k i:Nat)(G:Env)(M:dj),i+k=n->i<=j->I i G M->∃Z U,Br fin item body k i G M=.ok (.err c,Z) U/\R U
 |0,i,G,M,h,hi,_=>by lia
 |k+1,i,G,M,h,hi,hI=>by
  by_cases e:i=j
  .subst e
   obtain⟨d,Z,U,h1,h2,r⟩:=last G M hI;exact⟨Z,U,by simp[Br,h1,h2],r⟩
  .refine hG λ_ _k=>?_
   obtain⟨d,Z,U,h1,h2,h3⟩:=step i G M (by lia) hI;obtain⟨qq,M2,h4,r⟩:=ag6 I R hj step last k (i+1) Z U (by lia) (by lia) h3;apply _k;refine⟨qq,M2,?_,r⟩;rw[Br,h1];show(body d G M).bind _=_;rw[h2];exact h4
def Tp{ds:List D}{j:Nat}(qq:it.den W ρ M=.ok (.tup ds) M1)(I:Nat->Env->dj->Prop)(R:dj->Prop)(h0:I 0 ρ M1)(hj:j<ds.length)
 (step:∀i x ρ M,i<j->ds[i]?=some x->I i ρ M->∃G Z M',t.put x ρ=some G/\b.den W G M=.ok (.next,Z) M'/\I (i+1) Z M') (last:∀x ρ M,ds[j]?=some x->I j ρ M->∃G Z M',t.put x ρ=some G/\b.den W G M=.ok (.err c,Z) M'/\R M') :
 ∃Z M',(Al.for_ t (.val it) b).den W ρ M=.ok (.err c,Z) M'/\R M':=by
 obtain⟨Z,M',h,r⟩:=ag6 (c:=c) (fin:=(Src.con ds).fin) (item:=(Src.con ds).item) (body:=λd ρ M=>match t.put d ρ with|some Z=>b.den W Z M|none=>.bad) I R hj
  (λi ρ M hi hI=>by
   have U:ds[i]?=some ds[i]:=by simp
   obtain⟨G,Z,M',h1,h2,h3⟩:=step i _ ρ M hi U hI;exact⟨_,Z,M',U,by simp[h1,h2],h3⟩)
  (fun ρ M hI=>by
   have U:ds[j]?=some ds[j]:=by simp
   obtain⟨G,Z,M',h1,h2,h3⟩:=last _ ρ M U hI;exact⟨_,Z,M',U,by simp[h1,h2],h3⟩) ds.length 0 ρ M1 (sy _) (ik _) h0
 refine⟨Z,M',?_,r⟩;rw[Vh,G6,qq];exact h
def am2(Z:1<=m)(h:ds.length=0\/10<ds.length):prog.Uj m 4 [.tup ds] M=some (4,M):=by
 rw[Gg Z rfl];rcases h with h|h
 .have:ds=[]:=xu.mp h
  subst this;simp[Fn.Hg,Cw,Cu,ym]
 .have U:(1:Int)<=ds.length:=by lia
  have G:¬((ds.length:Int)<=10):=by lia
  simp[Fn.Hg,Cw,Cu,ym,U,G]
noncomputable def pI(p:Int×Int):D:=.tup [.int p.1,.int p.2]
def inR(p:Int×Int):Prop:=(0<=p.1/\p.1<=7)/\0<=p.2/\p.2<=7
def bcu(h:inR p):qx.den W [R,D.int p.1,D.int p.2] M=.ok (.next,[R,some (.int p.1),some (.int p.2)]) M:=by obtain⟨⟨U,Z⟩,G,h4⟩:=h;simp[qx,U,Z,G,h4]
def a4y(h:¬inR p):qx.den W [b0,D.int p.1,D.int p.2] M=.ok (.err 4,[b0,some (.int p.1),some (.int p.2)]) M:=by
 unfold inR at h
 by_cases Z:0<=p.1
 .by_cases G:p.1<=7
  .by_cases U:0<=p.2
   .by_cases R:p.2<=7
    .exact absurd ⟨⟨Z,G⟩,U,R⟩ h
    .simp[qx,Z,G,U,R]
   .simp[qx,Z,G,U]
  .simp[qx,Z,G]
 .simp[qx,Z]
def ayo{Z:List (Int×Int)}{j:Nat}(hm:1<=m)(hl:Z.length<=10)(hj:Z[j]?=some p)(hp:¬inR p)(hi:∀i q,i<j->Z[i]?=some q->inR q):prog.Uj m 4 [.tup (Z.map pI)] M=some (4,M):=by
 rw[Gg hm rfl];have jl:=(ak.mp hj).1;obtain⟨qq,M',e,hM⟩:=Tp (c:=4) (W:=PW (m-1)) (it:=.v 0) (t:=.names [1,2]) (b:=qx) (ρ:=[D.tup (Z.map pI),none,none]) (M:=M) (M1:=M) (ds:=Z.map pI) (j:=j) rfl
  (λ_ R G=>∃b1 b2:Option D,R=[some (.tup (Z.map pI)),b1,b2]/\G=M) (λM'=>M'=M) ⟨none,none,rfl,rfl⟩ (by simpa using jl)
  (λi x R G qk hx hI=>by
   refine hG λ_ _k=>?_
   obtain⟨b1,b2,rfl,rfl⟩:=hI;obtain⟨q,U,rfl⟩:∃q,Z[i]?=some q/\pI q=x:=by simpa using hx
   apply _k;exact⟨_,_,G,rfl,bcu (hi i q qk U),_,_,rfl,rfl⟩)
  (λx R G hx hI=>by
   refine hG λ_ _k=>?_
   obtain⟨b1,b2,rfl,rfl⟩:=hI;obtain⟨q,U,rfl⟩:∃q,Z[j]?=some q/\pI q=x:=by simpa using hx
   rw[hj] at U;cases U;apply _k;exact⟨_,_,G,rfl,a4y hp,rfl⟩)
 subst hM;have p1:(1:Int)<=Z.length:=by lia
 have p2:(Z.length:Int)<=10:=by lia
 simp only[Fn.Hg,Cw,Cu];have e':Bd.den (PW (m-1)) [some (.tup (Z.map pI)),none,none] M'=.ok (.err 4,qq) M':=e;simp[ym,p1,p2,e']
def ayp{G:List Ar}(hm:1<=m)(hl:G.length<=10)(h1:e1∈G)(h2:e2∈G)(c1:e1.1=e2.2)(c2:e2.1=e1.2):∃M',prog.call m 5 [.tup (G.map aD)] M=.ok (.bl true) M'/\j8 M M':=by
 rw[call_of hm rfl];refine hG λ_ _k=>?_
 obtain⟨qv,M',a,b1,R,U,rfl,mp,g2⟩:=Ec (c:=(Ex.cmp .ne (.v 2) (.l (.v 1))).den (PW (m-1))) (body:=Cq.den (PW (m-1)))
  (λn ρ M1=>∃(Z:List Ar)(f:D)(U:Int)(R:Option D),ρ=[some (.tup (G.map aD)),some f,sI U,R]/\j8 M M1/\j7 M1 f=some (Z.map aD)/\(e1∈Z/\e2∈Z)/\Z.length<=10/\n=2*Z.length+if U=Z.length then 0 else 1)
  (fun ρ M1=>∃(b1 R:Option D)(U:Int),ρ=[some (.tup (G.map aD)),b1,sI U,R]/\0<U/\j8 M M1)
  (λn ρ M1 hI=>by
   refine hG λ_ _k=>?_
   obtain⟨Z,f,U,R,rfl,g2,g3,g4,g5,rfl⟩:=hI;have hl:=Ha g3;rw[bu] at hl;have q0:0<Z.length:=jn.mpr (Ak g4.1)
   apply _k
   by_cases e:U=Z.length
   .left
    exact⟨M1,by simp[hl,e],some f,R,U,rfl,by lia,g2⟩
   .right
    have qq:Cm.den (PW (m-1)) [some (.tup (G.map aD)),some f,sI Z.length,R] M1=.ok (.vl ((Z.map (·.2)).map nD)) M1:=by unfold Cm;rw[Bv (d:=f) (M1:=M1) (xs:=Z) (f:=aD) (g:=λe=>nD e.2) rfl g3 (by lia) (λx hx=>⟨_,rfl,by simp[aD,nD,Ei]⟩)];simp[ir,jb]
    have qk:Cj.den (PW (m-1)) [some (.tup (G.map aD)),some f,sI Z.length,some (.vl ((Z.map (·.2)).map nD))] M1=.ok (.vl ((lft Z).map aD)) M1:=by
     unfold Cj;rw[Ht (d:=f) (M1:=M1) (xs:=Z) (f:=aD) (q:=λe=>decide (e.1∈Z.map (·.2))) (g:=aD) rfl g3 (by lia) (λx hx=>⟨_,rfl,by
      have:=agj M1 x.1 (Z.map (·.2));simp[-List.map_map,aD,Xk,this],λ_=>by simp⟩)]
     rfl
    have le:(lft Z).length<=Z.length:=vz _ _
    refine⟨M1,.next,[some (.tup (G.map aD)),some (.vl ((lft Z).map aD)),sI Z.length,some (.vl ((Z.map (·.2)).map nD))],M1,_,by simp[hl,e],?_,.inl rfl,?_,lft Z,_,Z.length,_,rfl,g2,rfl,⟨?_,?_⟩,by lia,rfl⟩
    .simp only[Cq]
     simp[-List.map_map,hl,qq,qk]
    .simp only[e,jt]
     split<;>lia
    .exact qi.mpr ⟨g4.1,vo (di.mpr ⟨e2,g4.2,c1.symm⟩)⟩
    .exact qi.mpr ⟨g4.2,vo (di.mpr ⟨e1,g4.1,c2.symm⟩)⟩)
  Vd _ [some (.tup (G.map aD)),sR M.length,sI (-1),none] (M++[.lst (G.map aD)]) (by show _<1000000;split<;>lia)
  ⟨G,.ref M.length,-1,none,rfl,j8.app _ _,Ci (jd zx),⟨h1,h2⟩,hl,rfl⟩
 apply _k;refine⟨M',?_,g2⟩;simp only[Fn.run,Ka,J0];simp[ph,MW.new,Hj,Ls,a,mp]
def ag7{Z:List Ar}(hm:2<=m)(hl:Z.length<=10)(hs:∀e∈Z,e.1<=7/\e.2<=7)(h1:e1∈Z)(h2:e2∈Z)(c1:e1.1=e2.2)(c2:e2.1=e1.2):∃M',prog.Uj m 4 [.tup (Z.map aD)] M=some (4,M')/\j8 M M':=by
 rw[Gg (au (by decide) hm) rfl];obtain⟨M',a,k⟩:=ayp (m:=m-1) (M:=M) (by lia) hl h1 h2 c1 c2;have lp:∃G U:Option D,Bd.den (PW (m-1)) [some (.tup (Z.map aD)),none,none] M=.ok (.next,[some (.tup (Z.map aD)),G,U]) M:=by
  unfold Bd;refine hG λ_ _k=>?_
  obtain⟨qq,R,e,G,U,rfl,rfl⟩:=Ij (W:=PW (m-1)) (it:=.v 0) (t:=.names [1,2]) (b:=qx) (ρ:=[D.tup (Z.map aD),none,none]) (M:=M) (M1:=M) rfl
   (λ_ ρ R=>∃G U:Option D,ρ=[some (.tup (Z.map aD)),G,U]/\R=M) ⟨none,none,rfl,rfl⟩ (λi x ρ R hx hI=>by
    refine hG λ_ _k=>?_
    obtain⟨G,U,rfl,rfl⟩:=hI;obtain⟨e,h1,rfl⟩:∃e,Z[i]?=some e/\aD e=x:=by simpa using hx
    have hs:=hs e (bc h1);have s1:(e.1:Int)<=7:=by lia
    have s2:(e.2:Int)<=7:=by lia
    apply _k;exact⟨_,.next,[some (.tup (Z.map aD)),sI e.1,sI e.2],R,rfl,by simp[qx,Ei,s1,s2],.inl rfl,_,_,rfl,rfl⟩)
  apply _k;exact⟨G,U,e⟩
 obtain⟨G,U,e⟩:=lp;have p1:(1:Int)<=Z.length:=by have:=jn.mpr (Ak h1);lia
 have p2:(Z.length:Int)<=10:=by lia
 refine⟨M',?_,k⟩;simp only[Fn.Hg,Cw,Cu];simp[ym,p1,p2,e,a]
def asj(Z:1<=m)(h:8<ds.length):prog.Uj m 6 [e,.tup ds] M=some (4,M):=by
 rw[Gg Z rfl];have G:(8:Int)<ds.length:=by lia
 simp[Fn.Hg,Dn,Dm,ym,G]
def awh{Z:List D}(U:1<=m)(R:Z.length<=8)(e:Bt.den (PW (m-1)) [some a,some (.tup Z),none] M=.ok (.err 4,ρ') G):prog.Uj m 6 [a,.tup Z] M=some (4,G):=by
 rw[Gg U rfl];have p:¬(8:Int)<Z.length:=by lia
 simp only[Fn.Hg,Dn,Dm];simp[ym,p,e]
def ayq{Z:List Gn}(hm:5<=m)(E:Ends es V)(hg:∀g∈Z,Gd es g)(hl:(Z.map Gn.toD++x::r).length<=8)(h:NG es x):prog.Uj m 6 [.tup (es.map aD),.tup (Z.map Gn.toD++x::r)] M=some (4,M):=by
 obtain⟨qq,M',e,hM⟩:=Tp (c:=4) (W:=PW (m-1)) (it:=.v 1) (t:=.name 2) (b:=wk) (ρ:=[D.tup (es.map aD),D.tup (Z.map Gn.toD++x::r),none]) (M:=M) (M1:=M) (ds:=Z.map Gn.toD++x::r) (j:=Z.length) rfl
  (λ_ R G=>∃b2:Option D,R=[some (.tup (es.map aD)),some (.tup (Z.map Gn.toD++x::r)),b2]/\G=M) (λM'=>M'=M) ⟨none,rfl,rfl⟩ (by simp)
  (λi y R G hi U hI=>by
   refine hG λ_ _k=>?_
   obtain⟨b2,rfl,rfl⟩:=hI;rw[gw (by simpa using hi)] at U;obtain⟨g,h1,rfl⟩:∃g,Z[i]?=some g/\g.toD=y:=by simpa using U
   have:=abo (m:=m-1) (M:=G) (d:=.tup (es.map aD)) (by lia) rfl E g (hg g (bc h1));apply _k;exact⟨_,[some (.tup (es.map aD)),some (.tup (Z.map Gn.toD++x::r)),some g.toD],G,rfl,by simp[wk,this],_,rfl,rfl⟩)
  (λy R G U hI=>by
   obtain⟨b2,rfl,rfl⟩:=hI;rw[n8 (by simp)] at U;simp at U;subst U;have:=h (m-1) G (by lia);exact⟨_,[some (.tup (es.map aD)),some (.tup (Z.map Gn.toD++x::r)),some x],G,rfl,by simp[wk,this],rfl⟩)
 subst hM;exact awh (by lia) hl e
def Ref(c:Nat)(G:D):Prop:=∀m M,6<=m->∃Z,prog.Uj m 3 [G] M=some (c,Z)/\j8 M Z
def abw(h:∀m M,2<=m->∃Z,prog.Uj m 4 [e] M=some (4,Z)/\j8 M Z):Ref 4 (.tup [e,g,a]):=λm M G=>by obtain⟨Z,U,k⟩:=h (m-1) M (by lia);refine⟨Z,?_,k⟩;rw[Gg (au (by decide) G) rfl];simp[Fn.Hg,Ai,Ah,U]
def Yo(E:Ends es V)(h:∀m M,5<=m->prog.Uj m 6 [.tup (es.map aD),g] M=some (4,M)):Ref 4 (.tup [.tup (es.map aD),g,a]):=λm M R=>by obtain⟨G,Z,U⟩:=Mv (m:=m-1) (M:=M) (by lia) E.e0;have h1:=h (m-1) G (by lia);refine⟨G,?_,U⟩;rw[Gg (au (by decide) R) rfl];simp[Fn.Hg,Ai,Ah,Z,yw Z,h1]
def asl{Z:List Gn}(E:Ends es V)(hg:∀g∈Z,Gd es g)(hl:Z.length<=8)(h:NB es x y):Ref 4 (.tup [.tup (es.map aD),.tup (Z.map Gn.toD),.tup [x,y]]):=λm M hm=>by obtain⟨G,U,k1⟩:=Mv (m:=m-1) (M:=M) (by lia) E.e0;have R:=agk (m:=m-1) (M:=G) (by lia) E hg hl;have e3:=h (m-1) G (by lia);refine⟨G,?_,k1⟩;rw[Gg (au (by decide) hm) rfl];simp[Fn.Hg,Ai,Ah,U,yw U,R,yw R,e3]
def aen(G:7<=m)(h:Ref c U):∃M',prog.Uj m 23 [U] M=some (c,M')/\j8 M M':=by obtain⟨M',Z,k⟩:=h (m-1) M (by lia);refine⟨M',?_,k⟩;rw[Gg (au (by decide) G) rfl];simp[Fn.Hg,Vs,Vr,Z]
def abx(G:7<=m)(h:Ref c U):∃M',prog.Uj m 26 [U,x] M=some (c,M')/\j8 M M':=by obtain⟨M',Z,k⟩:=h (m-1) M (by lia);refine⟨M',?_,k⟩;rw[Gg (au (by decide) G) rfl];simp[Fn.Hg,Rr,Rq,Z]
def aeo(G:7<=m)(h:Ref c U):∃M',prog.Uj m 27 [U,x,y] M=some (c,M')/\j8 M M':=by obtain⟨M',Z,k⟩:=h (m-1) M (by lia);refine⟨M',?_,k⟩;rw[Gg (au (by decide) G) rfl];simp[Fn.Hg,Vu,Vt,Z]
def aep(hm:7<=m)(h:Hu s V):∃d M',prog.call m 26 [s.toD,.tup []] M=.ok d M'/\j8 M M':=by
 rw[call_of (au (by decide) hm) rfl];obtain⟨Z,G,R⟩:=V3 (m:=m-1) (M:=M) (by lia) h;have e0:=agx (m:=m-1) (M:=Z) (by lia);generalize Zy:Z++[.ins 5 [(1,.ref (Z.length+1)),(0,.ref (Z.length+2))],.lst [],.dT []]=M2 at e0;have k2:j8 Z M2:=Zy▸j8.app _ _;have T:Tie Z.length (Z.length+1) (Z.length+2) M2 [] []:=⟨by rw[<- Zy];simp,by rw[<- Zy];simp,by rw[<- Zy];simp[Jh]⟩;have e3:=Z7 (m:=m-1) (a:=s.a) (b:=s.b) (by lia) T;have U:∀M,vh s.toD (.int 2) M=some (.tup [cj s.a,cj s.b]):=λM=>Um _ _ _ _
 have lp:Th.den (PW (m-1)) [some s.toD,some (.tup []),sR Z.length,none] M2=.ok (.next,[some s.toD,some (.tup []),sR Z.length,none]) M2:=rfl;refine⟨.bl (decide (mkOf [] s.a=mkOf [] s.b)),M2,?_,R.trans k2⟩;simp only[Fn.run,Rr,Rq];simp[G,yw G,My,e0,lp,U,T.i,List.lookup,e3]
noncomputable def hT:mj:=.q (.a 3 (.lst (.c (.blt (.Zi 4) (.o (.v 2))) (.q (.blt (.Zi 3) (.o (.v 2))) (.blt (.Zi 2) (.o (.v 2))) (.blt (.Zi 1) (.o (.v 2))))))) (.expr (.bm .append (.v 3) (.o (.blt (.Zi 0) (.o (.v 2)))))) (.ret (.ix (.Bg (.p (.ix (.Bg (.p (.cst (.str (PySem.Str.ofString "other"))) (.cst (.str (PySem.Str.ofString "many"))))) (.blt .toInt (.o (.cmp .eq (.v 3) (.Bg (.c (.cst (.bl false)) (.c (.cst (.bl true)) (.q (.cst (.bl false)) (.cst (.bl false)) (.cst (.bl true)))))))))) (.cst (.str (PySem.Str.ofString "none"))))) (.blt .toInt (.o (.cmp .eq (.v 3) (.Bg (.c (.cst (.bl true)) (.c (.cst (.bl false)) (.q (.cst (.bl false)) (.cst (.bl false)) (.cst (.bl true)))))))))))
noncomputable def bT:mj:=.o (.iff (.cmp .eq (.v 0) (.i 0)) (.o (.exq 23 (.o (.v 1)))) (.o (.iff (.cmp .eq (.v 0) (.i 1)) (.o (.exq 26 (.p (.v 1) (.tup .z)))) (.o (.exq 27 (.q (.v 1) (.tup (.p (.i 1) (.i 1))) (.tup (.o (.tup (.o (.i 0)))))))))))
def Wc:Mt=.p (.try_ bT 2 hT) (.ret (.cst (.str (PySem.Str.ofString "told")))):=rfl
def kD(c:Nat):D:=if c=4 then sD "none" else sD "many"
def a4z(U:c=4\/c=3):∃G,hT.den W [none,none,sR M.length,none] (M++[.exc c])=.ok (.ret (kD c),G) (M++[.exc c,.lst [.bl (c==4),.bl (c==3),.bl false,.bl false,.bl true]]):=by
 have g:(M++[MO.exc c])[M.length]?=some (.exc c):=by simp
 have is:∀k,ph (.Zi k) [.ref M.length] (M++[.exc c])=.ok (.bl (k==0||c==k)) (M++[.exc c]):=λk=>by simp[ph,Fv,g]
 have g2:∀l,(M++[MO.exc c,.lst l])[M.length]?=some (.exc c):=λl=>by simp
 have R:∀l,(M++[MO.exc c,.lst l])[M.length+1]?=some (.lst l):=λl=>by simp
 have Z:∀k l,ph (.Zi k) [.ref M.length] (M++[.exc c,.lst l])=.ok (.bl (k==0||c==k)) (M++[.exc c,.lst l]):=λk l=>by simp[ph,Fv,g2]
 have st:∀l o,(M++[MO.exc c,.lst l]).set (M.length+1) o=M++[.exc c,o]:=λl o=>by rw[List.set_append_right _ _ (by lia),Nat.add_sub_cancel_left];rfl
 have n2:(c==2)=false:=by rcases U with rfl|rfl<;>rfl
 have n1:(c==1)=false:=by rcases U with rfl|rfl<;>rfl
 refine⟨[none,none,sR M.length,sR (M.length+1)],?_⟩;unfold hT;simp only[wj,Rp,af2,Cr,Ek,Qa,axp,Res.yd,is];simp[MW.new,Lv.put,Tg.put,Lh,fj,R,Z,Fw,onL,Fv,st,n2,n1];rcases U with rfl|rfl<;>simp[u9,Py,fj,R,Xh,ph,Fv,kD,sD,vh,ixL,j7,Pz]
def Qy(U:8<=m)(hc:c=4\/c=3)(h:Ref c Z){k:Nat}(hk:k<3):∃M',prog.call m 36 [.int k,Z] M=.ok (kD c) M'/\j8 M M':=by
 rw[call_of (au (by decide) U) rfl];have b:∃M',bT.den (PW (m-1)) [some (.int k),some Z,none,none] M=.ok (.err c,[some (.int k),some Z,none,none]) M'/\j8 M M':=by
  match k,hk with
  |0,_ =>
   obtain⟨M',G,q⟩:=aen (m:=m-1) (M:=M) (by lia) h;exact⟨M',by simp[bT,G],q⟩
  |1,_ =>
   obtain⟨M',G,q⟩:=abx (m:=m-1) (M:=M) (x:=.tup []) (by lia) h;exact⟨M',by simp[bT,G],q⟩
  |2,_ =>
   obtain⟨M',G,q⟩:=aeo (m:=m-1) (M:=M) (x:=.tup [.int 1,.int 1]) (y:=.tup [.tup [.int 0]]) (by lia) h;exact⟨M',by simp[bT,G],q⟩
 obtain⟨M',e,q⟩:=b;obtain⟨qq,R⟩:=a4z (W:=PW (m-1)) (M:=M') hc;refine⟨M'++[.exc c,.lst [.bl (c==4),.bl (c==3),.bl false,.bl false,.bl true]],?_,q.trans (j8.app _ _)⟩;have t:(Al.try_ bT 2 hT).den (PW (m-1)) [some (.int k),some Z,none,none] M=.ok (.ret (kD c),[none,none,none,none]) (M'++[.exc c,.lst [.bl (c==4),.bl (c==3),.bl false,.bl false,.bl true]]):=by show(bT.den (PW (m-1)) [some (.int k),some Z,none,none] M).bind _=_;rw[e];show(hT.den (PW (m-1)) [none,none,sR M'.length,none] (M'++[.exc c])).bind _=_;rw[R];rfl
 simp only[Fn.run,Hm,Wc];simp[t]
def aby(R:8<=m)(h:Hu s V){k:Nat}(U:k<3):∃M',prog.call m 36 [.int k,s.toD] M=.ok (sD "told") M'/\j8 M M':=by
 rw[call_of (au (by decide) R) rfl];have b:∃M',bT.den (PW (m-1)) [some (.int k),some s.toD,none,none] M=.ok (.next,[some (.int k),some s.toD,none,none]) M'/\j8 M M':=by
  match k,U with
  |0,_ =>
   obtain⟨d,M',Z,q,_⟩:=aje (m:=m-1) (M:=M) (by lia) h;exact⟨M',by simp[bT,Z,yw Z],q⟩
  |1,_ =>
   obtain⟨d,M',Z,q⟩:=aep (m:=m-1) (M:=M) (by lia) h;exact⟨M',by simp[bT,Z,yw Z],q⟩
  |2,_ =>
   obtain⟨d,M',Z,q,_⟩:=aja (m:=m-1) (M:=M) (zs:=[1,1]) (acts:=[[0]]) (by lia) h (by decide) (by simp);have G:prog.call (m-1) 27 [s.toD,.tup [.int 1,.int 1],.tup [.tup [.int 0]]] M=.ok (.bl d) M':=Z;exact⟨M',by simp[bT,G,yw G],q⟩
 obtain⟨M',e,q⟩:=b;refine⟨M',?_,q⟩;have t:(Al.try_ bT 2 hT).den (PW (m-1)) [some (.int k),some s.toD,none,none] M=.ok (.next,[some (.int k),some s.toD,none,none]) M':=by show(bT.den (PW (m-1)) [some (.int k),some s.toD,none,none] M).bind _=_;rw[e];rfl
 simp only[Fn.run,Hm,Wc];simp[t,sD]
noncomputable def lay(Z:Y3)(i:Nat):List Ar:=(List.range i).flatMap λk=>List.replicate (Z.getD k 0) (k,k+1)
def abz(Z:Y3)(i:Nat):lay Z (i+1)=lay Z i++List.replicate (Z.getD i 0) (i,i+1):=by simp[lay,uv]
theorem ag8(Z:Y3)(G:∀c∈Z,c<=10):∀i,(lay Z i).length<=10*i
 |0=>by simp[lay]
 |i+1=>by
  have:=ag8 Z G i;have U:Z.getD i 0<=10:=by
   rw[qz];cases e:Z[i]? with
   |none=>simp|some c=>exact G c (bc e)
  rw[abz,gr,nu]
  lia
def am3{cs:Y3}(hm:1<=m)(hl:cs.length<=100)(hc:∀c∈cs,c<=10):∃M',prog.call m 40 [.vl (cs.map nD)] M=.ok (.tup ((lay cs cs.length).map aD)) M'/\j8 M M':=by
 rw[call_of hm rfl];refine hG λ_ _k=>?_
 obtain⟨qq,M',e,G,rfl,Z,U⟩:=Bh (W:=PW (m-1)) (it:=.l (.v 0)) (t:=.name 2) (b:=Gx) (n:=cs.length) (ρ:=[D.vl (cs.map nD),sR M.length,none]) (M:=M++[.lst []]) (M1:=M++[.lst []]) (by simp[len_list (M:=M++[.lst []]) (d:=.vl (cs.map nD)) rfl]) (by lia)
  (λi R M1=>∃G:Option D,R=[some (.vl (cs.map nD)),sR M.length,G]/\M1[M.length]?=some (.lst ((lay cs i).map aD))/\j8 M M1) ⟨none,rfl,by simp[lay],j8.app _ _⟩
  (λi R M1 hi hI=>by
   obtain⟨G,rfl,Z,U⟩:=hI;have hx:vh (.vl (cs.map nD)) (.int i) M1=some (.int ((cs.getD i 0:Nat):Int)):=zu (ds:=cs.map nD) rfl (gq _) (by simp[hi,nD]);have c0:cs.getD i 0<=10:=by
    have:cs.getD i 0=cs[i]:=by simp[hi]
    rw[this];exact hc _ (by simp)
   have z0:(0:Int)<=(cs.getD i 0:Nat):=gq _
   have z1:((cs.getD i 0:Nat):Int)<=100000:=by lia
   have mu:Ax .mul (.vl [.tup [.int (i:Nat),.int ((i:Nat)+1)]]) (.int ((cs.getD i 0:Nat):Int)) M1=.ok (.vl ((List.replicate (cs.getD i 0) (i,i+1)).map aD)) M1:=by simp only[Ax,abg,z0,z1,and_self,km,jk,List.map_replicate];rfl
   have hn:=ag8 cs hc i;have el:((lay cs i).map aD).length+((List.replicate (cs.getD i 0) (i,i+1)).map aD).length<100000:=by simp only[bu,nu];lia
   refine⟨_,.next,[some (.vl (cs.map nD)),sR M.length,sI i],_,rfl,?_,.inl rfl,_,rfl,o6 (o:=.lst ((lay cs (i+1)).map aD)) Z,j8.set U (bf _)⟩;rw[abz,gf];simp only[Gx];simp[-List.getD_eq_getElem?_getD,-List.map_replicate,Ku Z,hx,mu,Ru Z el])
 apply _k;refine⟨M',?_,U⟩;have e':Ld.den (PW (m-1)) [some (.vl (cs.map nD)),sR M.length,none] (M++[.lst []])=.ok (.next,[some (.vl (cs.map nD)),sR M.length,G]) M':=e;have tt:ph .tuple [.ref M.length] M'=.ok (.tup ((lay cs cs.length).map aD)) M':=Z5 Z;simp only[Fn.run,Ol,Oj];simp[MW.new,e',tt]
def gen(Z:List Ar):Nat->List (List Nat)
 |0=>(List.range Z.length).map λk=>[k]
 |k+1=>(gen Z k).flatMap (ext Z)
theorem ag9(Z:List Ar):∀(k:Nat)(w:Y3),w∈gen Z k->Way Z w/\w.length=k+1
 |0,w,h=>by
  obtain⟨i,U,rfl⟩:=di.mp h;exact⟨⟨by simp,by simpa using U,trivial⟩,rfl⟩
 |k+1,w,h=>by
  obtain⟨u,R,G⟩:=zg.mp h;obtain⟨W,l⟩:=ag9 Z k u R;refine⟨Us W G,?_⟩;obtain⟨j,_,rfl⟩:=di.mp G;simp[l]
def ayr{G:List (List Nat)}{Z:List Ar}(hm:1<=m)(qq:Z.length<=10)(hf:fj M f=some (G.map cj))(hw:∀w∈G,Way Z w/\w.length<=100)(hb:(G.flatMap (ext Z)).length<=1000)(hr:M[r]?=some (.lst []))(hk:Jt r f=true) :
 ∃R U M',Eo.den (PW m) [some (.tup (Z.map aD)),a1,some f,sR r,a4,a5] M=.ok (.next,[some (.tup (Z.map aD)),a1,some f,sR r,R,U]) M'/\M'[r]?=some (.lst ((G.flatMap (ext Z)).map cj))/\Jl r M M':=by
 unfold Eo;refine hG λ_ _k=>?_
 obtain⟨qk,M',a,R,U,rfl,g1,g2⟩:=zy (W:=PW m) (it:=.v 2) (t:=.name 4) (b:=Em) (ρ:=[D.tup (Z.map aD),a1,some f,sR r,a4,a5]) (M:=M) (M1:=M) rfl hf
  (λi ρ M1=>∃R U:Option D,ρ=[some (.tup (Z.map aD)),a1,some f,sR r,R,U]/\M1[r]?=some (.lst (((G.take i).flatMap (ext Z)).map cj))/\Jl r M M1)
  ⟨a4,a5,rfl,by simpa using hr,Jl.refl r M⟩ (λi ρ M1 h=>by obtain⟨_,_,_,_,k⟩:=h;exact k.fj hk hf)
  (λi x ρ M1 hx hI=>by
   refine hG λ_ _k=>?_
   obtain⟨R,U,rfl,g1,g2⟩:=hI;obtain⟨w,hi,rfl⟩:∃w,G[i]?=some w/\cj w=x:=by simpa using hx
   obtain⟨W,wl⟩:=hw w (bc hi);have c1:El.den (PW m) [some (.tup (Z.map aD)),a1,some f,sR r,some (cj w),sI (yp Z w)] M1=.ok (.vl ((ext Z w).map cj)) M1:=by
    unfold El;rw[Mg (ds:=Z.map aD) (M1:=M1) (q:=λk=>decide ((at_ Z k).1=yp Z w)) (g:=λk=>cj (w++[k])) rfl (by simpa using au qq (by decide)) (λj x hx=>by
     have hj:j<Z.length:=by simpa using(ak.mp hx).1
     have ex:x=aD (at_ Z j):=by simpa[Om hj] using hx.symm
     subst ex;exact⟨_,rfl,by simp[aD,Qj],λ_=>by simp[Hr w j (by lia)]⟩)]
    simp only[bu,Zv,km]
   have e1:(G.take (i+1)).flatMap (ext Z)=(G.take i).flatMap (ext Z)++ext Z w:=by rw[m5,hi];simp
   have el:(((G.take i).flatMap (ext Z)).map cj).length+((ext Z w).map cj).length<100000:=by
    have e2:((G.take (i+1)).flatMap (ext Z)).length<=(G.flatMap (ext Z)).length:=by
     conv=>rhs;rw[<- t7 (i+1) G,List.flatMap_append,gr]
     exact Nat.le_add_right _ _
    rw[e1,gr] at e2;rw[bu,bu]
    lia
   apply _k;refine⟨_,.next,_,_,rfl,?_,.inl rfl,some (cj w),sI (yp Z w),rfl,o6 (o:=.lst (((G.take (i+1)).flatMap (ext Z)).map cj)) g1,g2.trans (Jl.set r M1 _)⟩;simp only[Em];simp[Ho hm (M:=M1) (d:=.tup (Z.map aD)) rfl W,Ku g1,c1,Ru g1 el];rw[e1];simp)
 apply _k;refine⟨R,U,M',a,?_,g2⟩;simpa using g1
def ays{N:Nat}{es:List Ar}(hm:2<=m)(qq:es.length<=10)(hN:gen es N=[])(Pb:∀k,k<N->gen es k≠[])(hl:∀k,k<=N->(gen es k).length<=1000)(N2:N<=20) :
 ∃(l:List D)(M':dj),prog.call m 13 [.tup (es.map aD)] M=.ok (.ref M.length) M'/\M'[M.length]?=some (.lst l)/\l.length=((List.range N).map λk=>(gen es k).length).sum/\j8 M M':=by
 rw[call_of (au (by decide) hm) rfl];refine hG λ_ _k=>?_
 have hn:es.length<=100000:=au qq (by decide)
 have c2:Bo.den (PW (m-1)) [some (.tup (es.map aD)),sR M.length,none,none,none,none] (M++[.lst []])=.ok (.vl (((List.range es.length).map λk=>[k]).map cj)) (M++[.lst []]):=by unfold Bo;rw[Fe (n:=es.length) (M1:=M++[.lst []]) (g:=λk=>cj [k]) (by simp[ym]) hn (λi hi=>⟨_,rfl,by simp[cj,nD]⟩)];simp[ir,jb]
 have sm:∀j,j<=N->((List.range j).map λk=>(gen es k).length).sum<=1000*j:=λj=>by
  induction j with
  |zero=>intro _;simp
  |succ j ih =>
   intro h;have:=ih (by lia);have:=hl j (by lia);rw[uv,gf,Ag]
   simp;lia
 obtain⟨qv,M',a,l,b2,R,U,G,rfl,g1,g2,g3⟩:=Ec (c:=(Ex.tru (.v 2)).den (PW (m-1))) (body:=Bl.den (PW (m-1)))
  (λn ρ Z=>∃(j:Nat)(l:List D)(f:D)(R U G:Option D),ρ=[some (.tup (es.map aD)),sR M.length,some f,R,U,G]/\Z[M.length]?=some (.lst l)/\j8 M Z/\fj Z f=some ((gen es j).map cj)/\Jt M.length f=true/\j<=N/\l.length=((List.range j).map λk=>(gen es k).length).sum/\n=N-j)
  (fun ρ Z=>∃(l:List D)(b2 R U G:Option D),ρ=[some (.tup (es.map aD)),sR M.length,b2,R,U,G]/\Z[M.length]?=some (.lst l)/\j8 M Z/\l.length=((List.range N).map λk=>(gen es k).length).sum)
  (λn ρ Z hI=>by
   refine hG λ_ _k=>?_
   obtain⟨j,l,f,R,U,G,rfl,g1,g2,g3,g4,g5,g6,rfl⟩:=hI;have hs:=Ci g3;apply _k
   by_cases hw:j=N
   .left
    subst hw;rw[hN] at hs;exact⟨Z,by simp[hs],l,some f,R,U,G,rfl,g1,g2,g6⟩
   .right
    have qk:=Pb j (by lia);have lj:=hl j g5;have sj:=sm j g5;have x1:=Zx g1 g3 g4 (by simp;lia);have k1:Jl M.length Z (Z.set M.length (.lst (l++(gen es j).map cj))):=Jl.set _ _ _;have f1:=k1.fj g4 g3;generalize Zy:Z.set M.length (.lst (l++(gen es j).map cj))=M2 at x1 k1 f1;have t1:M2[M.length]?=some (.lst (l++(gen es j).map cj)):=by rw[<- Zy];exact o6 g1
    have f2:fj (M2++[.lst []]) f=some ((gen es j).map cj):=(j8.app _ _).fj f1;have hr:Jt M2.length f=true:=by
     cases f with
     |ref n =>
      have:n<M2.length:=by
       cases e:M2[n]? with
       |none=>simp[MW.fj,e] at f1|some o=>exact tu e
      simpa[Jt] using gh this
     |_=>rfl
    obtain⟨c4,c5,M3,e3,h3,k3⟩:=ayr (m:=m-1) (a1:=sR M.length) (a4:=U) (a5:=G) (by lia) qq f2 (λw hw=>by obtain⟨q1,q2⟩:=ag9 es j w hw;exact⟨q1,by lia⟩) (hl (j+1) (by lia)) zx hr;have tl:M.length<M2.length:=tu t1
    refine⟨Z,.next,[some (.tup (es.map aD)),sR M.length,sR M2.length,sR M2.length,c4,c5],M3,N-(j+1),?_,?_,.inl rfl,by lia,j+1,l++(gen es j).map cj,.ref M2.length,_,_,_,rfl,k3 _ _ (gh tl) (Ba t1),?_,jd h3,?_,by lia,?_,rfl⟩
    .simp[hs,qk]
    .simp only[Bl]
     simp[Ku g1,x1,MW.new,e3]
    .intro a o h
     have ha:=tu h;have:=g2 a o h;refine k3 a o (by lia) (Ba ?_);rw[<- Zy,jq (by lia)];exact this
    .simpa[Jt] using su tl
    .rw[gr,bu,g6,uv,gf,Ag]
     simp)
  Vd N [some (.tup (es.map aD)),sR M.length,some (.vl (((List.range es.length).map λk=>[k]).map cj)),none,none,none] (M++[.lst []]) (by show N<1000000;lia)
  ⟨0,[],_,none,none,none,rfl,zx,j8.app _ _,rfl,rfl,ik _,rfl,rfl⟩
 apply _k;refine⟨l,M',?_,g1,g3,g2⟩;simp only[Fn.run,Kf,Ke];simp[-List.map_map,MW.new,c2,G7,Ls,a]
def uz:List Ar:=lay [5,3,2] 3
def Mz:List Ar:=lay [4,2,2,1] 4++[(5,6)]
def asm:uz=[(0,1),(0,1),(0,1),(0,1),(0,1),(1,2),(1,2),(1,2),(2,3),(2,3)]:=by decide+kernel
def am4:Mz=[(0,1),(0,1),(0,1),(0,1),(1,2),(1,2),(2,3),(2,3),(3,4),(5,6)]:=by decide+kernel
def am5:(gen uz 0).length=10/\(gen uz 1).length=21/\(gen uz 2).length=30/\gen uz 3=[]:=by decide+kernel
def am6:Ends Mz (Vk [44,10,4,1,0,1,0,0]):=by refine Nu ?_ ?_ ?_ ?_ ?_<;>decide+kernel
def Nv:V0 uz (Vk [50,9,2,0,0,0,0,0]):=by
 have Z:∀e∈uz,(e:Ar).1<=7/\e.2<=7:=by decide+kernel
 refine⟨by decide+kernel,by decide+kernel,Z,λv=>?_⟩;rcases ju v 8 with h|h
 .revert v;decide+kernel
 .have:nxt uz v=[]:=xf.mpr λk G=>by
   obtain⟨U,R⟩:=Ip.mp G;have:=(Z _ (Jf U)).1
   lia
  rw[this];exact ik _
def a5a(Z:it.den W R M=.ok (.tup [x]) M)(hp:t.put x R=some G)(hb:b.den W G M=.ok (.next,U) M'):(Al.for_ t (.val it) b).den W R M=.ok (.next,U) M':=by rw[Vh,G6,Z];simp[srcOf,Br,Src.len,Src.item,Src.fin,hp,hb]
def ayt(Z:it.den W R M=.ok (.tup [x]) M)(hp:t.put x R=some G)(hb:b.den W G M=.ok (.err c,U) M'):(Al.for_ t (.val it) b).den W R M=.ok (.err c,U) M':=by rw[Vh,G6,Z];simp[srcOf,Br,Src.len,Src.item,Src.fin,hp,hb]
def Li:D:=.tup [cj [0],cj [1]]
def aha(z:Int):D:=.tup [.tup (uz.map aD),.tup [.tup [sD "apart",.int z]],Li]
def Jm{k:Nat}(Z:k<10):Way uz [k]:=⟨by simp,by simpa[asm] using Z,trivial⟩
def am7(hm:3<=m):prog.call m 12 [.tup (uz.map aD),cj [0],cj [1]] M=.ok (.bl true) M:=by
 rw[call_of (au (by decide) hm) rfl];have Z:j7 M (.tup (uz.map aD))=some (uz.map aD):=rfl;have G:uz.length<=10:=Nv.few
 have h1:=O2 (m:=m-1) (by lia) Z G (by decide) (Jm (k:=0) (by decide));have U:=O2 (m:=m-1) (by lia) Z G (by decide) (Jm (k:=1) (by decide));have h3:=Hq (m:=m-1) (by lia) Z (Jm (k:=0) (by decide));have h4:=Hq (m:=m-1) (by lia) Z (Jm (k:=1) (by decide));have R:=Ho (m:=m-1) (by lia) Z (Jm (k:=0) (by decide));have h6:=Ho (m:=m-1) (by lia) Z (Jm (k:=1) (by decide));have w1:Aj uz [0]=Aj uz [1]:=by decide+kernel
 have w2:yp uz [0]=yp uz [1]:=by decide+kernel
 simp[Fn.run,Bk,Bj,h1,U,h3,h4,R,h6,w1,w2]
def aeq(G:5<=m):prog.call m 6 [.tup (uz.map aD),.tup [.tup [sD "apart",.int 9]]] M=.ok .non M:=by
 rw[call_of (au (by decide) G) rfl];have g:prog.call (m-1) 7 [.tup (uz.map aD),.tup [sD "apart",.int 9]] M=.ok (.bl true) M:=by
  rw[call_of (by lia) rfl];have U:=Z9 (m:=m-1-1) (es:=uz) (z:=9) (M:=M) (by lia);have R:PySem.Str.ofString "apart"≠PySem.Str.ofString "same" := by decide
  have ok:Yn uz 9=true:=by decide+kernel
  simp[Fn.run,Bf,Be,sD,U,R,ok]
 have Z:Bt.den (PW (m-1)) [some (.tup (uz.map aD)),some (.tup [.tup [sD "apart",.int 9]]),none] M=.ok (.next,[some (.tup (uz.map aD)),some (.tup [.tup [sD "apart",.int 9]]),some (.tup [sD "apart",.int 9])]) M:=by exact a5a rfl rfl (by simp[wk,g])
 simp only[Fn.run,Dn,Dm];simp[ym,Z]
def am8:Ref 3 (aha 9):=λm M hm=>by
 refine hG λ_ _k=>?_
 obtain⟨G,e1,k1⟩:=Mv (m:=m-1) (M:=M) (by lia) Nv;have e2:=aeq (m:=m-1) (M:=G) (by lia);have e3:=am7 (m:=m-1) (M:=G) (by lia);obtain⟨h0,U,Z,h3⟩:=am5;obtain⟨l,M2,e4,g4,l4,k4⟩:=ays (m:=m-1) (M:=G) (es:=uz) (N:=3) (by lia) Nv.few h3 (λk R z=>by
  match k,R with
  |0,_=>rw[z] at h0;cases h0|1,_=>rw[z] at U;cases U|2,_=>rw[z] at Z;cases Z) (λk R=>by
  match k,R with
  | 0,_=>lia|1,_=>lia|2,_=>lia|3,_=>rw[h3];decide) (by decide)
 have ll:=len_list (jd g4);have l5:l.length=61:=by rw[l4];show(gen uz 0).length+((gen uz 1).length+((gen uz 2).length+0))=61;rw[h0,U,Z]
 rw[l5] at ll;apply _k;refine⟨M2,?_,k1.trans k4⟩;rw[Gg (au (by decide) hm) rfl];simp only[Fn.Hg,Ai,Ah,aha,Li];simp[e1,yw e1,e2,yw e2,e3,e4,ll]
def ab0(R:Yn uz z=false):Ref 4 (aha z):=λm M U=>by
 obtain⟨M1,Z,G⟩:=Mv (m:=m-1) (M:=M) (by lia) Nv;have h:=abv R;have c6:prog.Uj (m-1) 6 [.tup (uz.map aD),.tup [.tup [sD "apart",.int z]]] M1=some (4,M1):=by
  have g:=h (m-1-1) M1 (by lia);have b:wk.den (PW (m-1-1)) [some (.tup (uz.map aD)),some (.tup [.tup [sD "apart",.int z]]),some (.tup [sD "apart",.int z])] M1=.ok (.err 4,[some (.tup (uz.map aD)),some (.tup [.tup [sD "apart",.int z]]),some (.tup [sD "apart",.int z])]) M1:=by simp[wk,g]
  refine awh (ρ':=[some (.tup (uz.map aD)),some (.tup [.tup [sD "apart",.int z]]),some (.tup [sD "apart",.int z])]) (by lia) (by simp) ?_;exact ayt rfl rfl b
 refine⟨M1,?_,G⟩;rw[Gg (au (by decide) U) rfl];simp only[Fn.Hg,Ai,Ah,aha];simp[Z,yw Z,c6]
def a5b:Zz:=⟨Mz,[.same [0,4] [1,4]],[0],[1]⟩
def ayu:Hu a5b (Vk [44,10,4,1,0,1,0,0]):=by
 have w:∀k,k<10->Way Mz [k]:=λk Z=>⟨by simp,by simpa[am4] using Z,trivial⟩
 have U:∀k,k<4->Way Mz [k,4]:=λk Z=>⟨by simp,by simp[am4];lia,⟨by match k,Z with|0,_=>decide+kernel|1,_=>decide+kernel|2,_=>decide+kernel|3,_=>decide+kernel,trivial⟩⟩
 refine⟨am6,λg G=>?_,by decide,⟨w 0 (by decide),w 1 (by decide),by decide+kernel,by decide+kernel⟩⟩;simp only[a5b,jm] at G;subst G;exact⟨U 0 (by decide),U 1 (by decide),by decide+kernel,by decide+kernel⟩
def a5c(w:Y3):cj w=zc (w.map λ(x:Nat)=>(x:Int)):=by simp[cj,zc,nD,ir,jb]
theorem Ye.get:∀{w:Y3}{i:Nat},Ye es w->w[i]?=some a->w[i+1]?=some b->(at_ es a).2=(at_ es b).1
 |[],_,_,h,_=>by simp at h|[_],i,_,_,h=>by simp at h|x::y::r,0,c,h1,h2=>by simp at h1 h2;subst h1 h2;exact c.1|x::y::r,i+1,c,h1,h2=>Ye.get (w:=y::r) (i:=i) c.2 (by simpa using h1) (by simpa using h2)
def ab1(hm:1<=m)(U:j7 M d=some (es.map aD))(W:Way es w)(wl:w.length<=60):prog.call m 35 [d,cj w] M=.ok (aD (Aj es w,yp es w)) M:=by
 rw[call_of hm rfl];have Pb:1<=w.length:=jn.mpr W.ne
 have l1:ph .len [cj w] M=.ok (.int w.length) M:=by simp[cj,ym]
 obtain⟨v,mn,hv⟩:=ax7 (M:=M) (zs:=w.map λ(x:Nat)=>(x:Int)) (by simpa using W.ne);rw[<- a5c] at mn;have v0:¬v<0:=λh=>by
  obtain⟨z,h1,h2⟩:=hv.mp h;obtain⟨x,_,rfl⟩:=di.mp h1
  lia
 obtain⟨t,qq,ht⟩:∃t:Nat,ph .max [cj w] M=.ok (.int t) M/\t<es.length:=by
  cases w with
  |nil=>exact absurd rfl W.ne|cons a l=>exact⟨Xm l a,V5 M rfl,Z3 l a (W.lt a (by simp)) λx hx=>W.lt x (bh _ hx)⟩
 have le:=Ha U;rw[bu] at le;have t1:¬(es.length:Int)<=t:=by lia
 have n0:¬(w.length:Int)=0:=by lia
 have lp:∃Z:Option D,Ga.den (PW (m-1)) [some d,some (cj w),none] M=.ok (.next,[some d,some (cj w),Z]) M:=by
  unfold Ga;refine hG λ_ _k=>?_
  obtain⟨qk,G,e,Z,rfl,rfl⟩:=Bh (W:=PW (m-1)) (n:=w.length-1) (M1:=M) (t:=.name 2) (b:=Fz) (ρ:=[some d,cj w,none]) (M:=M) (it:=.bin .sub (.l (.v 1)) (.i 1)) (by
   have:(w.length:Int)-1=((w.length-1:Nat):Int):=by lia
   simp[l1,this]) (by lia) (λ_ ρ G=>∃Z:Option D,ρ=[some d,some (cj w),Z]/\G=M) ⟨none,rfl,rfl⟩ (λi ρ G hi hI=>by
   obtain⟨Z,rfl,rfl⟩:=hI;obtain⟨a,R⟩:∃a,w[i]?=some a:=⟨_,du (by lia)⟩;obtain⟨b,hb⟩:∃b,w[i+1]?=some b:=⟨_,du (by lia)⟩;have x1:=alv (M:=G) R;have ei:((i:Int)+1)=((i+1:Nat):Int):=by lia
   have x2:vh (cj w) (.int ((i:Int)+1)) G=some (.int (b:Nat)):=by rw[ei];exact alv hb
   have y1:=Fq U (W.lt a (bc R));have y2:=Fq U (W.lt b (bc hb));have c:=W.ch.get R hb;refine⟨_,.next,[some d,some (cj w),sI i],G,rfl,?_,.inl rfl,_,rfl,rfl⟩;simp only[Fz];simp[x1,x2,y1,y2,Hv,Mw,c])
  apply _k;exact⟨Z,e⟩
 obtain⟨Z,e⟩:=lp;simp only[Fn.run,Ms,Mr];simp[l1,mn,v0,qq,le,t1,n0,e,V1 W,Qk W,Fq U W.G9,Fq U W.Ql,Hv,Mw,W.ne];simp[aD,Aj,yp]
def bcv(Z:fj M x=some U)(G:fj M y=some R)(hx:∀l,x≠.tup l)(hi:∀i,x≠.int i)(hl:U.length+R.length<=100000):Ax .add x y M=.ok (.vl (U++R)) M:=by
 have:Ax .add x y M=X6 x y M:=rfl;rw[this];cases x with
 |vl l=>simp[X6,Z,G,hl]|ref n=>simp[X6,Z,G,hl]|tup l=>exact absurd rfl (hx l)|int i=>exact absurd rfl (hi i)|_=>cases Z
def Qz{F:Fn}(Z:ds.length=F.np)(h:F.body.den W (ds.map some++List.replicate (F.ns-F.np) none) M=.ok (.ret d,ρ) M'):F.run W ds M=.ok d M':=by rw[Fn.run,cg Z,h];rfl
abbrev EW(t:Nat)(e:D)(b2 b3 b4 b5:Option D):Env:=[sR t,some e,b2,b3,b4,b5]
def apN(Z:List Ar)(a:Nat):List (List Nat):=((List.range Z.length).filter λb=>decide (¬(at_ Z a).2=(at_ Z b).1)).map λb=>[a,b]
def apL(Z:List Ar)(i:Nat):List (List Nat):=(List.range i).flatMap (apN Z)
def Wd(Z:List Ar)(i:Nat):apL Z (i+1)=apL Z i++apN Z i:=by simp[apL,uv]
def ayv(hl:es.length<=10)(h:r∈apL es es.length):NW es (cj r):=by obtain⟨a,R,Z⟩:=zg.mp h;obtain⟨b,U,rfl⟩:=di.mp Z;obtain⟨h4,G⟩:=qi.mp U;exact ayn (ji.mp R) (ji.mp h4) (iy G)
theorem Ux(Z:List Ar)(U:Z.length<=10):∀i,(apL Z i).length<=10*i
 |0=>by simp[apL]
 |i+1=>by
  have:=Ux Z U i;rw[Wd,gr,apN,bu];have G:=vz (λb=>decide (¬(at_ Z i).2=(at_ Z b).1)) (List.range Z.length);rw[List.length_range] at G
  lia
def a5d(hm:1<=m)(hl:es.length<=10)(hp:M[p]?=some (.lst [])):∃Z M',Gf.den (PW m) (EW t (.tup (es.map aD)) b2 b3 (sR p) none) M=.ok (.next,EW t (.tup (es.map aD)) b2 b3 (sR p) Z) M'/\M'[p]?=some (.lst ((apL es es.length).map cj))/\Jl p M M':=by
 unfold Gf;refine hG λ_ _k=>?_
 have ln:∀M:dj,ph .len [.tup (es.map aD)] M=.ok (.int es.length) M:=λM=>by simp[ym]
 obtain⟨qq,M',e,Z,rfl,G,U⟩:=Bh (W:=PW m) (it:=.l (.v 1)) (t:=.name 5) (b:=Ge) (n:=es.length) (ρ:=EW t (.tup (es.map aD)) b2 b3 (sR p) none) (M:=M) (M1:=M) (by simp[ln]) (by lia)
  (λi R M1=>∃Z:Option D,R=EW t (.tup (es.map aD)) b2 b3 (sR p) Z/\M1[p]?=some (.lst ((apL es i).map cj))/\Jl p M M1) ⟨none,rfl,by simpa[apL] using hp,Jl.refl _ _⟩
  (λi R M1 hi hI=>by
   obtain⟨Z,rfl,G,U⟩:=hI;have hd:j7 M1 (.tup (es.map aD))=some (es.map aD):=rfl;have c1:Gb.den (PW m) (EW t (.tup (es.map aD)) b2 b3 (sR p) (sI i)) M1=.ok (.vl ((apN es i).map cj)) M1:=by
    unfold Gb;rw[Mf (n:=es.length) (M1:=M1) (q:=λb=>decide (¬(at_ es i).2=(at_ es b).1)) (g:=λb=>cj [i,b]) (by simp[ln]) (by lia) (λj hj=>⟨_,rfl,by
     have x1:=Fq (i:=i) hd hi;have x2:=Fq (i:=j) hd hj;simp[x1,x2,Hv,Mw,Qj],λ_=>by simp[cj,nD]⟩)]
    simp[apN,ir,jb]
   have n1:=Ux es hl i;have n2:=Ux es hl (i+1);rw[Wd,gr] at n2;have el:((apL es i).map cj).length+((apN es i).map cj).length<100000:=by rw[bu,bu];lia
   refine⟨_,.next,EW t (.tup (es.map aD)) b2 b3 (sR p) (sI i),_,rfl,?_,.inl rfl,_,rfl,o6 (o:=.lst ((apL es (i+1)).map cj)) G,U.trans (Jl.set p M1 _)⟩;rw[Wd,gf];simp only[Ge];simp[-List.map_map,Ku G,c1,Ru G el])
 apply _k;exact⟨Z,M',e,G,U⟩
noncomputable def bwL(n a:Int):List D:=[.tup [],.tup [.int (-a)],.tup [.int (n-1+a)],.tup [.int 0,.int (-a)],.tup [.int (n-1+a),.int 0]]
def We(hm:2<=m)(hs:Has t f M)(h1:1<=es.length)(hl:es.length<=10):∃x M',prog.call m 37 [.ref t,.tup (es.map aD)] M=.ok x M'/\NW es x/\St t f M M':=by
 rw[call_of (au (by decide) hm) rfl];obtain⟨v,M1,e1,v1,S1,l1⟩:=wu (m:=m-1) (M:=M) (many:=1000000) (by lia) hs (by decide) (by decide);have tl:t<M.length:=by obtain⟨n,a,_⟩:=hs;exact tu a
 have po:Ax .pow (.int 10) (.int 6) M=.ok (.int 1000000) M:=by simp[Ax,ald]
 have x1:(Al.a 2 (.bin .add (.i 1) (.call 2 (.p (.v 0) (.bin .pow (.i 10) (.i 6)))))).den (PW (m-1)) (EW t (.tup (es.map aD)) none none none none) M=.ok (.next,EW t (.tup (es.map aD)) (sI (1+v)) none none none) M1:=by simp[po,e1]
 have a1:(1:Int)<=1+v:=by lia
 generalize(1:Int)+v=a at x1 a1;have le:ph .len [.tup (es.map aD)] M1=.ok (.int es.length) M1:=by simp[ym]
 have x3:(Al.a 3 (.Bg (.c (.tup .z) (.c (.tup (.o (.neg (.v 2)))) (.q (.tup (.o (.bin .add (.bin .sub (.l (.v 1)) (.i 1)) (.v 2)))) (.tup (.p (.i 0) (.neg (.v 2)))) (.tup (.p (.bin .add (.bin .sub (.l (.v 1)) (.i 1)) (.v 2)) (.i 0)))))))).den (PW (m-1)) (EW t (.tup (es.map aD)) (sI a) none none none) M1=.ok (.next,EW t (.tup (es.map aD)) (sI a) (some (.vl (bwL es.length a))) none none) M1:=by simp[le,bwL]
 have U:(bwL es.length a).length=5:=rfl;have x4:(Al.a 4 (.lst .z)).den (PW (m-1)) (EW t (.tup (es.map aD)) (sI a) (some (.vl (bwL es.length a))) none none) M1=.ok (.next,EW t (.tup (es.map aD)) (sI a) (some (.vl (bwL es.length a))) (sR M1.length) none) (M1++[.lst []]):=by simp[MW.new]
 obtain⟨b5,M2,e2,Z,k2⟩:=a5d (m:=m-1) (t:=t) (b2:=sI a) (b3:=some (.vl (bwL es.length a))) (M:=M1++[.lst []]) (p:=M1.length) (by lia) hl zx;have S2:St t f M M2:=by
  have S':St t f M (M1++[.lst []]):=S1.keep' (j8.app _ _);obtain⟨n,a,ho⟩:=S'.has;refine⟨?_,⟨n,k2 _ _ (by lia) a,ho⟩,λa o na h=>k2 a o (by have:=tu h;lia) (S'.keep a o na h)⟩;have:=tu Z
  lia
 have nl:=Ux es hl es.length;have hA:∀r∈apL es es.length,NW es (cj r):=λr h=>ayv hl h
 generalize(apL es es.length)=A at Z nl hA;have ln:ph .len [.ref M1.length] M2=.ok (.int (A.length:Nat)) M2:=by have:=len_list (jd Z);rwa [bu] at this
 obtain⟨w,M3,e3,w3,S3,l3⟩:=wu (m:=m-1) (M:=M2) (many:=((5+A.length:Nat):Int)) (by lia) S2.has (by lia) (by lia);have o1:Yn es (-a)=false:=by simp[Yn];lia
 have o2:Yn es ((es.length:Int)-1+a)=false:=by simp[Yn];lia
 obtain⟨x,hx,nx⟩:∃x,(bwL es.length a++A.map cj)[w]?=some x/\NW es x:=by
  have hw:w<5+A.length:=by lia
  match w,hw with
  |0,_=>exact⟨_,rfl,aym⟩|1,_=>exact⟨_,rfl,aaa (zs:=[-a]) (by simp) (by simp) o1⟩|2,_=>exact⟨_,rfl,aaa (zs:=[(es.length:Int)-1+a]) (by simp) (by simp) o2⟩|3,_=>exact⟨_,rfl,aaa (zs:=[0,-a]) (by simp) (bh _ (jm.mpr rfl)) o1⟩|4,_=>exact⟨_,rfl,aaa (zs:=[(es.length:Int)-1+a,0]) (by simp) cz o2⟩
  |j+5,h =>
   have hj:j<A.length:=by lia
   exact⟨cj A[j],by simp[bwL,hj],hA _ (uc hj)⟩
 generalize hB:bwL es.length a=B at x3 x4 e2 hx U;have ad:Ax .add (.vl B) (.ref M1.length) M2=.ok (.vl (B++A.map cj)) M2:=bcv rfl (jd Z) (by intro l;simp) (by intro l;simp) (by rw[U];simp;lia);have G:vh (.vl (B++A.map cj)) (.int w) M3=some x:=zu rfl (gq _) (by simpa using hx);have R:prog.call (m-1) 2 [.ref t,.int (5+(A.length:Int))] M2=.ok (.int w) M3:=by
  have:(5+(A.length:Int))=((5+A.length:Nat):Int):=by lia
  rw[this];exact e3
 have lv:ph .len [.vl B] M2=.ok (.int 5) M2:=by have:ph .len [.vl B] M2=.ok (.int (B.length:Nat)) M2:=rfl;rw[this,U];rfl
 have x5:(Al.ret (.ix (.bin .add (.v 3) (.v 4)) (.call 2 (.p (.v 0) (.bin .add (.l (.v 3)) (.l (.v 4))))))).den (PW (m-1)) (EW t (.tup (es.map aD)) (sI a) (some (.vl B)) (sR M1.length) b5) M2=.ok (.ret x,EW t (.tup (es.map aD)) (sI a) (some (.vl B)) (sR M1.length) b5) M3:=by simp[ad,lv,ln,R,G]
 refine⟨x,M3,?_,nx,S2.trans S3⟩;have all:Hn.den (PW (m-1)) (EW t (.tup (es.map aD)) none none none none) M=.ok (.ret x,EW t (.tup (es.map aD)) (sI a) (some (.vl B)) (sR M1.length) b5) M3:=by unfold Hn;rw[wj,x1,v9,wj,x3,v9,wj,x4,v9,wj,e2,v9,wj,x5,arn]
 exact Qz rfl all
def unB(Z:List Ar)(u w:Y3):Bool:=decide (¬(Aj Z w=Aj Z u/\yp Z w=yp Z u))
def a5e(M:dj)(a b c d:Nat):u9 M (aD (a,b)) (aD (c,d))=some (decide (a=c/\b=d)):=by have:u9 M (aD (a,b)) (aD (c,d))=some (decide ([a,b]=[c,d])):=Rt M [a,b] [c,d];rw[this];simp
def bcw{Z:List (List Nat)}(G:1<=m)(E:Ends es V)(hp:M[p]?=some (.lst (Z.map cj)))(hw:∀w∈Z,Way es w)(hl:Z.length<=60)(hu:Way es u):Ea.den (PW m) (EW t (.tup (es.map aD)) (sR p) (some (cj u)) none none) M=.ok (.vl ((Z.filter (unB es u)).map cj)) M:=by
 unfold Ea;rw[Ht (d:=.ref p) (M1:=M) (xs:=Z) (f:=cj) (q:=unB es u) (g:=cj) rfl (Ci (jd hp)) (by lia) (λx U=>⟨_,rfl,by
  have h1:=ab1 (m:=m) (M:=M) (d:=.tup (es.map aD)) G rfl (hw x U) (Dc E (hw x U));have R:=ab1 (m:=m) (M:=M) (d:=.tup (es.map aD)) G rfl hu (Dc E hu);simp[h1,R,a5e,unB],λ_=>by simp⟩)]
 rfl
def ayw{Z:List (List Nat)}(G:M[p]?=some (.lst (Z.map cj))):ph .len [.ref p] M=.ok (.int (Z.length:Nat)) M:=by have:=len_list (jd G);rwa [bu] at this
def Yp(hm:3<=m)(hs:Has t f M)(E:Ends es V):∃x y M',prog.call m 38 [.ref t,.tup (es.map aD)] M=.ok (.tup [x,y]) M'/\NB es x y/\St t f M M':=by
 rw[call_of (au (by decide) hm) rfl];obtain⟨G,M1,e1,g1,L,k1⟩:=Zw (m:=m-1) (M:=M) (d:=.tup (es.map aD)) (by lia) E rfl;have tl:t<M.length:=by obtain⟨n,a,_⟩:=hs;exact tu a
 refine hG λ_ _k=>?_
 have S1:St t f M M1:=.of hs k1;have wn:0<G.length:=jn.mpr (Ak (L.one 0 E.pos))
 have x1:(Al.a 2 (.call 32 (.o (.v 1)))).den (PW (m-1)) (EW t (.tup (es.map aD)) none none none none) M=.ok (.next,EW t (.tup (es.map aD)) (sR M.length) none none none) M1:=by simp[e1]
 have ln:=ayw g1;obtain⟨v,M2,e2,v2,S2,l2⟩:=wu (m:=m-1) (M:=M1) (many:=(G.length:Nat)) (by lia) S1.has (by lia) (by have:=L.few;lia);have vl:v<G.length:=by lia
 have g2:M2[M.length]?=some (.lst (G.map cj)):=S2.keep _ _ (by lia) g1;have qk:vh (.ref M.length) (.int v) M2=some (cj G[v]):=zu (jd g2) (gq _) (by simp[vl]);have hu:Way es G[v]:=L.way _ (uc vl);generalize G[v]=u at qk hu;have x2:(Al.a 3 (.ix (.v 2) (.call 2 (.p (.v 0) (.l (.v 2)))))).den (PW (m-1)) (EW t (.tup (es.map aD)) (sR M.length) none none none) M1=.ok (.next,EW t (.tup (es.map aD)) (sR M.length) (some (cj u)) none none) M2:=by simp[ln,e2,qk]
 have c:=bcw (m:=m-1) (t:=t) (by lia) E g2 L.way L.few hu;have fl:(G.filter (unB es u)).length<=60:=au (vz _ _) L.few
 have fw:∀w∈G.filter (unB es u),Way es w/\¬(Aj es w=Aj es u/\yp es w=yp es u):=λw h=>by obtain⟨h1,h2⟩:=qi.mp h;exact⟨L.way w h1,iy h2⟩
 generalize G.filter (unB es u)=fs at c fl fw;have x3:(Al.a 4 Ea).den (PW (m-1)) (EW t (.tup (es.map aD)) (sR M.length) (some (cj u)) none none) M2=.ok (.next,EW t (.tup (es.map aD)) (sR M.length) (some (cj u)) (some (.vl (fs.map cj))) none) M2:=by simp[c]
 have Z:=S1.trans S2;obtain⟨w3,M3,e3,v3,S3,l3⟩:=wu (m:=m-1) (M:=M2) (many:=3) (by lia) Z.has (by decide) (by decide);apply _k;refine hG λ_ _k=>?_
 have pr:∃x M4,(Al.iff (.or (.cmp .eq (.v 4) (.Bg .z)) (.cmp .eq (.call 2 (.p (.v 0) (.i 3))) (.i 0))) (.o (.a 5 (.tup (.p (.v 3) (.call 37 (.p (.v 0) (.v 1))))))) (.o (.a 5 (.tup (.p (.v 3) (.ix (.v 4) (.call 2 (.p (.v 0) (.l (.v 4)))))))))).den (PW (m-1)) (EW t (.tup (es.map aD)) (sR M.length) (some (cj u)) (some (.vl (fs.map cj))) none) M2=.ok (.next,EW t (.tup (es.map aD)) (sR M.length) (some (cj u)) (some (.vl (fs.map cj))) (some (.tup [cj u,x]))) M4/\NB es (cj u) x/\NB es x (cj u)/\St t f M2 M4:=by
  have en:=eq_nil (M:=M2) (fs.map cj)
  by_cases hf:fs=[]
  .obtain⟨x,M4,e4,n4,U⟩:=We (m:=m-1) (M:=M2) (by lia) Z.has E.pos E.few
   refine⟨x,M4,?_,a4v E hu n4,a4w n4,U⟩;subst hf;simp at en;simp[Jv,en,e4]
  .have fe:(fs.map cj).isEmpty=false:=by simpa using hf
   rw[fe] at en
   by_cases hz:w3=0
   .obtain⟨x,M4,e4,n4,U⟩:=We (m:=m-1) (M:=M3) (by lia) (Z.trans S3).has E.pos E.few
    refine⟨x,M4,?_,a4v E hu n4,a4w n4,S3.trans U⟩;subst hz;simp[Jv,en,e3,e4]
   .have fp:0<fs.length:=jn.mpr hf
    obtain⟨R,M5,e5,w5,S5,l5⟩:=wu (m:=m-1) (M:=M3) (many:=(fs.length:Nat)) (by lia) (Z.trans S3).has (by lia) (by lia);have h5:R<fs.length:=by lia
    obtain⟨W5,n5⟩:=fw fs[R] (uc h5);have qq:vh (.vl (fs.map cj)) (.int R) M5=some (cj fs[R]):=zu rfl (gq _) (by simp[h5]);have lv:ph .len [.vl (fs.map cj)] M3=.ok (.int (fs.length:Nat)) M3:=by have:ph .len [.vl (fs.map cj)] M3=.ok (.int ((fs.map cj).length:Nat)) M3:=rfl;rw[this,bu]
    refine⟨cj fs[R],M5,?_,a4x E hu W5 (λq=>n5 ⟨q.1.symm,q.2.symm⟩),a4x E W5 hu n5,S3.trans S5⟩;generalize fs[R]=y at qq;simp[Jv,en,e3,hz,lv,e5,qq]
 obtain⟨x,M4,e4,n1,n2,U⟩:=pr;obtain⟨v6,M6,e6,w6,S6,l6⟩:=wu (m:=m-1) (M:=M4) (many:=2) (by lia) U.has (by decide) (by decide);have rv:ph .rev [.tup [cj u,x]] M4=.ok (.tup [x,cj u]) M4:=by simp[ph,Fv]
 have S:=(Z.trans U).trans S6;have qv:v6=0\/v6=1:=by lia
 have fin:∀z,([D.tup [cj u,x],.tup [x,cj u]])[v6]?=some z->Jc.den (PW (m-1)) (EW t (.tup (es.map aD)) none none none none) M=.ok (.ret z,EW t (.tup (es.map aD)) (sR M.length) (some (cj u)) (some (.vl (fs.map cj))) (some (.tup [cj u,x]))) M6:=λz hz=>by have q0:vh (.vl [D.tup [cj u,x],.tup [x,cj u]]) (.int v6) M6=some z:=zu rfl (gq _) (by simpa using hz);unfold Jc;rw[wj,x1,v9,wj,x2,v9,wj,x3,v9,wj,e4,v9,wj];simp[rv,e6,q0]
 apply _k;rcases qv with rfl|rfl
 .exact⟨cj u,x,M6,Qz rfl (fin _ rfl),n1,S⟩
 .exact⟨x,cj u,M6,Qz rfl (fin _ rfl),n2,S⟩
def a5f(Z:List Ar)(p:Int×Int):Prop:=¬inR p\/∃e∈Z,p=((e.2:Int),(e.2:Int))\/p=((e.2:Int),(e.1:Int))
def ahb(E:Ends es V)(h:a5f es p):Ref 4 (.tup [.tup (es.map aD++[pI p]),g,a]):=by
 refine abw λm M R=>?_
 rcases ju es.length 10 with hl|hl
 .rcases h with h|⟨e,he,h⟩
  .have Z:es.map aD++[pI p]=(es.map (λe=>((e.1:Int),(e.2:Int)))++[p]).map pI:=by
    rw[gf,ir];rfl
   rw[Z];refine⟨M,ayo (j:=es.length) (p:=p) (by lia) (by simp;lia) (by simp) h (λi q hi U=>?_),j8.refl M⟩;rw[gw (by simpa using hi)] at U;obtain⟨e,h1,rfl⟩:∃e,es[i]?=some e/\((e.1:Int),(e.2:Int))=q:=by simpa using U
   have:=E.sm e (bc h1);exact⟨⟨by simp,by simp;lia⟩,by simp,by simp;lia⟩
  .have G:=E.sm e he
   rcases h with rfl|rfl
   .have Z:es.map aD++[pI ((e.2:Int),(e.2:Int))]=(es++[(e.2,e.2)]).map aD:=by rw[gf];rfl
    rw[Z];refine ag7 (e1:=(e.2,e.2)) (e2:=(e.2,e.2)) R (by simp;lia) (λu hu=>?_) (by simp) (by simp) rfl rfl;rcases bx.mp hu with q|q
    .exact E.sm u q
    .cases jm.mp q;exact⟨G.2,G.2⟩
   .have Z:es.map aD++[pI ((e.2:Int),(e.1:Int))]=(es++[(e.2,e.1)]).map aD:=by rw[gf];rfl
    rw[Z];refine ag7 (e1:=(e.2,e.1)) (e2:=e) R (by simp;lia) (λu hu=>?_) (by simp) (ig _ he) rfl rfl;rcases bx.mp hu with q|q
    .exact E.sm u q
    .cases jm.mp q;exact⟨G.2,G.1⟩
 .exact⟨M,am2 (by lia) (.inr (by simp;lia)),j8.refl M⟩
def ab2(h:ds.length=0\/10<ds.length):Ref 4 (.tup [.tup ds,g,a]):=abw λm M Z=>⟨M,am2 (by lia) h,j8.refl M⟩
def ab3(E:Ends es V)(h:8<ds.length):Ref 4 (.tup [.tup (es.map aD),.tup ds,a]):=Yo E λm M Z=>asj (by lia) h
def ahc{gs:List Gn}(E:Ends es V)(G:∀g∈gs,Gd es g)(h:NG es x):Ref 4 (.tup [.tup (es.map aD),.tup (gs.map Gn.toD++x::r),a]):=by
 rcases ju 8 (gs.map Gn.toD++x::r).length with hl|hl
 .exact ab3 E hl
 .exact Yo E λm M Z=>ayq Z E G hl h
abbrev EZ(t:Nat)(s:Zz)(b5 b6 b7 b8:Option D):Env:=[sR t,some s.toD,some (.tup (s.es.map aD)),some (.tup (s.gs.map Gn.toD)),some (.tup [cj s.a,cj s.b]),b5,b6,b7,b8]
noncomputable def bdL(a:Int)(e:Ar):List (Int×Int):=[(-a,0),(0,7+a),((e.2:Int),(e.2:Int)),((e.2:Int),(e.1:Int)),(8,9),(3,-a)]
def ayx(U:1<=a)(G:e∈es)(Z:p∈bdL a e):a5f es p:=by
 simp only[bdL,dh,yg,or_false] at Z;rcases Z with rfl|rfl|rfl|rfl|rfl|rfl
 .left;intro h;have:=h.1.1;simp at this;lia
 .left;intro h;have:=h.2.2;simp at this;lia
 .exact .inr ⟨e,G,.inl rfl⟩
 .exact .inr ⟨e,G,.inr rfl⟩
 .left;intro h;have:=h.1.2;simp at this
 .left;intro h;have:=h.2.1;simp at this;lia
def aab(Z G:List D)(h:Z.length+G.length<=100000):Ax .add (.tup Z) (.tup G) M=.ok (.tup (Z++G)) M:=Nq _ _ h
def a5g{n:Nat}(x:D)(h:n<=100000):Ax .mul (.tup [x]) (.int (n:Int)) M=.ok (.tup (List.replicate n x)) M:=by
 have G:(0:Int)<=n:=gq _
 have Z:(n:Int)<=100000:=by lia
 simp only[Ax,abg,G,Z,and_self,km,jk]
def a5h(x:D)(r:List D):vh (.vl (x::r)) (.int 0) M=some x:=zu (ds:=x::r) rfl (by decide) rfl
def a5i(x y:D)(r:List D):vh (.vl (x::y::r)) (.int 1) M=some y:=zu (ds:=x::y::r) rfl (by decide) rfl
def ajg(hm:4<=m)(hs:Has t f M)(h:Hu s V):∃sd M',prog.call m 39 [.ref t,s.toD] M=.ok sd M'/\Ref 4 sd/\St t f M M':=by
 rw[call_of (au (by decide) hm) rfl];refine hG λ_ _k=>?_
 have E:=h.E;have x0:(Al.asg (.tg (.names [2,3,4])) (.v 1)).den (PW (m-1)) [sR t,some s.toD,none,none,none,none,none,none,none] M=.ok (.next,EZ t s none none none none) M:=by simp[Zz.toD,Ei]
 obtain⟨G,M1,e1,w1,S1,_⟩:=wu (m:=m-1) (M:=M) (many:=7) (by lia) hs (by decide) (by decide);have x1:(Al.a 5 (.call 2 (.p (.v 0) (.i 7)))).den (PW (m-1)) (EZ t s none none none none) M=.ok (.next,EZ t s (sI G) none none none) M1:=by simp[e1]
 obtain⟨v6,M2,e2,w2,S2,_⟩:=wu (m:=m-1) (M:=M1) (many:=100) (by lia) S1.has (by decide) (by decide);have x2:(Al.a 6 (.bin .add (.i 1) (.call 2 (.p (.v 0) (.i 100))))).den (PW (m-1)) (EZ t s (sI G) none none none) M1=.ok (.next,EZ t s (sI G) (sI (1+v6)) none none) M2:=by simp[e2]
 have a1:(1:Int)<=1+v6:=by lia
 generalize(1:Int)+v6=a at x2 a1;have q3:=E.pos;have q4:=E.few;have le:∀M:dj,ph .len [.tup (s.es.map aD)] M=.ok (.int s.es.length) M:=λM=>by simp[ym]
 have lg:∀M:dj,ph .len [.tup (s.gs.map Gn.toD)] M=.ok (.int s.gs.length) M:=λM=>by simp[ym]
 obtain⟨v7,M3,e3,w3,S3,_⟩:=wu (m:=m-1) (M:=M2) (many:=(s.es.length:Nat)) (by lia) S2.has (by lia) (by lia);have h7:v7<s.es.length:=by lia
 have qk:=Fq (M:=M3) (d:=.tup (s.es.map aD)) (i:=v7) rfl h7;have he:=Jf h7;generalize at_ s.es v7=e at qk he;have x3:(Al.a 7 (.ix (.v 2) (.call 2 (.p (.v 0) (.l (.v 2)))))).den (PW (m-1)) (EZ t s (sI G) (sI a) none none) M2=.ok (.next,EZ t s (sI G) (sI a) (some (aD e)) none) M3:=by simp[le,e3,qk]
 have qq:=(S1.trans S2).trans S3;obtain⟨v8,M4,e4,w4,S4,_⟩:=wu (m:=m-1) (M:=M3) (many:=6) (by lia) qq.has (by decide) (by decide);obtain⟨p,q1,q0⟩:∃p,(bdL a e)[v8]?=some p/\p∈bdL a e:=by
  have:v8<(bdL a e).length:=by show v8<6;lia
  exact⟨(bdL a e)[v8],by simp[this],uc this⟩
 have bd:=ayx a1 he q0;have vl:(Ex.Bg (.c (.tup (.p (.neg (.v 6)) (.i 0))) (.c (.tup (.p (.i 0) (.bin .add (.i 7) (.v 6)))) (.c (.tup (.p (.ix (.v 7) (.i 1)) (.ix (.v 7) (.i 1)))) (.q (.tup (.p (.ix (.v 7) (.i 1)) (.ix (.v 7) (.i 0)))) (.tup (.p (.i 8) (.i 9))) (.tup (.p (.i 3) (.neg (.v 6))))))))).den (PW (m-1)) (EZ t s (sI G) (sI a) (some (aD e)) none) M3=.ok (.vl ((bdL a e).map pI)) M3:=by simp[Hv,Mw,bdL,pI]
 have q2:vh (.vl ((bdL a e).map pI)) (.int v8) M4=some (pI p):=zu rfl (gq _) (by simp[q1]);have x4:(Al.a 8 (.ix (.Bg (.c (.tup (.p (.neg (.v 6)) (.i 0))) (.c (.tup (.p (.i 0) (.bin .add (.i 7) (.v 6)))) (.c (.tup (.p (.ix (.v 7) (.i 1)) (.ix (.v 7) (.i 1)))) (.q (.tup (.p (.ix (.v 7) (.i 1)) (.ix (.v 7) (.i 0)))) (.tup (.p (.i 8) (.i 9))) (.tup (.p (.i 3) (.neg (.v 6))))))))) (.call 2 (.p (.v 0) (.i 6))))).den (PW (m-1)) (EZ t s (sI G) (sI a) (some (aD e)) none) M3=.ok (.next,EZ t s (sI G) (sI a) (some (aD e)) (some (pI p))) M4:=by rw[Rp,aea,vl];simp[e4,q2]
 have Z:=qq.trans S4;obtain⟨sd,M6,e6,R6,S6⟩:∃sd M6,(∃r,Je=.c (.asg (.tg (.names [2,3,4])) (.v 1)) (.c (.a 5 (.call 2 (.p (.v 0) (.i 7)))) (.c (.a 6 (.bin .add (.i 1) (.call 2 (.p (.v 0) (.i 100))))) (.c (.a 7 (.ix (.v 2) (.call 2 (.p (.v 0) (.l (.v 2)))))) (.c (.a 8 (.ix (.Bg (.c (.tup (.p (.neg (.v 6)) (.i 0))) (.c (.tup (.p (.i 0) (.bin .add (.i 7) (.v 6)))) (.c (.tup (.p (.ix (.v 7) (.i 1)) (.ix (.v 7) (.i 1)))) (.q (.tup (.p (.ix (.v 7) (.i 1)) (.ix (.v 7) (.i 0)))) (.tup (.p (.i 8) (.i 9))) (.tup (.p (.i 3) (.neg (.v 6))))))))) (.call 2 (.p (.v 0) (.i 6))))) r))))/\r.den (PW (m-1)) (EZ t s (sI G) (sI a) (some (aD e)) (some (pI p))) M4=.ok (.ret sd,EZ t s (sI G) (sI a) (some (aD e)) (some (pI p))) M6)/\Ref 4 sd/\St t f M4 M6:=by
  have hv:G<7:=by lia
  have gl:=h.few
  match G,hv with
  |0,_ =>
   obtain⟨w,R,e5,w5,S5,_⟩:=wu (m:=m-1) (M:=M4) (many:=2) (by lia) Z.has (by decide) (by decide);have hw:w=0\/w=1:=by lia
   have qv:(11:Int)-s.es.length=((11-s.es.length:Nat):Int):=by lia
   have mu:=a5g (M:=M4) (n:=11-s.es.length) (.tup [.int 6,.int 7]) (by lia);rw[<- qv] at mu;have U:=aab (M:=M4) (s.es.map aD) (List.replicate (11-s.es.length) (.tup [.int 6,.int 7])) (by simp;lia);have len:(s.es.map aD++List.replicate (11-s.es.length) (D.tup [.int 6,.int 7])).length=11:=by simp;lia
   rcases hw with rfl|rfl
   .exact⟨.tup [.tup [],.tup (s.gs.map Gn.toD),.tup [cj s.a,cj s.b]],R,⟨_,rfl,by simp[le,mu,U,e5,a5h,a5i]⟩,ab2 (.inl rfl),S5⟩
   .exact⟨.tup [.tup (s.es.map aD++List.replicate (11-s.es.length) (.tup [.int 6,.int 7])),.tup (s.gs.map Gn.toD),.tup [cj s.a,cj s.b]],R,⟨_,rfl,by simp[le,mu,U,e5,a5h,a5i]⟩,ab2 (.inr (by rw[len];decide)),S5⟩
  |1,_ =>
   have U:=aab (M:=M4) (s.es.map aD) [pI p] (by simp;lia);exact⟨.tup [.tup (s.es.map aD++[pI p]),.tup (s.gs.map Gn.toD),.tup [cj s.a,cj s.b]],M4,⟨_,rfl,by simp[U]⟩,ahb E bd,St.refl Z.has⟩
  |2,_ =>
   have U:=aab (M:=M4) (s.es.map aD) [pI p] (by simp;lia);exact⟨.tup [.tup (s.es.map aD++[pI p]),.tup (s.gs.map Gn.toD),.tup [cj s.a,cj s.b]],M4,⟨_,rfl,by simp[U]⟩,ahb E bd,St.refl Z.has⟩
  |3,_ =>
   have n9:(9:Int)-s.gs.length=((9-s.gs.length:Nat):Int):=by lia
   have a0:=aab (M:=M4) [.str (PySem.Str.ofString "same")] [cj s.a,cj s.b] (by simp);have mu:=a5g (M:=M4) (n:=9-s.gs.length) (.tup [.str (PySem.Str.ofString "same"),cj s.a,cj s.b]) (by lia);rw[<- n9] at mu;have U:=aab (M:=M4) (s.gs.map Gn.toD) (List.replicate (9-s.gs.length) (.tup [.str (PySem.Str.ofString "same"),cj s.a,cj s.b])) (by simp;lia);exact⟨.tup [.tup (s.es.map aD),.tup (s.gs.map Gn.toD++List.replicate (9-s.gs.length) (.tup [.str (PySem.Str.ofString "same"),cj s.a,cj s.b])),.tup [cj s.a,cj s.b]],M4,⟨_,rfl,by simp[lg,a0,mu,U]⟩,ab3 E (by simp;lia),St.refl Z.has⟩
  |4,_ =>
   obtain⟨w,R,e5,w5,S5,_⟩:=wu (m:=m-1) (M:=M4) (many:=2) (by lia) Z.has (by decide) (by decide);have hw:w=0\/w=1:=by lia
   have o1:Yn s.es (-a)=false:=by simp[Yn];lia
   have o2:Yn s.es ((s.es.length:Int)-1+a)=false:=by simp[Yn];lia
   obtain⟨z,hz,oz⟩:∃z,(Ex.ix (.Bg (.p (.neg (.v 6)) (.bin .add (.bin .sub (.l (.v 2)) (.i 1)) (.v 6)))) (.call 2 (.p (.v 0) (.i 2)))).den (PW (m-1)) (EZ t s (sI 4) (sI a) (some (aD e)) (some (pI p))) M4=.ok (.int z) R/\Yn s.es z=false:=by
    rcases hw with rfl|rfl
    .exact⟨-a,by simp[le,e5,vh,ixL,j7,fj,Pz],o1⟩
    .exact⟨(s.es.length:Int)-1+a,by simp[le,e5,vh,ixL,j7,fj,Pz],o2⟩
   have U:=aab (M:=R) (s.gs.map Gn.toD) [.tup [.str (PySem.Str.ofString "apart"),.int z]] (by simp;lia);exact⟨.tup [.tup (s.es.map aD),.tup (s.gs.map Gn.toD++[.tup [sD "apart",.int z]]),.tup [cj s.a,cj s.b]],R,⟨_,rfl,by simp[-aea,hz,U,sD]⟩,ahc E h.gs (abv oz),S5⟩
  |5,_ =>
   obtain⟨x,y,R,e5,n5,S5⟩:=Yp (m:=m-1) (M:=M4) (by lia) Z.has E;have a0:=aab (M:=R) [.str (PySem.Str.ofString "same")] [x,y] (by simp);have U:=aab (M:=R) [.tup [.str (PySem.Str.ofString "same"),x,y]] (s.gs.map Gn.toD) (by simp;lia);exact⟨.tup [.tup (s.es.map aD),.tup (.tup [sD "same",x,y]::s.gs.map Gn.toD),.tup [cj s.a,cj s.b]],R,⟨_,rfl,by simp[e5,a0,U,sD]⟩,ahc (gs:=[]) E (by simp) (asi n5),S5⟩
  |6,_ =>
   obtain⟨x,y,R,e5,n5,S5⟩:=Yp (m:=m-1) (M:=M4) (by lia) Z.has E;exact⟨.tup [.tup (s.es.map aD),.tup (s.gs.map Gn.toD),.tup [x,y]],R,⟨_,rfl,by simp[e5]⟩,asl E h.gs h.few n5,S5⟩
 obtain⟨r,hr,hd⟩:=e6;apply _k;refine⟨sd,M6,?_,R6,Z.trans S6⟩;refine Qz (F:=Oi) (ρ:=EZ t s (sI G) (sI a) (some (aD e)) (some (pI p))) rfl ?_;show Je.den (PW (m-1)) [sR t,some s.toD,none,none,none,none,none,none,none] M=_;rw[hr,wj,x0,v9,wj,x1,v9,wj,x2,v9,wj,x3,v9,wj,x4,v9,hd]
abbrev EL(sc:D)(t:Nat)(b2 b3 b4 b5 b6 b7 b8 b9:Option D):Env:=[some sc,sR t,b2,b3,b4,b5,b6,b7,b8,b9]
def eq_str(M:dj)(a b:PySem.Str):u9 M (.str a) (.str b)=some (decide (a=b)):=by simp[u9,Py]
def asp{k:Nat}(U:8<=m)(h:Hu s V)(R:Ref 4 G)(hk:k<3):∃M',Uq.den (PW m) (EL sc t b2 (some s.toD) (some G) (sI k) b6 b7 b8 b9) M=.ok (.next,EL sc t b2 (some s.toD) (some G) (sI k) b6 b7 b8 b9) M'/\j8 M M':=by obtain⟨M1,e1,k1⟩:=Qy (m:=m) (M:=M) U (.inl rfl) R hk;obtain⟨M2,Z,k2⟩:=aby (m:=m) (M:=M1) U h hk;have q1:kD 4=.str (PySem.Str.ofString "none"):=rfl;rw[q1] at e1;have Z:prog.call m 36 [.int k,s.toD] M1=.ok (.str (PySem.Str.ofString "told")) M2:=Z;refine⟨M2,?_,k1.trans k2⟩;simp only[Uq];simp[Jv,e1,Z,eq_str]
def asq(hm:8<=m)(hs:Has t f M):∃c3 c4 Z M',Ur.den (PW m) (EL sc t b2 b3 b4 b5 b6 b7 b8 b9) M=.ok (.next,EL sc t b2 c3 c4 Z b6 b7 b8 b9) M'/\St t f M M':=by
 refine hG λ_ _k=>?_
 obtain⟨s,V,M1,e1,h,S1⟩:=ajd (m:=m) (by lia) hs;obtain⟨G,U,e2,R,S2⟩:=ajg (m:=m) (M:=M1) (by lia) S1.has h;obtain⟨qq,M',e,⟨Z,rfl⟩,k⟩:=Bh (W:=PW m) (t:=.name 5) (b:=Uq) (it:=.i 3) (n:=3) (ρ:=EL sc t b2 (some s.toD) (some G) b5 b6 b7 b8 b9) (M:=U) (M1:=U) rfl (by decide)
  (λ_ ρ M'=>(∃Z,ρ=EL sc t b2 (some s.toD) (some G) Z b6 b7 b8 b9)/\j8 U M') ⟨⟨b5,rfl⟩,j8.refl _⟩
  (λi ρ M3 hi hI=>by
   obtain⟨⟨Z,rfl⟩,k3⟩:=hI;obtain⟨M4,e4,k4⟩:=asp (m:=m) (M:=M3) (k:=i) (sc:=sc) (t:=t) (b2:=b2) (b6:=b6) (b7:=b7) (b8:=b8) (b9:=b9) hm h R hi;exact⟨_,.next,_,M4,rfl,e4,.inl rfl,⟨_,rfl⟩,k3.trans k4⟩)
 have e':agd.den (PW m) (EL sc t b2 (some s.toD) (some G) b5 b6 b7 b8 b9) U=.ok (.next,EL sc t b2 (some s.toD) (some G) Z b6 b7 b8 b9) M':=e;apply _k;refine⟨some s.toD,some G,Z,M',?_,(S1.trans S2).keep' k⟩;simp only[Ur];simp[e1,e2,e']
def am9{k:Nat}(Z:8<=m)(G:k<3):∃c9 M',Up.den (PW m) (EL sc t b2 b3 b4 (sI k) (some Li) (some (.tup (uz.map aD))) (some (.tup (Mz.map aD))) b9) M=.ok (.next,EL sc t b2 b3 b4 (sI k) (some Li) (some (.tup (uz.map aD))) (some (.tup (Mz.map aD))) c9) M'/\j8 M M':=by
 refine hG λ_ _k=>?_
 obtain⟨M1,U,k1⟩:=Qy (m:=m) (M:=M) Z (.inr rfl) am8 G;obtain⟨M2,e2,k2⟩:=Qy (m:=m) (M:=M1) Z (.inl rfl) (ab0 (z:=10) (by decide+kernel)) G;obtain⟨M3,e3,k3⟩:=Qy (m:=m) (M:=M2) Z (.inl rfl) (ab0 (z:=-1) (by decide+kernel)) G;obtain⟨M4,R,k4⟩:=aby (m:=m) (M:=M3) Z ayu G;have c:Zr.den (PW m) (EL sc t b2 b3 b4 (sI k) (some Li) (some (.tup (uz.map aD))) (some (.tup (Mz.map aD))) b9) M=.ok (.vl [.str (PySem.Str.ofString "many"),.str (PySem.Str.ofString "none"),.str (PySem.Str.ofString "none")]) M3:=by have U:prog.call m 36 [.int k,.tup [.tup (uz.map aD),.tup [.tup [.str (PySem.Str.ofString "apart"),.int 9]],Li]] M=.ok (.str (PySem.Str.ofString "many")) M1:=U;have e2:prog.call m 36 [.int k,.tup [.tup (uz.map aD),.tup [.tup [.str (PySem.Str.ofString "apart"),.int 10]],Li]] M1=.ok (.str (PySem.Str.ofString "none")) M2:=e2;have e3:prog.call m 36 [.int k,.tup [.tup (uz.map aD),.tup [.tup [.str (PySem.Str.ofString "apart"),.int (-1)]],Li]] M2=.ok (.str (PySem.Str.ofString "none")) M3:=e3;unfold Zr;rw[Jk,G6];simp[srcOf,Az,Cg,Src.len,Src.item,Src.fin,U,e2,e3]
 have qq:∀M:dj,u9 M (.vl [.str (PySem.Str.ofString "many"),.str (PySem.Str.ofString "none"),.str (PySem.Str.ofString "none")]) (.vl [.str (PySem.Str.ofString "many"),.str (PySem.Str.ofString "none"),.str (PySem.Str.ofString "none")])=some true:=λM=>by simp[u9,Py,fj,Xh]
 have R:prog.call m 36 [.int k,.tup [.tup (Mz.map aD),.tup [.tup [.str (PySem.Str.ofString "same"),.tup [.int 0,.int 4],.tup [.int 1,.int 4]]],Li]] M3=.ok (.str (PySem.Str.ofString "told")) M4:=R;apply _k;refine⟨some (.vl [.str (PySem.Str.ofString "many"),.str (PySem.Str.ofString "none"),.str (PySem.Str.ofString "none")]),M4,?_,((k1.trans k2).trans k3).trans k4⟩;simp only[Up];simp[c,qq,R,eq_str]
def ayy{m:Nat}{ns:X9}{M:dj}(hm:9<=m):∃M',prog.call m 41 [.fz (ns.map D.int)] M=.ok (.bl true) M':=by
 rw[call_of (au (by decide) hm) rfl];refine hG λ_ _k=>?_
 obtain⟨n0,f0,s0,o0⟩:=alu (m:=m-1) (k:=0) (ns:=ns) (M:=M) (by lia);have s0:prog.call (m-1) 1 [.fz (ns.map D.int),.int 0] M=_:=s0;have qk:Has M.length f0 (M++[.lst [.int n0,.bl f0]]):=⟨n0,by simp,o0⟩;obtain⟨q0,M1,e1,⟨U,G,Z,R,rfl⟩,h1⟩:=Bh (W:=PW (m-1)) (t:=.name 2) (b:=Ur) (it:=.i 6) (n:=6) (ρ:=EL (.fz (ns.map D.int)) M.length none none none none none none none none) (M:=M++[.lst [.int n0,.bl f0]]) (M1:=M++[.lst [.int n0,.bl f0]]) rfl (by decide)
  (λ_ ρ M'=>(∃U G Z R,ρ=EL (.fz (ns.map D.int)) M.length U G Z R none none none none)/\Has M.length f0 M') ⟨⟨none,none,none,none,rfl⟩,qk⟩
  (λi ρ M1 hi hI=>by
   refine hG λ_ _k=>?_
   obtain⟨⟨U,G,Z,R,rfl⟩,h1⟩:=hI;obtain⟨c3,c4,c5,M2,e2,S2⟩:=asq (m:=m-1) (sc:=.fz (ns.map D.int)) (b2:=sI i) (b3:=G) (b4:=Z) (b5:=R) (b6:=none) (b7:=none) (b8:=none) (b9:=none) (by lia) h1;apply _k;exact⟨_,.next,_,M2,rfl,e2,.inl rfl,⟨_,c3,c4,c5,rfl⟩,S2.has⟩)
 obtain⟨M2,l2,k2⟩:=am3 (m:=m-1) (M:=M1) (cs:=[5,3,2]) (by lia) (by decide) (by decide);obtain⟨M3,l3,k3⟩:=am3 (m:=m-1) (M:=M2) (cs:=[4,2,2,1]) (by lia) (by decide) (by decide);have l2:prog.call (m-1) 40 [.vl [.int 5,.int 3,.int 2]] M1=.ok (.tup (uz.map aD)) M2:=l2;have l3:prog.call (m-1) 40 [.vl [.int 4,.int 2,.int 2,.int 1]] M2=.ok (.tup ((lay [4,2,2,1] 4).map aD)) M3:=l3;have ad:Ax .add (.tup ((lay [4,2,2,1] 4).map aD)) (.tup [.tup [.int 5,.int 6]]) M3=.ok (.tup (Mz.map aD)) M3:=by have:=aab (M:=M3) ((lay [4,2,2,1] 4).map aD) [aD (5,6)] (by decide+kernel);rw[show(lay [4,2,2,1] 4).map aD++[aD (5,6)]=Mz.map aD from by rw[Mz,gf];rfl] at this;exact this
 obtain⟨q1,M4,e4,c5,c9,rfl⟩:=Bh (W:=PW (m-1)) (t:=.name 5) (b:=Up) (it:=.i 3) (n:=3) (ρ:=EL (.fz (ns.map D.int)) M.length U G Z R (some Li) (some (.tup (uz.map aD))) (some (.tup (Mz.map aD))) none) (M:=M3) (M1:=M3) rfl (by decide)
  (λ_ ρ M'=>∃c5 c9,ρ=EL (.fz (ns.map D.int)) M.length U G Z c5 (some Li) (some (.tup (uz.map aD))) (some (.tup (Mz.map aD))) c9) ⟨R,none,rfl⟩
  (λi ρ M5 hi hI=>by
   obtain⟨c5,c9,rfl⟩:=hI;obtain⟨d9,M6,e6,_⟩:=am9 (m:=m-1) (M:=M5) (k:=i) (sc:=.fz (ns.map D.int)) (t:=M.length) (b2:=U) (b3:=G) (b4:=Z) (b9:=c9) (by lia) hi;exact⟨_,.next,_,M6,rfl,e6,.inl rfl,_,_,rfl⟩)
 have qq:age.den (PW (m-1)) (EL (.fz (ns.map D.int)) M.length none none none none none none none none) (M++[.lst [.int n0,.bl f0]])=_:=e1;have qv:agc.den (PW (m-1)) (EL (.fz (ns.map D.int)) M.length U G Z R (some Li) (some (.tup (uz.map aD))) (some (.tup (Mz.map aD))) none) M3=_:=e4;apply _k;refine⟨M4,Qz (F:=als) rfl (ρ:=EL (.fz (ns.map D.int)) M.length U G Z c5 (some Li) (some (.tup (uz.map aD))) (some (.tup (Mz.map aD))) c9) ?_⟩;have x0:(Al.a 1 (.call 1 (.p (.v 0) (.i 0)))).den (PW (m-1)) [some (.fz (ns.map D.int)),none,none,none,none,none,none,none,none,none] M=.ok (.next,EL (.fz (ns.map D.int)) M.length none none none none none none none none) (M++[.lst [.int n0,.bl f0]]):=by simp[s0]
 have x1:(Al.a 6 (.tup (.p (.tup (.o (.i 0))) (.tup (.o (.i 1)))))).den (PW (m-1)) (EL (.fz (ns.map D.int)) M.length U G Z R none none none none) M1=.ok (.next,EL (.fz (ns.map D.int)) M.length U G Z R (some Li) none none none) M1:=rfl;have x2:(Al.a 7 (.call 40 (.o (.Bg (.q (.i 5) (.i 3) (.i 2)))))).den (PW (m-1)) (EL (.fz (ns.map D.int)) M.length U G Z R (some Li) none none none) M1=.ok (.next,EL (.fz (ns.map D.int)) M.length U G Z R (some Li) (some (.tup (uz.map aD))) none none) M2:=by simp[l2]
 have x3:(Al.a 8 (.bin .add (.call 40 (.o (.Bg (.c (.i 4) (.q (.i 2) (.i 2) (.i 1)))))) (.tup (.o (.tup (.p (.i 5) (.i 6))))))).den (PW (m-1)) (EL (.fz (ns.map D.int)) M.length U G Z R (some Li) (some (.tup (uz.map aD))) none none) M2=.ok (.next,EL (.fz (ns.map D.int)) M.length U G Z R (some Li) (some (.tup (uz.map aD))) (some (.tup (Mz.map aD))) none) M3:=by simp[l3,ad]
 show alr.den (PW (m-1)) [some (.fz (ns.map D.int)),none,none,none,none,none,none,none,none,none] M=_;unfold alr;rw[wj,x0,v9,wj,qq,v9,wj,x1,v9,wj,x2,v9,wj,x3,v9,wj,qv,v9,wj];rfl
end K71
namespace L2
open PySem PySem.Spec PyProof.Rows
abbrev Key:=Sum Int Str
noncomputable def Yq:Key->Value->Bool
 |.inl k,v=>Value.isInt k v|.inr x,v=>Value.isStrOf x v
noncomputable def bcx(w:World):Key->Int
 |.inl k=>hashInt k|.inr x=>hashStr w x
theorem An:∀{k:Key}{v:Value},Yq k v=true->(∃i t,k=Sum.inl i/\v=Value.int i t)\/(∃x t,k=Sum.inr x/\v=Value.str x t)
 |.inl i,v,h=>by
  obtain⟨t,e⟩:=Value.isInt_shape (k:=i) (v:=v) h;exact .inl ⟨i,t,rfl,e⟩
 |.inr x,v,h=>by
  obtain⟨t,e⟩:=Value.isStrOf_shape (x:=x) (v:=v) h;exact .inr ⟨x,t,rfl,e⟩
def ajh(i:Int)(t:Tok):Yq (.inl i) (.int i t)=true:=by simp[Yq,Value.isInt]
def aji(x:Str)(t:Tok):Yq (.inr x) (.str x t)=true:=by simp[Yq,Value.isStrOf]
def ayz(a b:Int):decide ((Sum.inl a:Key)=Sum.inl b)=(a==b):=by
 by_cases e:a=b
 .subst e;simp
 .have h:¬(Sum.inl a:Key)=Sum.inl b:=λq=>e (Sum.inl.inj q)
  rw[my h];exact(yc.mpr e).symm
def ay0(a b:Str):decide ((Sum.inr a:Key)=Sum.inr b)=decide (a=b):=by
 by_cases e:a=b
 .subst e;simp
 .have h:¬(Sum.inr a:Key)=Sum.inr b:=λq=>e (Sum.inr.inj q)
  rw[my h,my e]
def ay1(a:Int)(b:Str):decide ((Sum.inl a:Key)=Sum.inr b)=false:=my (λq=>nomatch q)
def ay2(a:Str)(b:Int):decide ((Sum.inr a:Key)=Sum.inl b)=false:=my (λq=>nomatch q)
def Ao(prog:Program)(w:World):PySem.KeyKind prog w Key where
 is:=Yq
 hash:=bcx w
 inj:=λv a b U G=>by
  rcases An U with⟨i,t,rfl,rfl⟩|⟨x,t,rfl,rfl⟩
  .rcases An G with⟨j,u,rfl,e⟩|⟨y,u,rfl,e⟩
   .injection e with e1 _;rw[e1]
   .exact nomatch e
  .rcases An G with⟨j,u,rfl,e⟩|⟨y,u,rfl,e⟩
   .exact nomatch e
   .injection e with e1 _;rw[e1]
 byValue:=λk v h=>by rcases An h with⟨i,t,rfl,rfl⟩|⟨x,t,rfl,rfl⟩<;>rfl
 pyHash:=λZ h=>by
  rcases An Z with⟨i,t,rfl,rfl⟩|⟨x,t,rfl,rfl⟩
  .exact wpAny_pyHash_int h
  .exact wpAny_pyHash_str h
 eqBool:=λhu Z h=>by
  rcases An hu with⟨i,t,rfl,rfl⟩|⟨x,t,rfl,rfl⟩
  .rcases An Z with⟨j,u,rfl,rfl⟩|⟨y,u,rfl,rfl⟩
   .rw[ayz] at h;exact wpAny_eqBool_int h
   .rw[ay1] at h;exact SeqAt.EqAt.int_str i t y u _ _ _ _ h
  .rcases An Z with⟨j,u,rfl,rfl⟩|⟨y,u,rfl,rfl⟩
   .rw[ay2] at h;exact SeqAt.EqAt.str_int x t j u _ _ _ _ h
   .rw[ay0] at h;exact wpAny_eqBool_str h
 «strs»:=λk x t v h=>by
  rcases An h with⟨i,u,rfl,e⟩|⟨y,u,rfl,e⟩
  .exact nomatch e
  .injection e with e1 _
   subst e1;cases v<;>rfl
def ab4(prog:Program)(w:World)(i:Int)(t:Tok):(Ao prog w).is (.inl i) (.int i t)=true:=ajh i t
def ab5(prog:Program)(w:World)(x:Str)(t:Tok):(Ao prog w).is (.inr x) (.str x t)=true:=aji x t
end L2
namespace L2
open PySem PySem.Spec PyProof.Rows
set_option genInjectivity true in
inductive V where
 |non|bl (b:Bool)|int (i:Int)|str (x:Str)|byt (b:Array UInt8)|flt (b:UInt64)|ref (a:Addr)|ty (n:String)
 deriving DecidableEq
def RelV:V->Value->Prop
 |.non,u=>u=Value.none|.bl b,u=>u=Value.bool b|.int i,u=>∃t,u=Value.int i t|.str x,u=>∃t,u=Value.str x t|.byt b,u=>∃t,u=Value.bytes b t|.flt b,u=>∃t,u=Value.float b t|.ref a,u=>u=Value.ref a|.ty n,u=>u=Value.type n
abbrev Vals:List V->List Value->Prop:=Paired RelV
theorem Vals.length(r:Vals Z G):Z.length=G.length:=Paired.length r
theorem Vals.get:∀{Z:List V}{G:Zl}{i:Nat}{x:V},Vals Z G->Z[i]?=some x->∃u,G[i]?=some u/\RelV x u
 |_,_,_,_,.nil,e=>by simp at e|_,_,0,_,.cons r _,e=>by simp at e;subst e;exact⟨_,rfl,r⟩
 |_,_,i+1,x,.cons _ t,e=>by
  obtain⟨u,R,U⟩:=Vals.get (i:=i) (x:=x) t (by simpa using e);exact⟨u,by simpa using R,U⟩
theorem Vals.set{x:V}{u:Value}(r:RelV x u):∀{Z:List V}{G:Zl}(i:Nat),Vals Z G->Vals (Z.set i x) (G.set i u)
 |_,_,_,.nil=>.nil|_,_,0,.cons _ t=>.cons r t|_,_,i+1,.cons q t=>.cons q (Vals.set r i t)
theorem Vals.append:∀{Z U:List V}{G R:Zl},Vals Z G->Vals U R->Vals (Z++U) (G++R):=by intro _ _ _ _ h r;induction h with|nil=>exact r|cons q t ih=>exact .cons q ih
theorem Vals.take:∀{Z:List V}{G:Zl}(n:Nat),Vals Z G->Vals (Z.take n) (G.take n)
 |_,_,0,_=>.nil|_,_,_+1,.nil=>.nil|_,_,n+1,.cons r t=>.cons r (Vals.take n t)
theorem Vals.drop:∀{Z:List V}{G:Zl}(n:Nat),Vals Z G->Vals (Z.drop n) (G.drop n)
 |_,_,0,r=>r|_,_,_+1,.nil=>.nil|_,_,n+1,.cons _ t=>Vals.drop n t
def Lj:Option V->Option Value->Prop
 |some v,some u=>RelV v u|none,none=>True|_,_=>False
def KV{Z:Type}:List (Z×V)->List (Z×Value)->Prop:=Paired λ(p:Z×V) (q:Z×Value)=>p.1=q.1/\RelV p.2 q.2
noncomputable def kV:Key->V
 |.inl i=>.int i|.inr x=>.str x
inductive HO where
 |lst (xs:List V)
 |tup (xs:List V)
 |dK (ou:List (Key×V))|dT (ou:List (List Key×V))
 |set (S:Int->Bool) (n:Nat)
 |ins (C dx:Addr) (fs:List (Str×V))
 |own (x:Addr)
 |xd (fs:List (Str×V))
 |met (f x:Addr)
 |Pu (lo hi:Int)
 |Jg (o:Obj) (u:HO)
 |tbl (ps:Xt)
 |ext (φ:Heap->Prop)
abbrev Hp:=Addr->Option HO
noncomputable def upd(H:Hp)(a:Addr)(o:HO):Hp:=λb=>if b=a then some o else H b
def q9:upd H a o a=some o:=by unfold upd;rw[cg rfl]
def jx(h:b≠a):upd H a o b=H b:=by unfold upd;rw[bz h]
def ab6{H:Hp}(h:H a=some o)(Z:H b=some u)(d:o≠u):a≠b:=by intro e;subst e;rw[h] at Z;exact d (iu Z)
def ni{H:Hp}(h:H a=some o)(Z:H b=none):a≠b:=by intro e;subst e;rw[h] at Z;cases Z
section
variable(P:Program)(w:World)
def Ub(h:Heap)(a:Addr)(Z:Xt):Prop:=∃o,h.get? a=some o/\o.cls=.type "tuple"/\∃n,o.data=.seq Z n/\o.dict=none
def Ub.is(x:Ub h a items):IsTup h a items:=let ⟨o,h1,h2,n,h3,_⟩:=x;⟨o,h1,h2,n,h3⟩
def Ub.new(h:Heap)(items:Xt):Ub (h.push { cls:=.type "tuple",data:=.seq items }) h.objs.size items:=⟨_,bj _ rfl,rfl,_,rfl,rfl⟩
def Aq(H:Hp)(h:Heap)(a:Addr):HO->Prop
 |.lst Z=>Z.length<=sizeLine/\∃(U:Zl)(n:Nat),Vals Z U/\h.get? a=some { cls:=.type "list",data:=.seq U.toArray n }|.tup Z=>Z.length<=sizeLine/\∃U:List Value,Vals Z U/\Ub h a U.toArray|.dK ou=>ou.length<=sizeLine/\(a==sysModules)=false/\∃R,KV ou R/\h.DictOf (Ao P w) a R
 |.dT ou=>ou.length<=sizeLine/\(a==sysModules)=false/\∃Z:List (List Key×Addr×Value),
  Paired (λ(p:List Key×V) (q:List Key×Addr×Value)=>p.1=q.1/\H q.2.1=some (.tup (p.1.map kV))/\RelV p.2 q.2.2) ou Z /\
  ∃o es ep,h.get? a=some o/\o.ExactDict/\o.data=.dict es ep/\es.toList=Z.map (entryOfKey (tupleKind (Ao P w)))/\(Z.map (·.1)).Nodup
 |.set S n=>h.SetOf (intKind P w) a S n
 |.ins C dx fs=>H dx=some (.own a)/\fs.length<=1000/\dx≠a/\h.get? a=some (PySem.W.instObj C dx) /\
  ∃G,h.Ns1 dx G/\(∀f,Lj (fs.lookup f) (G f))/\PySem.Within G (fs.map (·.1))
 |.own _=>∃o,h.get? a=some o|.xd fs=>∃G,h.Ns1 a G/\∀f,Lj (fs.lookup f) (G f)|.Pu lo hi=>∃t u v,h.get? a=some { cls:=.type "range",data:=.fields #[.int lo t,.int hi u,.int 1 v] }|.Jg o u=>h.get? a=some o/\Aq H h a u|.tbl ps=>h.get? a=some { cls:=.none,data:=.fields ps }|.met f x=>h.get? a=some (PySem.W.methodObj (.ref f) (.ref x))|.ext φ=>φ h/\(∃o,h.get? a=some o)/\∀h1 h2:Heap,φ h1->(∀o,h1.get? a=some o->h2.get? a=some o)->φ h2
def M8(H:Hp)(h:Heap):Prop:=∀a o,H a=some o->Aq P w H h a o
end
theorem Aq.lt(x:Aq P w H h a o):a<h.objs.size:=by
 cases o with
 |lst Z=>obtain⟨_,_,_,_,e⟩:=x;exact az e
 |tup Z=>obtain⟨_,_,_,p⟩:=x;exact(Ub.is p).lt
 |dK G=>obtain⟨_,_,_,_,o,_,_,e,_⟩:=x;exact az e
 |dT G=>obtain⟨_,_,_,_,o,_,_,e,_⟩:=x;exact az e
 |set S n=>obtain⟨o,_,_,_,e,_⟩:=x;exact az e
 |ins C dx fs=>obtain⟨_,_,_,e,_⟩:=x;exact az e
 |own y=>obtain⟨_,e⟩:=x;exact az e
 |xd fs=>obtain⟨_,⟨_,_,_,e,_⟩,_⟩:=x;exact az e
 |Pu lo hi=>obtain⟨_,_,_,e⟩:=x;exact az e
 |Jg R u=>obtain⟨e,_⟩:=x;exact az e
 |tbl U=>exact az (show h.get? a=some _ from x)
 |met f y=>exact az (show h.get? a=some _ from x)
 |ext φ=>obtain⟨_,⟨_,e⟩,_⟩:=x;exact az e
theorem Paired.ay3{R β:Type}{F G:R->β->Prop}:∀{Z:List R}{U:List β},Paired F Z U->(∀a b,F a b->G a b)->Paired G Z U:=by intro _ _ h f;induction h with|nil=>exact .nil|cons r t ih=>exact .cons (f _ _ r) ih
def Aq.stay(x:Aq P w H h a o)(k:∀b u,(b=a\/H b=some (.own a))->h.get? b=some u->h'.get? b=some u)(ho:∀b,H b=some (.own a)->H' b=some (.own a))(ht:∀b R,H b=some (.tup R)->H' b=some (.tup R)):Aq P w H' h' a o:=by
 induction o with
 |lst R=>obtain⟨z,t6,n,r,e⟩:=x;exact⟨z,t6,n,r,k _ _ (.inl rfl) e⟩
 |tup R=>obtain⟨z,t6,r,Z,e,c⟩:=x;exact⟨z,t6,r,Z,k _ _ (.inl rfl) e,c⟩
 |dK ou=>obtain⟨z,y,vs,r,Z,U,G,e,c⟩:=x;exact⟨z,y,vs,r,Z,U,G,k _ _ (.inl rfl) e,c⟩
 |dT ou =>
  obtain⟨z,y,R,r,Z,U,G,e,c⟩:=x;exact⟨z,y,R,Paired.ay3 r λp q z=>⟨z.1,ht _ _ z.2.1,z.2.2⟩,Z,U,G,k _ _ (.inl rfl) e,c⟩
 |set S n=>obtain⟨Z,U,G,t,e,c⟩:=x;exact⟨Z,U,G,t,k _ _ (.inl rfl) e,c⟩
 |ins C dx fs =>
  obtain⟨d,z,ne,e,mA,⟨od,U,G,e2,c⟩,r⟩:=x;exact⟨ho _ d,z,ne,k _ _ (.inl rfl) e,mA,⟨od,U,G,k _ _ (.inr d) e2,c⟩,r⟩
 |own y=>obtain⟨Z,e⟩:=x;exact⟨Z,k _ _ (.inl rfl) e⟩
 |xd fs=>obtain⟨mA,⟨od,U,G,e,c⟩,r⟩:=x;exact⟨mA,⟨od,U,G,k _ _ (.inl rfl) e,c⟩,r⟩
 |Pu lo hi=>obtain⟨t,u,v,e⟩:=x;exact⟨t,u,v,k _ _ (.inl rfl) e⟩
 |Jg Z u ih=>obtain⟨e,q⟩:=x;exact⟨k _ _ (.inl rfl) e,ih q⟩
 |tbl ps =>
  have e:h.get? a=some { cls:=.none,data:=.fields ps }:=x;show h'.get? a=some { cls:=.none,data:=.fields ps };exact k a _ (.inl rfl) e
 |met f y =>
  have e:h.get? a=some (PySem.W.methodObj (.ref f) (.ref y)):=x;show h'.get? a=some (PySem.W.methodObj (.ref f) (.ref y));exact k a _ (.inl rfl) e
 |ext φ=>obtain⟨p,⟨o,e⟩,st⟩:=x;exact⟨st _ _ p λo q=>k _ _ (.inl rfl) q,⟨o,k _ _ (.inl rfl) e⟩,st⟩
theorem M8.lt(x:M8 P w H h)(e:H a=some o):a<h.objs.size:=(x a o e).lt
def M8.fresh(x:M8 P w H h)(e:h.objs.size<=a):H a=none:=by
 cases q:H a with
 |none=>rfl|some u=>exact absurd (fc (x.lt q) e) (m8 _)
def M8.kept(x:M8 P w H h)(k:∀b u,h.get? b=some u->h'.get? b=some u):M8 P w H h':=λa o e =>
 (x a o e).stay (λb u _ q=>k b u q) (λ_ q=>q) λ_ _ q=>q
def M8.laid(x:M8 P w H h)(k:∀b u,h.get? b=some u->h'.get? b=some u)(U:h.objs.size<=a)(new:Aq P w (upd H a o) h' a o):M8 P w (upd H a o) h':=λb u e=>by
 have G:=x.fresh U
 by_cases Z:b=a
 .subst Z;rw[q9] at e;cases e;exact new
 .rw[jx Z] at e
  exact(x b u e).stay (λc v _ q=>k c v q) (λc q=>by rw[jx (ni q G)];exact q) λc R q=>by rw[jx (ni q G)];exact q
def Rd(H:Hp)(a:Addr)(u:HO):Prop:=H a=some u\/∃o,H a=some (.Jg o u)
def Rd.ok(r:Rd H a u)(x:M8 P w H h):Aq P w H h a u:=by
 rcases r with r|⟨o,r⟩
 .exact x a u r
 .obtain⟨_,q⟩:=x a _ r
  exact q
def Mut:Option HO->Prop
 |some (.lst _)=>True|some (.dK _)=>True|some (.dT _)=>True|some (.set _ _)=>True|some (.ins _ _ _)=>True|some (.ext _)=>True|_=>False
def M8.write(ok:M8 P w H h)(R:Mut (H x))(he:e=x\/H e=some (.own x))(k:∀b u,b≠e->h.get? b=some u->h'.get? b=some u)(qk:∃u,h'.get? e=some u)(new:Aq P w (upd H x o') h' x o'):M8 P w (upd H x o') h':=λb u q=>by
 have G:∀c y,H c=some (.own y)->c≠x:=λc y r z=>by subst z;rw[r] at R;exact R
 have qq:∀c U,H c=some (.tup U)->c≠x:=λc U r z=>by subst z;rw[r] at R;exact R
 by_cases hb:b=x
 .subst hb;rw[q9] at q;cases q;exact new
 .rw[jx hb] at q
  by_cases Z:b=e
  .have q':H b=some (.own x):=by
    rcases he with z|z
    .exact absurd (Z.trans z) hb
    .rw[Z];exact z
   rw[q] at q';cases q';obtain⟨v,hv⟩:=qk;exact⟨v,by rw[Z];exact hv⟩
  .refine(ok b u q).stay (λc v hc r=>k c v ?_ r) (λc r=>by rw[jx (G c b r)];exact r) λc U r=>by rw[jx (qq c U r)];exact r
   rcases hc with rfl|hc
   .exact Z
   .rintro rfl
    rcases he with z|z
    .exact G c b hc z
    .rw[hc] at z;cases z;exact hb rfl
structure Un(fs ex:X1)(H H':Hp)(h h':Heap):Prop where
 keep:∀b o,h.get? b=some o->H b=none->b∉fs->b∉ex->h'.get? b=some o
 slot:∀b o,h.get? b=some o->H b=none->b∈fs->b∉ex->∃sl,h'.get? b=some { o with slots:=sl }
 free:∀b o,h.get? b=some o->H b=none->b∉ex->H' b=none
 there:∀b o,h.get? b=some o->b∉ex->∃o',h'.get? b=some o'
 O3:∀b xs,H b=some (.tup xs)->H' b=some (.tup xs)
 Rz:∀b o u,H b=some (.Jg o u)->H' b=some (.Jg o u)
 Uc:∀b ps,H b=some (.tbl ps)->∃more,H' b=some (.tbl (ps++more))
def Un.any(u:Un fs ex H H1 h R)(q:h.get? b=some Z)(n:H b=none)(G:b∉ex):∃sl,R.get? b=some { Z with slots:=sl }:=by
 by_cases U:b∈fs
 .exact u.slot b Z q n U G
 .exact⟨Z.slots,u.keep b Z q n U G⟩
def Un.kept(k:∀b u,h.get? b=some u->h'.get? b=some u):Un fs ex H H h h' :=
 ⟨λb Z q _ _ _=>k b Z q,λb Z q _ _ _=>⟨Z.slots,k b Z q⟩,λ_ _ _ n _=>n,λb Z q _=>⟨Z,k b Z q⟩,λ_ _ q=>q,λ_ _ _ q=>q,λ_ G q=>⟨#[],by rw[q];simp⟩⟩
def Un.refl:Un fs ex H H h h:=Un.kept λ_ _ q=>q
theorem Un.laid(k:∀b u,h.get? b=some u->h'.get? b=some u)(U:h.objs.size<=a)(Z:H a=none):Un fs ex H (upd H a o) h h' where
 keep:=λb u q _ _ _=>k b u q
 slot:=λb u q _ _ _=>⟨u.slots,k b u q⟩
 free:=λb u q n _=>by rw[jx (gh (fc (az q) U))];exact n
 there:=λb u q _=>⟨u,k b u q⟩
 O3:=λb G q=>by rw[jx (ni q Z)];exact q
 Rz:=λb u G q=>by rw[jx (ni q Z)];exact q
 Uc:=λb R q=>⟨#[],by rw[jx (ni q Z),q];simp⟩
def Un.write(G:Mut (H x))(he:e=x\/H e=some (.own x))(k:∀b u,b≠e->h.get? b=some u->h'.get? b=some u)(R:∃u,h'.get? e=some u):Un fs ex H (upd H x o) h h':=by
 have hx:∀b,H b=none->b≠x:=λb n z=>by subst z;rw[n] at G;exact G
 have hb:∀b,H b=none->b≠e:=λb n z=>by
  subst z;rcases he with r|r
  .exact hx b n r
  .rw[n] at r;cases r
 have U:∀b u,H b=some u->¬Mut (some u)->b≠x:=λb u q nm z=>by subst z;rw[q] at G;exact nm G
 refine⟨λb u q n _ _=>k b u (hb b n) q,λb u q n _ _=>⟨u.slots,k b u (hb b n) q⟩,λb u q n _=>by rw[jx (hx b n)];exact n,λb u q _=>?_,
  λb xs q=>by rw[jx (U b _ q λz=>z)];exact q,λb u xs q=>by rw[jx (U b _ q λz=>z)];exact q,λb ps q=>⟨#[],by rw[jx (U b _ q λz=>z),q];simp⟩⟩
 by_cases Z:b=e
 .subst Z;exact R
 .exact⟨u,k b u Z q⟩
noncomputable def trk(h:Heap)(H:Hp):List Addr:=(List.range h.objs.size).filter λa=>(H a).isSome
def aac(h:Heap)(H:Hp):Heap:=PySem.W.hideAll h (trk h H)
def ajj(h:Heap)(H:Hp):(aac h H).objs.size=h.objs.size:=PySem.W.hideAll_size _ _
def ana(e:h.get? b=some o)(n:H b=none):(aac h H).get? b=some o :=
 PySem.W.hideAll_get _ e λZ=>by have q:(H b).isSome=true:=(qi.mp Z).2;rw[n] at q;simp at q
def asr(e:(aac h H).get? b=some o):h.get? b=some o/\H b=none:=by
 have Z:h.get? b=some o:=PySem.W.of_hideAll (trk h H) e;refine⟨Z,?_⟩;cases q:H b with
 |none=>rfl
 |some x =>
  have G:b∈trk h H:=qi.mpr ⟨ji.mpr (az Z),by simp[q]⟩;have z:(aac h H).get? b=none:=PySem.W.hideAll_none (trk h H) G;rw[z] at e;cases e
end L2
namespace L2
open PySem PySem.Spec PyProof.Rows
structure Mod(K:Fg)(mg:Zs)(base:Heap):Prop where
 kin:K.In base
 glob:base.Ns mainGlobals mg
 blt:∃mb,base.Ns builtinsNs mb/\∀x:Str,x≠"__name__" -> mb x=bootBuiltins x
 nolimit:base.NoLimit
structure Cx where
 prog:Program
 w:World
 K:Fg
 mg:Str->Option Value
 base:Heap
 A:Around
 N:List Str
 s₀:Shared
 H₀:Hp
 env:Env
 outer:List Env
 stack:List Env
 ex:List Addr
 fn:Str->Bool
 calm:Bool
 pn:List (Addr×Obj)
 xe:Value->Shared->Prop
noncomputable def Lf(l:List Env):List Addr:=l.filterMap (·.frame)
abbrev Cx.fs(X:Cx):List Addr:=Lf X.outer
def Vis(Z:Scope)(x:Str):Prop:=Z.names.lookup x=some .local\/Z.names.lookup x=some .cell\/Z.names.lookup x=some .free
def Loc(Z:Scope)(x:Str):Prop:=Z.names.lookup x=some .local\/Z.names.lookup x=some .cell
def Look(Z:Env)(h:Heap)(m:Zs)(x:Str)(u:Value):Prop :=
 (Z.kindOf x=some .local/\m x=some u)\/((Z.kindOf x=some .cell\/Z.kindOf x=some .free)/\∃c,Z.cells.lookup x=some c/\h.IsCell c (some u))
structure Cx.Ok(X:Cx):Prop where
 mod:Mod X.K X.mg X.base
 kind:X.env.scope.kind=.function
 glob:X.env.globals=mainGlobals
 blt:X.env.builtins=builtinsNs
 above:X.s₀.heap.objs.size<=X.env.locals
 inj:∀x y c,X.env.cells.lookup x=some c->X.env.cells.lookup y=some c->x=y
 has:∀x,(X.env.kindOf x=some .cell\/X.env.kindOf x=some .free)->∃c,X.env.cells.lookup x=some c
 cab:∀x c,X.fn x=true->X.env.cells.lookup x=some c->X.s₀.heap.objs.size<=c
 hd:X.calm=true->X.A.handled=none
 frames:X.A.frames=some X.stack
 stk:X.stack=X.outer\/(X.stack=X.env::X.outer/\X.env.frame=some X.env.locals)
 exf:∀b∈X.ex,b≠X.env.locals/\∀x c,X.env.cells.lookup x=some c->c≠b
 bs:∀b o,X.base.get? b=some o->X.s₀.heap.get? b=some o/\X.H₀ b=none
 bsz:X.base.objs.size<=X.s₀.heap.objs.size
 ab7:∀b o,X.base.get? b=some o->b∉X.ex
 aer:∀b∈X.ex,b∉X.fs
 O4:X.s₀.heap.FunFrames X.base X.outer
 frf:∀b∈X.fs,X.H₀ b=none
structure Inv(X:Cx)(pins:Zp)(σ:List (Option V))(H:Hp)(s:Shared):Prop where
 ok:X.Ok
 os:s.os=X.s₀.os
 bare:AllBare s.gens
 base:Un X.fs X.ex X.H₀ H X.s₀.heap s.heap
 loc:∃m,s.heap.Ns X.env.locals m/\∀(i:Nat)(x:Str)(v:V),X.N[i]?=some x->σ[i]?=some (some v)->Vis X.env.scope x->∃u,RelV v u/\Look X.env s.heap m x u
 cell:∀x c,X.env.cells.lookup x=some c->∃v,s.heap.IsCell c v
 free:H X.env.locals=none
 Fi:∀x c,X.env.cells.lookup x=some c->H c=none
 pin:∀p∈X.pn++pins,s.heap.get? p.1=some p.2/\H p.1=none/\p.1≠X.env.locals/\p.1∉X.fs/\∀v,p.2.data≠.cell v
 yr:M8 X.prog X.w H s.heap
 len:σ.length=X.N.length
def Cx.Ok.bcz{X:Cx}(ok:X.Ok)(e:X.base.get? b=some o):b∉X.fs:=λZ=>by have:=(ok.O4.mem Z).1;rw[e] at this;cases this
theorem Inv.bs(I:Inv X pins σ H s):∀b o,X.base.get? b=some o->s.heap.get? b=some o/\H b=none:=λb o e =>
 ⟨I.base.keep b o (I.ok.bs b o e).1 (I.ok.bs b o e).2 (I.ok.bcz e) (I.ok.ab7 b o e),I.base.free b o (I.ok.bs b o e).1 (I.ok.bs b o e).2 (I.ok.ab7 b o e)⟩
def Inv.bk(I:Inv X pins σ H s):∀b o,X.base.get? b=some o->s.heap.get? b=some o:=λb o e=>(I.bs b o e).1
theorem Inv.mod(I:Inv X pins σ H s):Mod X.K X.mg X.base:=I.ok.mod
def Inv.kIn(I:Inv X pins σ H s):X.K.In s.heap:=I.ok.mod.kin.keeps I.bk
theorem Inv.lt(I:Inv X pins σ H s):X.env.locals<s.heap.objs.size:=let ⟨_,hn,_⟩:=I.loc;hn.lt
def Inv.sz(I:Inv X pins σ H s):X.s₀.heap.objs.size<=s.heap.objs.size:=au I.ok.above (Am I.lt)
def Inv.a5l(I:Inv X pins σ H s)(h:s.heap.objs.size<=a):a∉X.fs:=λZ=>by obtain⟨_,o,G,_⟩:=I.ok.O4.mem Z;exact absurd (fc (az G) (au I.sz h)) (m8 _)
def Inv.cne(I:Inv X pins σ H s):∀x c,X.env.cells.lookup x=some c->c≠X.env.locals:=λx c e z=>by obtain⟨v,o,U,R⟩:=I.cell x c e;obtain⟨m,⟨o',es,ep,G,Z,_⟩,_⟩:=I.loc;rw[z,G] at U;cases U;rw[Z] at R;cases R
theorem Inv.O4(I:Inv X pins σ H s):s.heap.FunFrames X.base X.outer:=by
 have all:∀(l:List Env),(∀b∈Lf l,b∈X.fs)->X.s₀.heap.FunFrames X.base l->s.heap.FunFrames X.base l:=by
  intro l
  induction l with
  |nil=>intro _ _;trivial
  |cons qq r ih =>
   intro R hl;obtain⟨hk,⟨L,o,Z,hn,ho,hd⟩,hr⟩:=hl;have G:L∈X.fs:=R L (by unfold Lf;rw[zq,Z];exact cz);obtain⟨sl,e⟩:=I.base.slot L o ho (I.ok.frf L G) G λz=>I.ok.aer L z G
   exact⟨hk,⟨L,_,Z,hn,e,hd⟩,ih (λb U=>R b (by unfold Lf;rw[zq,Z];exact bh _ U)) hr⟩
 exact all X.outer (λ_ U=>U) I.ok.O4
theorem Inv.stack(I:Inv X pins σ H s):s.heap.FunFrames X.base X.stack:=by
 rcases I.ok.stk with e|⟨e,hf⟩
 .rw[e];exact I.O4
 .rw[e]
  obtain⟨m,Z,_⟩:=I.loc;refine .cons (by rw[I.ok.kind];decide) hf Z ?_ I.O4;exact Heap.get?_none_of_le (au I.ok.bsz I.ok.above)
def Inv.O5(I:Inv X pins σ H s):∀b∈Lf X.stack,b∈X.env.locals::X.fs:=λb Z=>by
 rcases I.ok.stk with e|⟨e,hf⟩
 .rw[e] at Z;exact bh _ Z
 .rw[e] at Z
  unfold Lf at Z;rw[zq,hf] at Z;exact Z
def Inv.Q0(I:Inv X pins σ H s):∀b∈Lf X.stack,H b=none:=λb Z=>by
 rcases dh.mp (I.O5 b Z) with e|Z
 .rw[e];exact I.free
 .obtain⟨_,o,G,_⟩:=I.ok.O4.mem Z
  exact I.base.free b o G (I.ok.frf b Z) λz=>I.ok.aer b z Z
def Inv.step{ch:X1}(I:Inv X pins σ H s)(G:∀b∈ch,(b∈X.ex\/X.s₀.heap.objs.size<=b)/\b≠X.env.locals/\(∀x c,X.env.cells.lookup x=some c->c≠b)/\∀p∈X.pn++pins,p.1≠b)(R:∀b o,b≠X.env.locals->b∉X.fs->b∉ch->s.heap.get? b=some o->H b=none->h'.get? b=some o)(qv:∀b o,b≠X.env.locals->b∈X.fs->b∉ch->s.heap.get? b=some o->H b=none->∃sl,h'.get? b=some { o with slots:=sl })(free:∀b o,b∉ch->s.heap.get? b=some o->H b=none->H' b=none)(q0:∀b o,b∉ch->s.heap.get? b=some o->∃o',h'.get? b=some o')(O3:∀b xs,H b=some (.tup xs)->H' b=some (.tup xs))(Rz:∀b o u,H b=some (.Jg o u)->H' b=some (.Jg o u))(Uc:∀b ps,H b=some (.tbl ps)->∃more,H' b=some (.tbl (ps++more)))(ns:∀m,s.heap.Ns X.env.locals m->h'.Ns X.env.locals m)(yr:M8 X.prog X.w H' h')(hg:AllBare g') :
 Inv X pins σ H' { s with heap:=h',gens:=g',drawn:=d',toks:=t' }:=by
 have q1:∀b o,X.s₀.heap.get? b=some o->b≠X.env.locals:=λb o e=>gh (fc (az e) I.ok.above)
 have qk:∀b o,X.s₀.heap.get? b=some o->b∉X.ex->b∉ch:=λb o e Z hb=>by
  rcases(G b hb).1 with z|z
  .exact Z z
  .exact absurd (fc (az e) z) (m8 _)
 have qq:∀x c,X.env.cells.lookup x=some c->∀v,s.heap.IsCell c v->h'.IsCell c v:=λx c e v ⟨o,ho,hd⟩=>by
  have U:c∉ch:=λz=>(G c z).2.2.1 x c e rfl
  by_cases hc:c∈X.fs
  .obtain⟨sl,q⟩:=qv c o (I.cne x c e) hc U ho (I.Fi x c e)
   exact⟨_,q,hd⟩
  .exact⟨o,R c o (I.cne x c e) hc U ho (I.Fi x c e),hd⟩
 refine⟨I.ok,I.os,hg,⟨λb o e n hb Z=>?_,λb o e n hb Z=>?_,λb o e n Z=>?_,λb o e Z=>?_,λb xs e=>O3 b xs (I.base.O3 b xs e),λb o xs e=>Rz b o xs (I.base.Rz b o xs e),λb ps e=>?_⟩,?_,λx c e=>?_,?_,λx c e=>?_,λp hp=>?_,yr,I.len⟩
 .exact R b o (q1 b o e) hb (qk b o e Z) (I.base.keep b o e n hb Z) (I.base.free b o e n Z)
 .obtain⟨sl,e1⟩:=I.base.slot b o e n hb Z
  obtain⟨q2,e2⟩:=qv b _ (q1 b o e) hb (qk b o e Z) e1 (I.base.free b o e n Z);exact⟨q2,e2⟩
 .obtain⟨o',e1⟩:=I.base.there b o e Z
  exact free b o' (qk b o e Z) e1 (I.base.free b o e n Z)
 .obtain⟨o',e1⟩:=I.base.there b o e Z
  exact q0 b o' (qk b o e Z) e1
 .obtain⟨m1,e1⟩:=I.base.Uc b ps e
  obtain⟨m2,e2⟩:=Uc b _ e1;exact⟨m1++m2,by rw[e2,Array.append_assoc]⟩
 .obtain⟨m,hn,hl⟩:=I.loc
  refine⟨m,ns m hn,λi x v e1 e2 e3=>?_⟩;obtain⟨u,r,l⟩:=hl i x v e1 e2 e3;refine⟨u,r,?_⟩;rcases l with l|⟨k,c,e,z⟩
  .exact .inl l
  .exact .inr ⟨k,c,e,qq x c e _ z⟩
 .obtain⟨v,z⟩:=I.cell x c e
  exact⟨v,qq x c e v z⟩
 .obtain⟨m,⟨o,_,_,ho,_⟩,_⟩:=I.loc
  exact free _ o (λz=>(G _ z).2.1 rfl) ho I.free
 .obtain⟨v,o,ho,hd⟩:=I.cell x c e
  exact free c o (λz=>(G c z).2.2.1 x c e rfl) ho (I.Fi x c e)
 .obtain⟨e,n,ne,nf,d⟩:=I.pin p hp
  have U:p.1∉ch:=λz=>(G p.1 z).2.2.2 p hp rfl
  exact⟨R p.1 p.2 ne nf U e n,free p.1 p.2 U e n,ne,nf,d⟩
def Inv.un(I:Inv X pins σ H s)(u:Un X.fs [] H H' s.heap h')(yr:M8 X.prog X.w H' h'):Inv X pins σ H' { s with heap:=h',toks:=t' }:=by
 obtain⟨m,⟨o,es,ep,ho,r⟩,_⟩:=id I.loc;obtain⟨sl,hL⟩:=u.any ho I.free (by simp);exact I.step (g':=s.gens) (d':=s.drawn) (ch:=[]) (λ_ z=>nomatch z) (λb o _ R _ e n=>u.keep b o e n R (by simp)) (λb o _ R _ e n=>u.slot b o e n R (by simp)) (λb o _ e n=>u.free b o e n (by simp)) (λb o _ e=>u.there b o e (by simp)) u.O3 u.Rz u.Uc (λm' hm=>by
  obtain⟨o',G,U,Z,r'⟩:=hm;rw[ho] at Z;cases Z;exact⟨_,G,U,hL,r'⟩) yr I.bare
def Inv.call(I:Inv X pins σ H s)(u:Un (Lf X.stack) ch H H' s.heap h')(yr:M8 X.prog X.w H' h')(hg:AllBare g')(G:∀b∈ch,(b∈X.ex\/X.s₀.heap.objs.size<=b)/\b≠X.env.locals/\(∀x c,X.env.cells.lookup x=some c->c≠b)/\∀p∈X.pn++pins,p.1≠b) :
 Inv X pins σ H' { s with heap:=h',gens:=g',drawn:=d',toks:=t' }:=by
 obtain⟨m,⟨o,es,ep,ho,r⟩,_⟩:=id I.loc;obtain⟨sl,hL⟩:=u.any ho I.free λz=>(G _ z).2.1 rfl
 exact I.step (ch:=ch) G (λb o hL hb Z e n=>u.keep b o e n (λz=>(dh.mp (I.O5 b z)).elim hL hb) Z) (λb o _ _ Z e n=>u.any e n Z) (λb o Z e n=>u.free b o e n Z) (λb o Z e=>u.there b o e Z) u.O3 u.Rz u.Uc (λm' hm=>by
  obtain⟨o',R,qq,U,r'⟩:=hm;rw[ho] at U;cases U;exact⟨_,R,qq,hL,r'⟩) yr hg
def Inv.turned(I:Inv X pins σ H s)(k:∀b o,b≠it->s.heap.get? b=some o->h'.get? b=some o)(hn:H it=none)(U:it≠X.env.locals)(h1:it∈X.ex\/X.s₀.heap.objs.size<=it)(R:∀x c,X.env.cells.lookup x=some c->c≠it)(h3:∀p∈X.pn++pins,p.1≠it):Inv X pins σ H { s with heap:=h',toks:=t' }:=by
 have G:∀b u,H b=some u->b≠it:=λb u e z=>by rw[z,hn] at e;cases e
 refine I.step (g':=s.gens) (d':=s.drawn) (ch:=[it]) (λb hb=>?_) (λb o _ _ Z e _=>k b o (λz=>Z (by simp[z])) e) (λb o _ _ Z e _=>⟨o.slots,k b o (λz=>Z (by simp[z])) e⟩) (λ_ _ _ _ n=>n)
  (λb o Z e=>⟨o,k b o (λz=>Z (by simp[z])) e⟩) (λ_ _ e=>e) (λ_ _ _ e=>e) (λb ps e=>⟨#[],by rw[e];simp⟩) (λm hm=>?_) (λb u e=>?_) I.bare
 .have e:b=it:=by simpa using hb
  subst e;exact⟨h1,U,R,h3⟩
 .obtain⟨o,es,ep,ho,r⟩:=hm
  exact⟨o,es,ep,k _ o (jy U) ho,r⟩
 .refine(I.yr b u e).stay (λc v Z q=>k c v ?_ q) (λ_ q=>q) λ_ _ q=>q
  rcases Z with z|z
  .rw[z];exact G b u e
  .exact G c _ z
def Inv.tok(I:Inv X pins σ H s)(t:Nat):Inv X pins σ H { s with toks:=t }:=I.un (h':=s.heap) (t':=t) Un.refl I.yr
theorem Inv.kept(I:Inv X pins σ H s)(k:∀b u,s.heap.get? b=some u->Z.get? b=some u):Inv X pins σ H { s with heap:=Z,toks:=t' }:=I.un (Un.kept k) (I.yr.kept k)
theorem Inv.laid(I:Inv X pins σ H s)(k:∀b u,s.heap.get? b=some u->h'.get? b=some u)(Z:s.heap.objs.size<=a)(new:Aq X.prog X.w (upd H a o) h' a o) :
 Inv X pins σ (upd H a o) { s with heap:=h',toks:=t' }:=I.un (Un.laid k Z (I.yr.fresh Z)) (I.yr.laid k Z new)
theorem Inv.write(I:Inv X pins σ H s)(U:Mut (H x))(R:e=x\/H e=some (.own x))(k:∀b u,b≠e->s.heap.get? b=some u->G.get? b=some u)(Z:∃u,G.get? e=some u)(new:Aq X.prog X.w (upd H x o) G x o):Inv X pins σ (upd H x o) { s with heap:=G,toks:=t' }:=I.un (Un.write U R k Z) (I.yr.write U R k Z new)
def Inv.weak(I:Inv X pins σ H s)(U:σ'.length=σ.length)(w:∀(i:Nat) v,σ'[i]?=some (some v)->σ[i]?=some (some v)):Inv X pins σ' H s :=
 ⟨I.ok,I.os,I.bare,I.base,let ⟨m,hn,hl'⟩:=I.loc;⟨m,hn,λi x v R G Z=>hl' i x v R (w i v G) Z⟩,I.cell,I.free,I.Fi,I.pin,I.yr,U.trans I.len⟩
def Inv.aad(I:Inv X pins σ H s)(h:∀p∈G,s.heap.get? p.1=some p.2/\H p.1=none/\p.1≠X.env.locals/\p.1∉X.fs/\∀v,p.2.data≠.cell v):Inv X G σ H s :=
 ⟨I.ok,I.os,I.bare,I.base,I.loc,I.cell,I.free,I.Fi,λp Z=>(bx.mp Z).elim (λz=>I.pin p (ig _ z)) (h p),I.yr,I.len⟩
def Hs{N:Yf}(G:N.Nodup){i:Nat}(a:N[i]?=some x)(b:N[j]?=some x):i=j:=by obtain⟨h1,Z⟩:=ak.mp a;obtain⟨R,U⟩:=ak.mp b;exact(zf G).mp (Z.trans U.symm)
def ajk(I:Inv X pins σ H s)(hN:X.N.Nodup)(hi:X.N[i]?=some x)(hx:Loc X.env.scope x)(r:RelV v u)(h:∀s',Inv X pins (σ.set i (some v)) H s'->(∃a,Heap.SameBut a s.heap s'.heap/\(a=X.env.locals\/X.env.cells.lookup x=some a))->Q () s')(hf:X.fn x=true\/X.env.scope.names.lookup x=some .local:=by first|exact .inl rfl|exact .inr rfl|assumption):wpAny M A (storeName X.env x u) Q E s:=by
 obtain⟨m,hn,hl⟩:=id I.loc;have q2:(X.env.scope.kind==.class||(X.env.scope.kind==.module&&X.env.locals != X.env.globals))=false:=by rw[I.ok.kind];rfl
 have qq:i < σ.length:=by rw[I.len];exact(ak.mp hi).1
 have cne:=I.cne;have U:∀{a:Addr}{h':Heap},(∃o,s.heap.get? a=some o/\H a=none)->Heap.SameBut a s.heap h'->M8 X.prog X.w H h':=fun{a h'} ha Z b ob e=>by
  obtain⟨_,_,Tq⟩:=ha;refine(I.yr b ob e).stay (λc w' R q=>(Z.2 c ?_).trans q) (λ_ q=>q) λ_ _ q=>q
  rintro rfl;rcases R with rfl|R
  .rw[Tq] at e;cases e
  .rw[Tq] at R;cases R
 rcases hx with hk|hk
 .refine wpAny_storeName_local hk hn (λh' q4 Z=>?_) q2
  obtain⟨oL,_,_,q5,_⟩:=id hn;refine h _ ⟨I.ok,I.os,I.bare,⟨λb o e n hb hx=>?_,λb o e n hb hx=>?_,I.base.free,λb o e hx=>?_,I.base.O3,I.base.Rz,I.base.Uc⟩,⟨_,q4,λj y v' G e2 e3=>?_⟩,λy c e=>?_,I.free,I.Fi,λp hp=>?_,U ⟨oL,q5,I.free⟩ Z,by simpa using I.len⟩ ⟨_,Z,.inl rfl⟩
  .exact(Z.2 b (gh (fc (az e) I.ok.above))).trans (I.base.keep b o e n hb hx)
  .obtain⟨sl,G⟩:=I.base.slot b o e n hb hx
   exact⟨sl,(Z.2 b (gh (fc (az e) I.ok.above))).trans G⟩
  .obtain⟨o',G⟩:=I.base.there b o e hx
   exact⟨o',(Z.2 b (gh (fc (az e) I.ok.above))).trans G⟩
  .by_cases hj:j=i
   .subst hj
    rw[hi] at G;cases G;rw[vd qq] at e2;cases e2;exact⟨u,r,.inl ⟨hk,by simp⟩⟩
   .rw[uh (jy hj)] at e2
    obtain⟨u',r',q⟩:=hl j y v' G e2 e3;refine⟨u',r',?_⟩;rcases q with⟨k,e⟩|⟨k,c,e,z⟩
    .refine .inl ⟨k,?_⟩
     have:y≠x:=λe=>hj (Hs hN G (e▸hi))
     simp[this,e]
    .exact .inr ⟨k,c,e,z.sameBut Z (cne y c e)⟩
  .obtain⟨w',z⟩:=I.cell y c e
   exact⟨w',z.sameBut Z (cne y c e)⟩
  .obtain⟨e,n,ne,nf,d⟩:=I.pin p hp
   exact⟨(Z.2 p.1 ne).trans e,n,ne,nf,d⟩
 .have qk:X.fn x=true:=by
   rcases hf with z|z
   .exact z
   .rw[z] at hk;cases hk
  obtain⟨c,R⟩:=I.ok.has x (.inl hk);obtain⟨w',z⟩:=I.cell x c R;refine wpAny_storeName_cell I.ok.kind hk R z (λh' q1 Z=>?_);obtain⟨oc,q0,q3⟩:=id z;refine h { s with heap:=h' } ⟨I.ok,I.os,I.bare,⟨λb o e n hb hx=>?_,λb o e n hb hx=>?_,I.base.free,λb o e hx=>?_,I.base.O3,I.base.Rz,I.base.Uc⟩,⟨m,hn.sameBut Z (jy (cne x c R)),λj y v' G e2 e3=>?_⟩,λy c' e=>?_,I.free,I.Fi,λp hp=>?_,U ⟨oc,q0,I.Fi x c R⟩ Z,by simpa using I.len⟩ ⟨c,Z,.inr R⟩
  .exact(Z.2 b (gh (fc (az e) (I.ok.cab x c qk R)))).trans (I.base.keep b o e n hb hx)
  .obtain⟨sl,G⟩:=I.base.slot b o e n hb hx
   exact⟨sl,(Z.2 b (gh (fc (az e) (I.ok.cab x c qk R)))).trans G⟩
  .obtain⟨o',G⟩:=I.base.there b o e hx
   exact⟨o',(Z.2 b (gh (fc (az e) (I.ok.cab x c qk R)))).trans G⟩
  .by_cases hj:j=i
   .subst hj
    rw[hi] at G;cases G;rw[vd qq] at e2;cases e2;exact⟨u,r,.inr ⟨.inl hk,c,R,q1⟩⟩
   .rw[uh (jy hj)] at e2
    obtain⟨u',r',q⟩:=hl j y v' G e2 e3;refine⟨u',r',?_⟩;rcases q with q|⟨k,c',e,z'⟩
    .exact .inl q
    .refine .inr ⟨k,c',e,z'.sameBut Z ?_⟩
     rintro rfl;exact hj (Hs hN G (I.ok.inj _ _ _ e R▸hi))
  .by_cases qv:c'=c
   .subst qv;exact⟨_,q1⟩
   .obtain⟨w2,z2⟩:=I.cell y c' e
    exact⟨w2,z2.sameBut Z qv⟩
  .obtain⟨e,n,ne,nf,d⟩:=I.pin p hp
   refine⟨(Z.2 p.1 ?_).trans e,n,ne,nf,d⟩;intro q;rw[q,q0] at e;have q':oc=p.2:=iu e;exact d w' (by rw[<- q'];exact q3)
def ab8(I:Inv X pins σ H s)(U:X.N.Nodup)(hi:X.N[i]?=some x)(hx:Loc X.env.scope x)(r:RelV v u)(h:∀Z,Inv X pins (σ.set i (some v)) H Z->Q () Z)(R:X.fn x=true\/X.env.scope.names.lookup x=some .local:=by first|exact .inl rfl|exact .inr rfl|assumption):wpAny M A (storeName X.env x u) Q E s :=
 ajk I U hi hx r (λZ G _=>h Z G) R
def Inv.call'(I:Inv X pins σ H s)(ho:s'.os=s.os)(u:Un (Lf X.stack) ch H H' s.heap s'.heap)(yr:M8 X.prog X.w H' s'.heap)(hg:AllBare s'.gens)(Z:∀b∈ch,(b∈X.ex\/X.s₀.heap.objs.size<=b)/\b≠X.env.locals/\(∀x c,X.env.cells.lookup x=some c->c≠b)/\∀p∈X.pn++pins,p.1≠b):Inv X pins σ H' s':=by obtain⟨h',U,G,R,o'⟩:=s';have e:o'=s.os:=ho;subst e;exact I.call (g':=U) (t':=R) (d':=G) u yr hg Z
abbrev XK:=Value->Option Addr->Hp->Prop
abbrev St:=List (Option V)
abbrev VK:=V->Hp->Prop
abbrev TE:=St->Hp->VK->Prop
abbrev TT:=St->Hp->(Bool->Hp->Prop)->Prop
abbrev TA:=St->Hp->(List V->Hp->Prop)->Prop
structure Ends where
 nx:St->Hp->Prop
 rt:VK
 bk:St->Hp->Prop:=λ_ _=>False
 ct:St->Hp->Prop:=λ_ _=>False
abbrev TS:=Ends->St->Hp->Prop
def EP(X:Cx)(Z:Zp)(R:St)(Q:VK)(u:Value)(U:Shared):Prop:=∃v G,Inv X Z R G U/\RelV v u/\Q v G
def TP(X:Cx)(Z:Zp)(R:St)(Q:Bool->Hp->Prop)(b:Bool)(U:Shared):Prop:=∃G,Inv X Z R G U/\Q b G
def AP(X:Cx)(Z:Zp)(R:St)(Q:List V->Hp->Prop)(us:Zl)(s':Shared):Prop:=∃G U,Inv X Z R U s'/\Vals G us/\Q G U
def SP(X:Cx)(G:Zp)(D:Ends)(f:Flow)(R:Shared):Prop :=
 match f with
 |.next=>∃Z U,Inv X G Z U R/\D.nx Z U|.brk=>∃Z U,Inv X G Z U R/\D.bk Z U|.cont=>∃Z U,Inv X G Z U R/\D.ct Z U|.ret u=>∃v Z U,Inv X G Z U R/\RelV v u/\D.rt v U
def PE(X:Cx)(e:Expr)(t:TE):Prop :=
 ∀(Z:Zp)(s:Shared)(G:St)(H:Hp)(Q:VK),Inv X Z G H s->t G H Q->wpAny (model X.prog X.w) X.A (eval e X.env) (EP X Z G Q) X.xe s
def PT(X:Cx)(e:Expr)(t:TT):Prop :=
 ∀(Z:Zp)(s:Shared)(G:St)(H:Hp)(Q:Bool->Hp->Prop),Inv X Z G H s->t G H Q->wpAny (model X.prog X.w) X.A (isTrue e X.env (eval e X.env)) (TP X Z G Q) X.xe s
def PW(X:Cx)(e:Expr)(t:TT):Prop :=
 ∀(G:Sem Value)(Z:Zp)(s:Shared)(U:St)(H:Hp)(Q:Bool->Hp->Prop),Inv X Z U H s->t U H Q->wpAny (model X.prog X.w) X.A (isTrue e X.env G) (TP X Z U Q) X.xe s
def PW.pt(h:PW X e t):PT X e t:=h _
def PA(X:Cx)(R:Ya)(t:TA):Prop :=
 ∀(U:Pos)(Z:Zp)(s:Shared)(G:St)(H:Hp)(Q:List V->Hp->Prop),Inv X Z G H s->t G H Q->wpAny (model X.prog X.w) X.A (spliced (backTo U (starEach R X.env))) (AP X Z G Q) X.xe s
def PS(X:Cx)(U:Stmt)(t:TS):Prop :=
 ∀(Z:Zp)(s:Shared)(G:St)(H:Hp)(D:Ends),Inv X Z G H s->t D G H->wpAny (model X.prog X.w) X.A (exec U X.env) (SP X Z D) X.xe s
def Nx(X:Cx)(U:List Stmt)(t:TS):Prop :=
 ∀(Z:Zp)(s:Shared)(G:St)(H:Hp)(D:Ends),Inv X Z G H s->t D G H->wpAny (model X.prog X.w) X.A (execs U X.env) (SP X Z D) X.xe s
def Bc(h:wpAny M A t Q E s)(Z:∀a s,Q a s->G a s):wpAny M A t G E s:=j6 h Z λ_ _ x=>x
end L2
namespace L2
open PySem PySem.Spec PyProof.Rows
def bc2(i:Nat):TE:=λZ H Q=>∃v,Z[i]?=some (some v)/\Q v H
def tC(v:V):TE:=λ_ H Q=>Q v H
def ay8(hN:X.N[i]?=some x)(hv:Vis X.env.scope x)(hd:(x==("__debug__" : Str))=false:=by decide)(R:(x==("__classdict__" : Str))=false:=by decide):PE X (.Name x pos) (bc2 i):=by
 intro U s σ H Q I h;obtain⟨v,e,h⟩:=h;obtain⟨m,hn,hl⟩:=I.loc;obtain⟨u,r,l⟩:=hl i x v hN e hv;have fin:EP X U σ Q u s:=⟨v,H,I,r,h⟩;rcases l with⟨Z,hm⟩|⟨Z,c,hc,G⟩
 .exact wpAny_Name (wpAny_loadName_local I.ok.kind Z hn hm fin) hd
 .rcases Z with Z|Z
  .exact wpAny_Name (wpAny_loadName_cell I.ok.kind Z hc G fin) hd
  .exact wpAny_Name (wpAny_loadName_free I.ok.kind Z hc G fin R) hd
def ane:PE X (.Constant (.int i) j pos) (tC (.int i)):=λ_ _ _ H _ I h=>wpAny_Constant_int ⟨.int i,H,I.tok _,⟨_,rfl⟩,h⟩
def a5n:PE X (.Constant (.bool b) j pos) (tC (.bl b)):=λ_ _ _ H _ I h=>Constant_bool ⟨.bl b,H,I,rfl,h⟩
def ay9:PE X (.Constant .none j pos) (tC .non):=λ_ _ _ H _ I h=>Constant_none ⟨.non,H,I,rfl,h⟩
def anf:PE X (.Constant (.str x) j pos) (tC (.str x)):=λ_ _ _ H _ I h=>Calls.Constant_str ⟨.str x,H,I.tok _,⟨_,rfl⟩,h⟩
def Gl(X:Cx)(x:Str):Prop:=X.env.kindOf x=some .globalImplicit
def Ny(I:Inv X pins σ H s)(U:Gl X x)(G:X.mg x=some u)(h:Q u s)(Z:(x==("__debug__" : Str))=false:=by decide):wpAny (model X.prog X.w) X.A (eval (.Name x pos) X.env) Q E s :=
 Calls.Name_function_global I.ok.kind U (Calls.loadGlobal_global (by rw[I.ok.glob];exact I.mod.glob.keeps I.bk) G h) Z
def Kv(I:Inv X pins σ H s)(G:Gl X x)(hm:X.mg x=none)(U:bootBuiltins x=some u)(h:Q u s)(hn:x≠"__name__" := by decide)(R:(x==("__debug__" : Str))=false:=by decide):wpAny (model X.prog X.w) X.A (eval (.Name x pos) X.env) Q E s:=by obtain⟨mb,h1,Z⟩:=I.mod.blt;exact Calls.Name_function_global I.ok.kind G (Calls.loadGlobal_builtin (by rw[I.ok.glob];exact I.mod.glob.keeps I.bk) hm (by rw[I.ok.blt];exact h1.keeps I.bk) ((Z x hn).trans U) h) R
def asu(U:Gl X x)(G:X.mg x=some u)(r:RelV v u)(Z:(x==("__debug__" : Str))=false:=by decide):PE X (.Name x pos) (tC v) :=
 λ_ _ _ H _ I h=>Ny I U G ⟨v,H,I,r,h⟩ Z
def tB(t:TE):TT:=λG H Q=>t G H λx Z=>∃c,x=.bl c/\Q c Z
def aza(h:PE X e t)(R:∀Z,isTrue e X.env Z=(do let v <- Z;standAt e.pos;holding [v] (truthy v)):=by intro _;rfl):PT X e (tB t):=by intro G s U H Q I hw;refine isTrue_plain (Bc (h G s U H _ I hw) λv s1 ⟨x,H1,I1,r1,q1⟩=>?_) (R _);obtain⟨d,rfl,q⟩:=q1;cases r1;exact j9 ⟨H1,I1,q⟩
def bc3(t u:TT):TT:=λG H Q=>t G H λc Z=>if c=true then u G Z Q else Q false Z
def tOr(t u:TT):TT:=λG H Q=>t G H λc Z=>if c=true then Q true Z else u G Z Q
def bc4(t:TT):TT:=λG H Q=>t G H λc Z=>Q (!c) Z
def asv(U:PT X a tA):PW X (.BoolOp .And [a] pos) tA:=by
 intro wh Z s G H Q I h;refine isTrue_and (Bc (U Z s G H Q I h) λc R e=>?_);cases c with
 |true=>exact isTrue_and_nil e|false=>exact e
def azb(U:PT X a tA):PW X (.BoolOp .Or [a] pos) tA:=by
 intro wh Z s G H Q I h;refine isTrue_or (Bc (U Z s G H Q I h) λc R e=>?_);cases c with
 |false=>exact isTrue_or_nil e|true=>exact e
def azc{Z:Ya}(ha:PT X a tA)(hb:PW X (.BoolOp .And (b::Z) pos) tB'):PW X (.BoolOp .And (a::b::Z) pos) (bc3 tA tB'):=by
 intro wh G s R H Q I h;refine isTrue_and (Bc (ha G s R H _ I h) λc s1 z_=>?_);obtain⟨H1,U,q1⟩:=z_;cases c with
 |true=>exact hb wh G s1 R H1 Q U q1|false=>exact⟨H1,U,q1⟩
def a5o{Z:Ya}(ha:PT X a tA)(hb:PW X (.BoolOp .Or (b::Z) pos) tB'):PW X (.BoolOp .Or (a::b::Z) pos) (tOr tA tB'):=by
 intro wh G s R H Q I h;refine isTrue_or (Bc (ha G s R H _ I h) λc s1 z_=>?_);obtain⟨H1,U,q1⟩:=z_;cases c with
 |true=>exact⟨H1,U,q1⟩|false=>exact hb wh G s1 R H1 Q U q1
def ang(G:PT X a tA):PT X (.UnaryOp .Not a pos) (bc4 tA):=by intro Z s R H Q I h;exact isTrue_not (G Z s R H (λc U=>Q (!c) U) I h)
def a5p(U R:TE):TE:=λG H Q=>U G H λx Z=>∃c,x=.bl c/\if c=true then R G Z Q else Q (.bl false) Z
def bc6(U R:TE):TE:=λG H Q=>U G H λx Z=>∃c,x=.bl c/\if c=true then Q (.bl true) Z else R G Z Q
def a5q(Z:TE):TE:=λU H Q=>Z U H λx G=>∃c,x=.bl c/\Q (.bl (!c)) G
def azd{Z:Ya}(ha:PE X a ta)(hb:PE X (.BoolOp .And (b::Z) pos) tb):PE X (.BoolOp .And (a::b::Z) pos) (a5p ta tb):=by
 intro G s σ H Q I h;refine BoolOp_and (Bc (ha G s σ H _ I h) λv s1 z_=>?_);obtain⟨x,R,I1,r1,U⟩:=z_;obtain⟨c,rfl,U⟩:=U;cases r1;refine j9 ?_;cases c with
 |true=>exact hb G s1 σ R Q I1 U|false=>exact⟨.bl false,R,I1,rfl,U⟩
def a5r{Z:Ya}(ha:PE X a ta)(hb:PE X (.BoolOp .Or (b::Z) pos) tb):PE X (.BoolOp .Or (a::b::Z) pos) (bc6 ta tb):=by
 intro G s σ H Q I h;refine BoolOp_or (Bc (ha G s σ H _ I h) λv s1 z_=>?_);obtain⟨x,R,I1,r1,U⟩:=z_;obtain⟨c,rfl,U⟩:=U;cases r1;refine j9 ?_;cases c with
 |false=>exact hb G s1 σ R Q I1 U|true=>exact⟨.bl true,R,I1,rfl,U⟩
def aze(ha:PE X a R):PE X (.UnaryOp .Not a pos) (a5q R):=by intro Z s σ H Q I h;refine UnaryOp_ (Bc (ha Z s σ H _ I h) λv s1 z_=>?_);obtain⟨x,H1,U,r1,G⟩:=z_;obtain⟨c,rfl,G⟩:=G;cases r1;exact not_of (j9 ⟨.bl (!c),H1,U,rfl,G⟩)
end L2
namespace L2
open PySem PySem.Spec PyProof.Rows
def Gm(K:Fg)(H:Hp)(a:Addr)(G:List V):Prop :=
 Rd H a (.lst G) \/
  ∃(o:Obj)(Z:Xt)(n:Nat),K.lookup a=some o/\o.cls=.type "list"/\o.dict=none/\o.data=.seq Z n/\Z.size<=sizeLine/\Vals G Z.toList
def Gu(K:Fg)(H:Hp)(a:Addr)(G:List V):Prop :=
 Rd H a (.tup G) \/
  ∃(o:Obj)(Z:Xt)(n:Nat),K.lookup a=some o/\o.cls=.type "tuple"/\o.data=.seq Z n/\Z.size<=sizeLine/\Vals G Z.toList
noncomputable def bc7:Value->Option V
 |.none=>some .non|.bool b=>some (.bl b)|.int i _=>some (.int i)|.str x _=>some (.str x)|.bytes b _=>some (.byt b)|.float b _=>some (.flt b)|.ref a=>some (.ref a)|.type n=>some (.ty n)|_=>none
def RelV.abs(r:RelV x u):bc7 u=some x:=by
 cases x with
 |non=>cases r;rfl|bl _=>cases r;rfl|int _=>obtain⟨t,rfl⟩:=r;rfl
 |str _=>obtain⟨t,rfl⟩:=r;rfl
 |byt _=>obtain⟨t,rfl⟩:=r;rfl
 |flt _=>obtain⟨t,rfl⟩:=r;rfl
 |ref _=>cases r;rfl|ty _=>cases r;rfl
def RelV.inj(r:RelV x u)(q:RelV y u):x=y:=iu (r.abs.symm.trans q.abs)
theorem Vals.inj:∀{Z U:List V}{G:Zl},Vals Z G->Vals U G->Z=U
 |_,_,_,.nil,.nil=>rfl|_,_,_,.cons r t,.cons r' t'=>by rw[r.inj r',Vals.inj t t']
def Gm.of{K:Fg}(h:H a=some (.lst xs)):Gm K H a xs:=.inl (.inl h)
def Gu.of{K:Fg}(h:H a=some (.tup xs)):Gu K H a xs:=.inl (.inl h)
def Inv.list(I:Inv X pins σ H s)(h:Gm X.K H a G):∃Z:List Value,Vals G Z/\PlainL s.heap a Z.toArray/\G.length<=sizeLine:=by
 rcases h with h|⟨o,Z,n,hk,hc,hd,hs,hz,r⟩
 .obtain⟨z,Z,n,r,e⟩:=h.ok I.yr
  exact⟨Z,r,⟨_,n,e,rfl,rfl,rfl⟩,z⟩
 .refine⟨Z.toList,r,⟨o,n,I.kIn a o hk,hc,hd,by simpa using hs⟩,?_⟩
  have e:=r.length;simp only[rm] at e;exact a_ (f_ e) hz
def Inv.tuple(I:Inv X pins σ H s)(h:Gu X.K H a G):∃Z:List Value,Vals G Z/\IsTup s.heap a Z.toArray/\G.length<=sizeLine:=by
 rcases h with h|⟨o,Z,n,hk,hc,hs,hz,r⟩
 .obtain⟨z,Z,r,p⟩:=h.ok I.yr
  exact⟨Z,r,p.is,z⟩
 .refine⟨Z.toList,r,⟨o,I.kIn a o hk,hc,n,by simpa using hs⟩,?_⟩
  have e:=r.length;simp only[rm] at e;exact a_ (f_ e) hz
def Inv.ab9(I:Inv X pins σ H s)(h:Gm X.K H a U)(R:Gm X.K H a ys):U=ys:=by
 obtain⟨t6,r,⟨o,n,e,_,_,d⟩,_⟩:=I.list h;obtain⟨its',r',⟨o',n',Z,_,_,G⟩,_⟩:=I.list R;rw[e] at Z;cases Z;rw[d] at G;injection G with d1 _
 have:t6=its':=by simpa using o9 Array.toList d1
 subst this;exact r.inj r'
def Inv.Yr(I:Inv X pins σ H s)(h:Gu X.K H a U)(R:Gu X.K H a ys):U=ys:=by
 obtain⟨t6,r,⟨o,e,_,n,d⟩,_⟩:=I.tuple h;obtain⟨its',r',⟨o',Z,_,n',G⟩,_⟩:=I.tuple R;rw[e] at Z;cases Z;rw[d] at G;injection G with d1 _
 have:t6=its':=by simpa using o9 Array.toList d1
 subst this;exact r.inj r'
noncomputable abbrev Cx.Xo(X:Cx)(E:Y1):Cx:={ X with xe:=E }
abbrev Cx.nox(X:Cx):Cx:=X.Xo λ_ _=>False
theorem Cx.Ok.Xo{X:Cx}(ok:X.Ok)(E:Y1):(X.Xo E).Ok :=
 ⟨ok.mod,ok.kind,ok.glob,ok.blt,ok.above,ok.inj,ok.has,ok.cab,ok.hd,ok.frames,ok.stk,ok.exf,ok.bs,ok.bsz,ok.ab7,ok.aer,ok.O4,ok.frf⟩
def Cx.Ok.M9{X:Cx}(ok:(X.Xo E).Ok):X.Ok :=
 ⟨ok.mod,ok.kind,ok.glob,ok.blt,ok.above,ok.inj,ok.has,ok.cab,ok.hd,ok.frames,ok.stk,ok.exf,ok.bs,ok.bsz,ok.ab7,ok.aer,ok.O4,ok.frf⟩
theorem Inv.Xo(I:Inv X pins σ H s)(E:Y1):Inv (X.Xo E) pins σ H s:=⟨I.ok.Xo E,I.os,I.bare,I.base,I.loc,I.cell,I.free,I.Fi,I.pin,I.yr,I.len⟩
theorem Inv.M9(I:Inv (X.Xo E) pins σ H s):Inv X pins σ H s:=⟨I.ok.M9,I.os,I.bare,I.base,I.loc,I.cell,I.free,I.Fi,I.pin,I.yr,I.len⟩
theorem SP.M9(h:SP (X.Xo E) pins D f s'):SP X pins D f s':=by
 cases f with
 |next=>obtain⟨Z,G,I,q⟩:=h;exact⟨Z,G,I.M9,q⟩
 |brk=>obtain⟨Z,G,I,q⟩:=h;exact⟨Z,G,I.M9,q⟩
 |cont=>obtain⟨Z,G,I,q⟩:=h;exact⟨Z,G,I.M9,q⟩
 |ret u=>obtain⟨v,Z,G,I,r,q⟩:=h;exact⟨v,Z,G,I.M9,r,q⟩
theorem Nx.nox{G:List Stmt}(h:Nx X.nox G t):Nx X G t:=λZ s U H D I hw =>
 j6 (h Z s U H D (I.Xo _) hw) (λ_ _ q=>q.M9) λ_ _ z=>False.elim z
def a5t:TS:=λD Z H=>D.nx Z H
def bc8(t u:TS):TS:=λD Z H=>t { D with nx:=u D } Z H
def ahf:Nx X [] a5t:=λ_ _ Z H _ I h=>wpAny_execs_nil ⟨Z,H,I,h⟩
def anh{R:Stmt}{Z:List Stmt}(h1:PS X R t)(h2:Nx X Z u):Nx X (R::Z) (bc8 t u):=by
 intro G s σ H D I h;refine wpAny_execs_cons (Bc (h1 G s σ H { D with nx:=u D } I h) λf s1 q=>?_);cases f with
 |next =>
  obtain⟨U,H',I',q⟩:=q;exact h2 G s1 U H' D I' q
 |ret v=>exact q|brk=>exact q|cont=>exact q
def Inv.quiet(I:Inv X pins σ H s):interactive X.env=false:=by simp[interactive,I.ok.kind]
def a5u(G:TE):TS:=λD Z H=>G Z H λ_ U=>D.nx Z U
def ahg(R:PE X e U)(hs:swapsWith e none pos.line X.env=pure false:=by rfl):PS X (.Expr e pos) (a5u U):=by intro Z s G H D I h;exact wpAny_Expr_any (Bc (R Z s G H _ I h) λv s1 ⟨x,H1,I1,r1,q1⟩=>⟨G,H1,I1,q1⟩) I.quiet hs
def bc9(Z:TE):TS:=λD G H=>Z G H D.rt
def azf(R:PE X e U):PS X (.Return (some e) pos) (bc9 U):=by intro Z s G H D I h;exact wpAny_Return_some (Bc (R Z s G H _ I h) λv s1 ⟨x,H1,I1,r1,q1⟩=>⟨x,G,H1,I1,r1,q1⟩)
def bda(c:TT)(t u:TS):TS:=λD Z H=>c Z H λb G=>if b=true then t D Z G else u D Z G
def a5v(hc:PT X c tc)(ha:Nx X a t)(hb:Nx X b u):PS X (.If c a b pos) (bda tc t u):=by
 intro Z s G H D I h;refine wpAny_If (Bc (hc Z s G H _ I h) λd R z_=>?_);obtain⟨H1,U,q1⟩:=z_;cases d with
 |true=>exact ha Z R G H1 D U q1|false=>exact hb Z R G H1 D U q1
abbrev TG:=V->St->Hp->(St->Hp->Prop)->Prop
abbrev TGs:=List V->St->Hp->(St->Hp->Prop)->Prop
def PG(X:Cx)(Z:Expr)(t:TG):Prop :=
 ∀(G:Zp)(s:Shared)(R:St)(H:Hp)(v:V)(u:Value)(Q:St->Hp->Prop),Inv X G R H s->RelV v u->t v R H Q ->
  wpAny (model X.prog X.w) X.A (assign Z X.env u) (λ_ s'=>∃U H',Inv X G U H' s'/\Q U H') X.xe s
def PGs(X:Cx)(ts:Ya)(t:TGs):Prop :=
 ∀(Z:Zp)(s:Shared)(R:St)(H:Hp)(U:List V)(us:Zl)(Q:St->Hp->Prop),Inv X Z R H s->Vals U us->t U R H Q ->
  wpAny (model X.prog X.w) X.A (assignInOrder ((assignEach ts X.env).map (·.2)) us) (λ_ s'=>∃G H',Inv X Z G H' s'/\Q G H') X.xe s
abbrev azg:=V->V->V->Hp->(Hp->Prop)->Prop
def azh(X:Cx)(t:azg):Prop :=
 ∀(Z:Zp)(s:Shared)(U:St)(H:Hp)(o i v:V)(G iv u:Value)(Q:Hp->Prop),Inv X Z U H s->RelV o G->RelV i iv->RelV v u->t o i v H Q ->
  wpAny (model X.prog X.w) X.A (setItem G iv u) (λ_ s'=>∃R,Inv X Z U R s'/\Q R) X.xe s
def ahh(i:Nat):TG:=λv Z H Q=>Q (Z.set i (some v)) H
def aae(U:X.N.Nodup)(hi:X.N[i]?=some x)(hx:Loc X.env.scope x)(R:X.fn x=true\/X.env.scope.names.lookup x=some .local:=by first|exact .inl rfl|exact .inr rfl|assumption):PG X (.Name x pos) (ahh i):=by intro Z s σ H v u Q I r h;exact wpAny_assign_Name (ab8 I U hi hx r (λs' G=>⟨_,H,G,h⟩) R)
def bdc:TGs:=λZ G H Q=>Z=[]/\Q G H
def a5y(t:TG)(u:TGs):TGs:=λG R H Q=>∃v r,G=v::r/\t v R H λZ U=>u r Z U Q
def asw:PGs X [] bdc:=by intro Z s G H U R Q I r h;obtain⟨e,h⟩:=h;subst e;cases r;exact assignInOrder_nil ⟨G,H,I,h⟩
def ani(h1:PG X e t)(h2:PGs X es u)(hs:(assignEach (e::es) X.env).map (·.2)=assign e X.env::(assignEach es X.env).map (·.2):=by rfl):PGs X (e::es) (a5y t u):=by
 intro Z s σ H vs us Q I r h;obtain⟨v,vr,e1,h⟩:=h;subst e1;cases r with
 |cons r U =>
  rw[hs];refine assignInOrder_cons (Bc (h1 Z s σ H _ _ _ I r h) λ_ s1 z_=>?_);obtain⟨G,H1,R,q1⟩:=z_;exact h2 Z s1 G H1 _ _ Q R U q1
def bdd(K:Fg)(n:Nat)(t:TGs):TG:=λv G H Q=>∃a Z,v=.ref a/\Gu K H a Z/\Z.length=n/\t Z G H Q
def azi(hc:X.calm=true)(h:PGs X es t)(hn:(assignEach es X.env).length=n:=by rfl)(T8:(assignEach es X.env).findIdx? (·.1)=none:=by rfl):PG X (.Tuple es k pos) (bdd X.K n t):=by
 intro Z s U H v u Q I r hw;obtain⟨a,xs,e1,hq,hl,hw⟩:=hw;subst e1;cases r;obtain⟨t6,G,ht,hz⟩:=I.tuple hq;refine assign_Tuple_tuple (I.ok.hd hc) ht (by simp[hn,<- hl,G.length]) T8 λh' hx=>?_
 have R:Inv X Z U H { s with heap:=h' }:=I.kept (t':=s.toks) λb o e=>hx b o (gh (az e)) e
 exact h Z _ U H xs _ Q R (by simpa using G) hw
def bde(to G:TE)(t:azg):TG:=λv Z H Q=>to Z H λo H1=>G Z H1 λi R=>t o i v R λU=>Q Z U
def azj(ho:PE X o to)(hi:PE X i ti)(hs:azh X t)(ha:∀v,assign (.Subscript o i pos) X.env v=(do
 let G <- holding [v] (eval o X.env)
 let U <- holding [v,G] (eval i X.env)
 standAt pos
 holding [v,G,U] (setItem G U v)
 release [v,G,U] []):=by intro _;rfl):PG X (.Subscript o i pos) (bde to ti t):=by
 intro Z s R H v u Q I r h;rw[ha];refine aa (jz (Bc (ho Z s R H _ I h) λG s1 z_=>?_));obtain⟨x,H1,I1,r1,q1⟩:=z_;refine aa (jz (Bc (hi Z s1 R H1 _ I1 q1) λU s2 z_=>?_));obtain⟨y,H2,I2,r2,q2⟩:=z_;refine aa (wpAny_standAt (aa (jz (Bc (hs Z s2 R H2 x y v G U u _ I2 r1 r2 r q2) λ_ s3 z_=>?_))));obtain⟨H3,I3,q3⟩:=z_;exact wpAny_release ⟨R,H3,I3,q3⟩
def azk(G:TE)(g:TG):TS:=λD Z H=>G Z H λx U=>g x Z U D.nx
def anj(he:PE X e U)(hg:PG X tg g)(hs:swapsWithSole [tg] e pos.line X.env=pure false:=by rfl)(hw:swappedStores [tg] e X.env=pure none:=by rfl)(h1:(assignEach [tg] X.env).map (·.2)=[assign tg X.env]:=by rfl):PS X (.Assign [tg] e pos) (azk U g):=by intro Z s G H D I h;refine wpAny_Assign_stores (Bc (he Z s G H _ I h) λv R ⟨x,H1,I1,r1,q1⟩=>?_) hs hw;rw[h1];exact Bc (hg Z R G H1 x v _ I1 r1 q1) λ_ s2 q=>q
def azl(c:TT)(tb:TS):TS:=λD Z H=>∃W:Nat->St->Hp->Prop,(∃m,W m Z H)/\∀m Z H,W m Z H ->
 c Z H λb R=>if b=true then ∃N:St->Hp->Prop,(∀G H',N G H'->∃U,U<m/\W U G H')/\tb { D with nx:=N,ct:=N,bk:=D.nx } Z R else D.nx Z R
def ank(hp:PassesOwn (model X.prog X.w) X.A X.env X.xe)(hc:PT X c tc)(hb:Nx X body tb):PS X (.While c body [] pos) (azl tc tb):=by
 intro G s σ H D I h;obtain⟨W,⟨m0,w0⟩,qq⟩:=h;refine wpAny_While (codeAny_whileLoop (λn s'=>∃R H',Inv X G R H' s'/\W n R H') ?_ m0 ⟨σ,H,I,w0⟩);rintro n s1 ⟨U,H1,I1,w1⟩;refine ql hp (Bc (hc G s1 U H1 _ I1 (qq n U H1 w1)) λb s2 z_=>?_);obtain⟨H2,I2,q2⟩:=z_;cases b with
 |true =>
  obtain⟨N,hN,q2⟩:=q2;rw[cg rfl];refine ql hp (Bc (hb G s2 U H2 _ I2 q2) λf s3 q3=>?_);cases f with
  |next =>
   obtain⟨Z,H3,I3,n3⟩:=q3;obtain⟨m',hm,w3⟩:=hN Z H3 n3;exact⟨m',hm,Z,H3,I3,w3⟩
  |cont =>
   obtain⟨Z,H3,I3,n3⟩:=q3;obtain⟨m',hm,w3⟩:=hN Z H3 n3;exact⟨m',hm,Z,H3,I3,w3⟩
  |brk=>exact q3|ret v=>exact q3
 |false =>
  rw[bz dw];exact wpAny_execs_nil ⟨U,H2,I2,q2⟩
structure It where
 go:Nat->Hp->Prop
 yld:Nat->Hp->V->Hp->Prop
 stop:Nat->Hp->Prop
def Ud(X:Cx)(Z:Zp)(H:Hp)(b:Addr):Prop :=
 H b=none/\b≠X.env.locals/\b∉X.fs/\(b∈X.ex\/X.s₀.heap.objs.size<=b)/\(∀x c,X.env.cells.lookup x=some c->c≠b)/\∀p∈X.pn++Z,p.1≠b
def Inv.ajm(I:Inv X pins σ H s)(Z:s.heap.objs.size<=b)(R:G b=none):Ud X pins G b:=by
 refine⟨R,su (fc I.lt Z),I.a5l Z,.inr (au I.sz Z),λx c e z=>?_,λp U z=>?_⟩
 .obtain⟨v,q⟩:=I.cell x c e
  exact absurd (fc q.lt (by rw[z];exact Z)) (m8 _)
 .exact absurd (fc (az (I.pin p U).1) (by rw[z];exact Z)) (m8 _)
structure Turn(P:Program)(w:World)(K:Fg)(tg:Expr)(J:It)(fp:X1)(it:Addr)(tn:Nat->Heap->Prop):Prop where
 mem:it∈fp
 obj:∀i h,tn i h->∀b∈fp,∃o,h.get? b=some o/\∀v,o.data≠.cell v
 keep:∀i h h',tn i h->(∀b∈fp,∀o,h.get? b=some o->h'.get? b=some o)->tn i h'
 item:∀(X:Cx),X.prog=P->X.w=w->X.K=K->X.calm=true->∀(i:Nat)(pins:Zp)(s:Shared)(σ:St)(H:Hp)(E:Y1),Inv X pins σ H s->(∀b∈fp,Ud X pins H b)->tn i s.heap->J.go i H ->
  wpAny (model P w) X.A (pyNext (.ref it)) (λr s1=>∃u,r=some u /\
   wpAny (model P w) X.A (letOwnedTupleGo tg (.ref it) u) (λ_ s2=>∃x H',Inv X pins σ H' s2/\RelV x u/\J.yld i H x H'/\tn (i+1) s2.heap/\∀b∈fp,H' b=none) E s1) E s
 done:∀(X:Cx),X.prog=P->X.w=w->X.K=K->X.calm=true->∀(i:Nat)(pins:Zp)(s:Shared)(σ:St)(H:Hp)(E:Y1),Inv X pins σ H s->(∀b∈fp,Ud X pins H b)->tn i s.heap->J.stop i H ->
  wpAny (model P w) X.A (pyNext (.ref it)) (λr s1=>r=none/\Inv X pins σ H s1) E s
 self:∀(A:Around)(i:Nat)(s:Shared)(Q:Y1)(E:Y1),tn i s.heap->Q (.ref it) s->wpAny (model P w) A (pyIter (.ref it)) Q E s
abbrev TI:=St->Hp->(It->Hp->Prop)->Prop
def PIE(X:Cx)(Z:Zp)(σ:St)(tg:Expr)(R:It->Hp->Prop)(G:Value)(s2:Shared):Prop :=
 ∃(it:Addr)(fp:X1)(tn:Nat->Heap->Prop)(J:It)(U:Hp),G=.ref it/\Inv X Z σ U s2/\Turn X.prog X.w X.K tg J fp it tn/\tn 0 s2.heap/\(∀b∈fp,Ud X Z U b)/\R J U
def PI(X:Cx)(tg G:Expr)(wi:TI):Prop :=
 ∀(Z:Zp)(s:Shared)(U:St)(H:Hp)(R:It->Hp->Prop),Inv X Z U H s->wi U H R ->
  wpAny (model X.prog X.w) X.A (eval G X.env) (λv s1=>wpAny (model X.prog X.w) X.A (pyIter v) (PIE X Z U tg R) X.xe s1) X.xe s
def ahi(U:s.heap.get? it=some o)(hc:o.cls=.type n)(R:o.data=.fields G)(hn:["enumerate", "zip", "dict_itemiterator", "dict_reverseitemiterator", "odict_iterator", "itertools.zip_longest", "itertools.pairwise"].contains n=false)(Z:Q () s):wpAny M A (letOwnedTupleGo tg (.ref it) u) Q E s:=by
 unfold letOwnedTupleGo;cases tg<;>first
  |exact aj Z
  | (cases u<;>first
   |exact aj Z
   | (refine aa (wpAny_load U ?_)
      rw[hc,R];show wpAny M A (if(["enumerate", "zip", "dict_itemiterator", "dict_reverseitemiterator", "odict_iterator", "itertools.zip_longest", "itertools.pairwise"].contains n&&G[0]?==some (rawInt _))=true then _ else _) Q E s;rw[bz (by intro h;rw[hn,Bool.false_and] at h;cases h)];exact aj Z))
noncomputable def Itl(K:Fg)(a:Addr):It :=
 ⟨λi H=>∃Z x,Gm K H a Z/\Z[i]?=some x,λi H x G=>G=H/\∀Z,Gm K H a Z->Z[i]?=some x,λi H=>∃Z,Gm K H a Z/\Z.length<=i⟩
noncomputable def Itt(K:Fg)(a:Addr):It :=
 ⟨λi H=>∃Z x,Gu K H a Z/\Z[i]?=some x,λi H x G=>G=H/\∀Z,Gu K H a Z->Z[i]?=some x,λi H=>∃Z,Gu K H a Z/\Z.length<=i⟩
noncomputable def Ox(Z:Int)(n:Nat):It:=⟨λi _=>i<n,λi H x G=>G=H/\x=.int (Z+i),λi _=>n<=i⟩
theorem ajn{K:Fg}(a it:Addr):Turn P w K tg (Itl K a) [it] it (λi h=>h.IsListIter it a i) where
 mem:=by simp
 obj:=λi h Z b U=>by
  have e:b=it:=by simpa using U
  subst e;obtain⟨o,e,c,d⟩:=Z;exact⟨o,e,λv z=>by rw[d] at z;cases z⟩
 keep:=λi h h' Z k=>Z.at λo e=>k it (by simp) o e
 item:=by
  intro X hP hw hK hc i G s σ H E I hf Z hg;subst hP hw hK;obtain⟨xs,x,hq,hx⟩:=hg;obtain⟨t6,rv,p,hz⟩:=I.list hq;obtain⟨u,hu,ru⟩:=rv.get hx;obtain⟨f0,f1,f2,f3,f4,f5⟩:=hf it (by simp);refine wpAny_pyNext_list_item Z p.isList (x:=u) (by simpa using hu) λh' R sb=>?_
  have I1:Inv X G σ H { s with heap:=h' }:=I.turned (t':=s.toks) (λb o U e=>(sb.2 b U).trans e) f0 f1 f3 f4 f5;obtain⟨o,e,c,d⟩:=id R;exact⟨u,rfl,ahi (s:={ s with heap:=h' }) e c d (by decide) ⟨x,H,I1,ru,⟨rfl,λys hy=>by rw[I.ab9 hy hq];exact hx⟩,R,λb U=>(hf b U).1⟩⟩
 done:=by intro X hP hw hK hc i G s σ H E I hf Z hg;subst hP hw hK;obtain⟨xs,hq,hx⟩:=hg;obtain⟨t6,rv,p,hz⟩:=I.list hq;obtain⟨f0,f1,f2,f3,f4,f5⟩:=hf it (by simp);have hl:=rv.length;exact wpAny_pyNext_list_end (I.ok.hd hc) Z p.isList (by simp;exact a_ (g_ hl) hx) λh' eb=>⟨rfl,I.turned (t':=s.toks) (λb o U e=>eb b o U e) f0 f1 f3 f4 f5⟩
 self:=λ_ _ _ _ _ Z h=>wpAny_pyIter_listiter Z h
theorem aeu{K:Fg}(a it:Addr):Turn P w K tg (Itt K a) [it] it (λi h=>h.IsTupleIter it a i) where
 mem:=by simp
 obj:=λi h Z b U=>by
  have e:b=it:=by simpa using U
  subst e;obtain⟨o,e,c,d⟩:=Z;exact⟨o,e,λv z=>by rw[d] at z;cases z⟩
 keep:=λi h h' Z k=>Z.at λo e=>k it (by simp) o e
 item:=by
  intro X hP hw hK hc i G s σ H E I hf Z hg;subst hP hw hK;obtain⟨xs,x,hq,hx⟩:=hg;obtain⟨t6,rv,p,hz⟩:=I.tuple hq;obtain⟨u,hu,ru⟩:=rv.get hx;obtain⟨f0,f1,f2,f3,f4,f5⟩:=hf it (by simp);refine wpAny_pyNext_tuple_item Z (show s.heap.IsTuple a t6.toArray from p) (x:=u) (by simpa using hu) λh' R sb=>?_
  have I1:Inv X G σ H { s with heap:=h' }:=I.turned (t':=s.toks) (λb o U e=>(sb.2 b U).trans e) f0 f1 f3 f4 f5;obtain⟨o,e,c,d⟩:=id R;exact⟨u,rfl,ahi (s:={ s with heap:=h' }) e c d (by decide) ⟨x,H,I1,ru,⟨rfl,λys hy=>by rw[I.Yr hy hq];exact hx⟩,R,λb U=>(hf b U).1⟩⟩
 done:=by intro X hP hw hK hc i G s σ H E I hf Z hg;subst hP hw hK;obtain⟨xs,hq,hx⟩:=hg;obtain⟨t6,rv,p,hz⟩:=I.tuple hq;obtain⟨f0,f1,f2,f3,f4,f5⟩:=hf it (by simp);have hl:=rv.length;exact wpAny_pyNext_tuple_end (I.ok.hd hc) Z (show s.heap.IsTuple a t6.toArray from p) (by simp;exact a_ (g_ hl) hx) λh' eb=>⟨rfl,I.turned (t':=s.toks) (λb o U e=>eb b o U e) f0 f1 f3 f4 f5⟩
 self:=λ_ _ _ _ _ Z h=>wpAny_pyIter_tupleiter Z h
theorem aev{K:Fg}(it:Addr)(lo:Int)(n:Nat):Turn P w K tg (Ox lo n) [it] it (λi h=>IsRangeIter h it (lo+(i:Nat)*1) ((n:Int)-(i:Nat)) 1) where
 mem:=by simp
 obj:=λi h Z b U=>by
  have e:b=it:=by simpa using U
  subst e;exact⟨_,Z,λv z=>by
   have z':Data.fields _=Data.cell v:=z;cases z'⟩
 keep:=λi h h' Z k=>k it (by simp) _ Z
 item:=by
  intro X hP hw hK hc i G s σ H E I hf Z hg;subst hP hw hK;obtain⟨f0,f1,f2,f3,f4,f5⟩:=hf it (by simp);have W:=Walks.range (prog:=X.prog) (w:=X.w) (I.ok.hd hc) it lo 1 n;refine W.item i s _ _ hg Z λv h' tk hv R kk=>?_
  obtain⟨t,rfl⟩:=hv;have I1:Inv X G σ H { s with heap:=h',toks:=tk }:=I.turned (λb o U e=>kk b o (by simpa using U) e) f0 f1 f3 f4 f5;refine⟨_,rfl,ahi (s:={ s with heap:=h',toks:=tk }) (n := "range_iterator") R rfl rfl (by decide) ⟨.int (lo+i),H,I1,⟨t,?_⟩,⟨rfl,rfl⟩,R,λb U=>(hf b U).1⟩⟩;rw[Int.mul_one]
 done:=by intro X hP hw hK hc i G s σ H E I hf Z hg;subst hP hw hK;obtain⟨f0,f1,f2,f3,f4,f5⟩:=hf it (by simp);exact wpAny_pyNext_range_end (I.ok.hd hc) Z (by have:n<=i:=hg;lia) λh' eb=>⟨rfl,I.turned (t':=s.toks) (λb o U e=>eb b o U e) f0 f1 f3 f4 f5⟩
 self:=λ_ _ _ _ _ Z h=>wpAny_pyIter_rangeiter Z h
end L2
namespace L2
open PySem PySem.Spec PyProof.Rows
def anl{lo:Int}(I:Inv X pins σ H s)(h1:-(2 ^ 62)<=lo)(h2:lo<2 ^ 62)(h3:-(2 ^ 62)<=Z)(h4:Z<2 ^ 62)(q:R (Ox lo (Z-lo).toNat) H):wpAny (model X.prog X.w) X.A (pyIter (.ref s.heap.objs.size)) (PIE X pins σ tg R) E { s with heap:=s.heap.push { cls:=.type "range",data:=.fields #[.int lo t,.int Z u,.int 1 v] },toks:=U }:=by
 refine wpAny_pyIter_range (IsRange.new ..) (small_one h1 h2 h3 h4) ?_;have G:Inv X pins σ H { s with heap:=s.heap.push { cls:=.type "range",data:=.fields #[.int lo t,.int Z u,.int 1 v] },toks:=U }:=I.kept λb o e=>aq _ e
 refine⟨(s.heap.push { cls:=.type "range",data:=.fields #[.int lo t,.int Z u,.int 1 v] }).objs.size,[(s.heap.push { cls:=.type "range",data:=.fields #[.int lo t,.int Z u,.int 1 v] }).objs.size],_,_,H,rfl,
  G.kept (t':=U) λb o e=>aq _ e,aev _ lo (Z-lo).toNat,?_,λb hb=>?_,q⟩
 .have e1:lo+((0:Nat):Int)*1=lo:=by simp
  have e2:(((Z-lo).toNat:Nat):Int)-((0:Nat):Int)=Builtin.Range.rangeSize lo Z 1:=by rw[rangeSize_one];split<;>lia
  show IsRangeIter _ _ (lo+((0:Nat):Int)*1) ((((Z-lo).toNat:Nat):Int)-((0:Nat):Int)) 1;rw[e1,e2];exact bj _ rfl
 .have e:b=(s.heap.push { cls:=.type "range",data:=.fields #[.int lo t,.int Z u,.int 1 v] }).objs.size:=by simpa using hb
  subst e;exact G.ajm (bf _) (G.yr.fresh (bf _))
def a6a(G:TA):TI:=fun σ H R=>G σ H λZ U=>∃j:Int,Z=[.int j]/\-(2 ^ 62)<=j/\j<2 ^ 62/\R (Ox 0 j.toNat) U
def ajo{X:Cx}{tg:Expr}(hg:Gl X "range")(hm:X.mg "range" = none)(ha:PA X [a] ta)(hs:starEach [a] X.env=[(false,eval a X.env)]:=by rfl):PI X tg (.Call (.Name "range" p) [a] [] pos) (a6a ta):=by
 intro Z s σ H R I h;refine Call_ (Kv I hg hm boot_range (qu (Bc (ha pos Z s σ H _ I h) λus s1 ⟨vs,H1,I1,r1,G⟩=>?_) hs rfl));obtain⟨j,e,G,q2,q⟩:=G;subst e;cases r1 with
 |cons r U =>
  cases U;obtain⟨t,rfl⟩:=r;exact call_range_1 (anl I1 (by lia) (by lia) G q2 (by simpa using q))
def bdg(wi:TI)(g:TG)(tb:TS):TS:=λD Z H=>wi Z H λJ H1=>∃W:Nat->Nat->St->Hp->Prop,(∃m,W 0 m Z H1)/\∀i m Z H,W i m Z H ->
 (J.stop i H/\D.nx Z H)\/(J.go i H/\∃N:St->Hp->Prop,(∀G U,N G U->∃m',m'<m/\W (i+1) m' G U)/\∀x U,J.yld i H x U->g x Z U λR H2=>tb { D with nx:=N,ct:=N,bk:=D.nx } R H2)
noncomputable def R8(Z:X1)(h:Heap):List (Addr×Obj):=Z.filterMap λb=>(h.get? b).map λo=>(b,o)
def Kw(G:b∈Z)(e:h.get? b=some o):(b,o)∈R8 Z h:=List.mem_filterMap.mpr ⟨b,G,by rw[e];rfl⟩
def ajp(U:p∈R8 G h):p.1∈G/\h.get? p.1=some p.2:=by
 obtain⟨b,R,e⟩:=List.mem_filterMap.mp U;cases q:h.get? b with
 |none=>rw[q] at e;cases e
 |some o =>
  rw[q] at e;have Z:(b,o)=p:=iu e;subst Z;exact⟨R,q⟩
def Inv.pinned{X:Cx}(I:Inv X pins σ H s)(hf:∀b∈U,Ud X pins H b)(R:∀b∈U,∃o,s.heap.get? b=some o/\∀v,o.data≠.cell v):Inv X (pins++R8 U s.heap) σ H s :=
 I.aad λp hp=>(bx.mp hp).elim (λz=>I.pin p (fu _ z)) λz=>by obtain⟨Z,e⟩:=ajp z;obtain⟨f0,f1,f2,_⟩:=hf p.1 Z;obtain⟨o,G,d⟩:=R p.1 Z;rw[e] at G;cases G;exact⟨e,f0,f1,f2,d⟩
def Inv.Nb{X:Cx}(I:Inv X (pins++G) σ H s):Inv X pins σ H s:=I.aad λp Z=>I.pin p (fu _ (ig _ Z))
def azm{X:Cx}{tg:Expr}(hp:PassesOwn (model X.prog X.w) X.A X.env X.xe)(hc:X.calm=true)(hi:PI X tg iter wi)(hg:PG X tg g)(hb:Nx X body tb)(hs:∀x,foldedSetIterable iter X.env x=pure x:=by intro _;rfl):PS X (.For tg iter body [] pos) (bdg wi g tb):=by
 intro G s σ H D I h;refine wpAny_For (Bc (hi G s σ H _ I h) λv s1 h1=>Bc h1 λzw s2 h2=>?_) hs;obtain⟨it,fp,tn,J,H2,e,I2,T,q5,f2,W,⟨m0,w0⟩,q1⟩:=h2;subst e;have q0:∀{H':Hp},(∀b∈fp,H' b=none)->∀b∈fp,Ud X G H' b:=λhn b hb=>⟨hn b hb,(f2 b hb).2⟩
 refine codeAny_forLoop_any (λn s'=>∃i U H',Inv X G U H' s'/\tn i s'.heap/\(∀b∈fp,H' b=none)/\W i n U H') ?_ m0 ⟨0,σ,H2,I2,q5,λb hb=>(f2 b hb).1,w0⟩;rintro n s3 ⟨i,qq,H3,I3,q4,q3,w3⟩;rcases q1 i n qq H3 w3 with⟨q2,qn⟩|⟨go,N,hN,step⟩
 .refine ql hp (Bc (T.done X rfl rfl rfl hc i G s3 qq H3 X.xe I3 (q0 q3) q4 q2) λr s4 z_=>?_)
  obtain⟨hr,I4⟩:=z_;subst hr;exact wpAny_execs_nil ⟨qq,H3,I4,qn⟩
 .refine ql hp (Bc (T.item X rfl rfl rfl hc i G s3 qq H3 X.xe I3 (q0 q3) q4 go) λr s4 z_=>?_)
  obtain⟨u,hr,h4⟩:=z_;subst hr;refine ql hp (Bc h4 λ_ s5 z_=>?_);obtain⟨x,H5,I5,r5,y5,qv,zv⟩:=z_;have zz:=I5.pinned (q0 zv) (T.obj _ _ qv);refine ql hp (Bc (hg _ s5 qq H5 x u _ zz r5 (step x H5 y5)) λ_ s6 z_=>?_);obtain⟨zk,H6,I6,q6⟩:=z_;refine ql hp (Bc (hb _ s6 zk H6 _ I6 q6) λf s7 q7=>?_);have qk:∀{Z:St}{H7:Hp},Inv X (G++R8 fp s5.heap) Z H7 s7->N Z H7->∃m,m<n/\∃i U H',Inv X G U H' s7/\tn i s7.heap/\(∀b∈fp,H' b=none)/\W i m U H':=fun{Z H7} R n7=>by obtain⟨m',hm,w7⟩:=hN Z H7 n7;refine⟨m',hm,i+1,Z,H7,R.Nb,T.keep _ _ _ qv λb hb o e=>(R.pin (b,o) (fu _ (fu _ (Kw hb e)))).1,λb hb=>?_,w7⟩;obtain⟨o,e,d⟩:=T.obj _ _ qv b hb;exact(R.pin (b,o) (fu _ (fu _ (Kw hb e)))).2.1
  cases f with
  |next=>obtain⟨Z,H7,R,n7⟩:=q7;exact qk R n7
  |cont=>obtain⟨Z,H7,R,n7⟩:=q7;exact qk R n7
  |brk=>obtain⟨Z,H7,R,q7⟩:=q7;exact⟨Z,H7,R.Nb,q7⟩
  |ret v=>obtain⟨x7,Z,H7,R,r7,q7⟩:=q7;exact⟨x7,Z,H7,R.Nb,r7,q7⟩
end L2
namespace L2
open PySem PySem.Spec PyProof.Rows
abbrev R2:=V->V->Hp->VK->Prop
def Dd(X:Cx)(f:Value->Value->Sem Value)(r:R2):Prop :=
 ∀(Z:Zp)(s:Shared)(G:St)(H:Hp)(x y:V)(v u:Value)(Q:VK),Inv X Z G H s->RelV x v->RelV y u->r x y H Q ->
  wpAny (model X.prog X.w) X.A (f v u) (EP X Z G Q) X.xe s
def UnR(X:Cx)(f:Value->Sem Value)(r:V->Hp->VK->Prop):Prop :=
 ∀(Z:Zp)(s:Shared)(G:St)(H:Hp)(x:V)(v:Value)(Q:VK),Inv X Z G H s->RelV x v->r x H Q ->
  wpAny (model X.prog X.w) X.A (f v) (EP X Z G Q) X.xe s
def Bw(X:Cx)(f:Value)(r:List V->Hp->VK->Prop):Prop :=
 ∀(Z:Zp)(s:Shared)(R:St)(H:Hp)(G:List V)(U:Zl)(Q:VK),Inv X Z R H s->Vals G U->r G H Q ->
  wpAny (model X.prog X.w) X.A (call f U) (EP X Z R Q) X.xe s
def bdk(X:Cx)(r:V->Hp->(Bool->Hp->Prop)->Prop):Prop :=
 ∀(Z:Zp)(s:Shared)(G:St)(H:Hp)(x:V)(v:Value)(Q:Bool->Hp->Prop),Inv X Z G H s->RelV x v->r x H Q ->
  wpAny (model X.prog X.w) X.A (truthy v) (TP X Z G Q) X.xe s
def tOp(r:R2)(U G:TE):TE:=λZ H Q=>U Z H λx H1=>G Z H1 λy R=>r x y R Q
def tUn(r:V->Hp->VK->Prop)(Z:TE):TE:=λU H Q=>Z U H λx G=>r x G Q
def rI(C:Int->Int->Prop)(g:Int->Int->V):R2:=λx y H Q=>∃i j,x=.int i/\y=.int j/\C i j/\Q (g i j) H
def rI0(g:Int->Int->V):R2:=λx y H Q=>∃i j,x=.int i/\y=.int j/\Q (g i j) H
def rU(g:Int->V):V->Hp->VK->Prop:=λx H Q=>∃i,x=.int i/\Q (g i) H
def azo{X:Cx}{a b:Expr}{ta tb:TE}(ha:PE X a ta)(hb:PE X b tb){Z:Zp}{s:Shared}{U:St}{H:Hp}{R:V->V->Hp->Prop}(I:Inv X Z U H s)
 (h:ta U H λx H1=>tb U H1 λy G=>R x y G) {Q:Y1} {f:Value->Value->Sem Value}
 (hf:∀v u s2 x y G,Inv X Z U G s2->RelV x v->RelV y u->R x y G->wpAny (model X.prog X.w) X.A (f v u) Q X.xe s2) :
 wpAny (model X.prog X.w) X.A (eval a X.env) (λv qk=>wpAny (model X.prog X.w) X.A (eval b X.env) (λu qq=>wpAny (model X.prog X.w) X.A (f v u) Q X.xe qq) X.xe qk) X.xe s:=by
 refine Bc (ha Z s U H _ I h) λv s1 z_=>?_
 obtain⟨x,H1,I1,r1,q1⟩:=z_;refine Bc (hb Z s1 U H1 _ I1 q1) λu s2 z_=>?_
 obtain⟨y,G,I2,r2,q2⟩:=z_;exact hf v u s2 x y G I2 r1 r2 q2
def a6c{X:Cx}{a b:Expr}{R U:TE}{G:Pos}{op:Operator}{r:R2}(ho:Dd X (binaryOp op) r)(ha:PE X a R)(hb:PE X b U):PE X (.BinOp a op b G) (tOp r R U):=by intro Z s σ H Q I h;exact wpAny_BinOp (azo ha hb I h λv u s2 x y H2 I2 rx ry q=>ho Z s2 σ H2 x y v u Q I2 rx ry q)
def awm{X:Cx}{a:Expr}{U:TE}{G:Pos}{op:UnaryOp}{r:V->Hp->VK->Prop}(ho:UnR X (unaryOp op) r)(ha:PE X a U):PE X (.UnaryOp op a G) (tUn r U):=by intro Z s R H Q I h;exact UnaryOp_ (Bc (ha Z s R H _ I h) λv s1 ⟨x,H1,I1,r1,q1⟩=>ho Z s1 R H1 x v Q I1 r1 q1)
def opI{X:Cx}{f:Value->Value->Sem Value}{C:Int->Int->Prop}{g:Int->Int->Int}
 (Z:∀(i j:Int)(t u:Tok)(s:Shared)(Q:Y1)(E:Y1),C i j->Q (.int (g i j) s.toks) { s with toks:=s.toks+1 }->wpAny (model X.prog X.w) X.A (f (.int i t) (.int j u)) Q E s) :
 Dd X f (rI C λi j=>.int (g i j)):=by
 intro G s σ H x y v u Q I rx U h;obtain⟨i,j,rfl,rfl,hc,q⟩:=h;obtain⟨t,rfl⟩:=rx;obtain⟨R,rfl⟩:=U;exact Z i j t R s _ _ hc ⟨.int (g i j),H,I.tok _,⟨_,rfl⟩,q⟩
def a6d{X:Cx}{f:Value->Value->Sem Value}{g:Int->Int->Int}
 (Z:∀(i j:Int)(t u:Tok)(s:Shared)(Q:Y1)(E:Y1),Q (.int (g i j) s.toks) { s with toks:=s.toks+1 }->wpAny (model X.prog X.w) X.A (f (.int i t) (.int j u)) Q E s) :
 Dd X f (rI0 λi j=>.int (g i j)):=by
 intro G s σ H x y v u Q I rx U h;obtain⟨i,j,rfl,rfl,q⟩:=h;obtain⟨t,rfl⟩:=rx;obtain⟨R,rfl⟩:=U;exact Z i j t R s _ _ ⟨.int (g i j),H,I.tok _,⟨_,rfl⟩,q⟩
def asy{X:Cx}{f:Value->Value->Sem Value}{g:Int->Int->Bool}
 (Z:∀(i j:Int)(t u:Tok)(s:Shared)(Q:Y1)(E:Y1),Q (.bool (g i j)) s->wpAny (model X.prog X.w) X.A (f (.int i t) (.int j u)) Q E s) :
 Dd X f (rI0 λi j=>.bl (g i j)):=by
 intro G s σ H x y v u Q I rx U h;obtain⟨i,j,rfl,rfl,q⟩:=h;obtain⟨t,rfl⟩:=rx;obtain⟨R,rfl⟩:=U;exact Z i j t R s _ _ ⟨.bl (g i j),H,I,rfl,q⟩
def bdl(i j:Int):Prop:=0<j/\j<1073741824
def bdm(i j:Int):Prop:=0<=j/\j<=1000000/\i.natAbs<2 ^ 64
def asz(i j:Int):Prop:=(-(2 ^ 64)<i/\i<2 ^ 64)\/(-(2 ^ 64)<j/\j<2 ^ 64)
def asz.ok{i j:Int}(h:asz i j):IntMulOk i j:=by
 rcases h with⟨G,Z⟩|⟨G,Z⟩
 .exact .of_left (intBits_le_64 G Z)
 .exact .of_right (intBits_le_64 G Z)
def azp{X:Cx}:Dd X (binaryOp .Add) (rI0 λi j=>.int (i+j)):=a6d λ_ _ _ _ _ _ _ q=>add_int q
def azq{X:Cx}:Dd X (binaryOp .Sub) (rI0 λi j=>.int (i-j)):=a6d λ_ _ _ _ _ _ _ q=>sub_int q
def azr{X:Cx}:Dd X (binaryOp .Mult) (rI asz λi j=>.int (i*j)):=opI λ_ _ _ _ _ _ _ Z q=>mul_int q Z.ok
def as3{X:Cx}:Dd X (binaryOp .FloorDiv) (rI bdl λi j=>.int (i / j)):=opI λi j _ _ _ _ _ Z q=>by
 have U:(0:Int)<j:=Z.1
 have G:j<1073741824:=Z.2
 exact floordiv_int (by lia) (by rw[Int.fdiv_eq_ediv_of_nonneg i (by lia)];exact q) (.inl (PyProof.noPylong_small (by omega)))
def azs{X:Cx}:Dd X (binaryOp .Mod) (rI (λ_ j=>0<j) λi j=>.int (i%j)):=opI λi j _ _ _ _ _ Z q=>by
 have G:(0:Int)<j:=Z
 exact mod_int' (by lia) (by rw[Int.fmod_eq_emod_of_nonneg i (by lia)];exact q)
def azt{X:Cx}:Dd X (binaryOp .Pow) (rI bdm λi j=>.int (i ^ j.toNat)):=opI λ_ _ _ _ _ _ _ Z q=>pow_int_small Z.1 Z.2.1 Z.2.2 q
def unI{X:Cx}{f:Value->Sem Value}{g:Int->Int}
 (Z:∀(i:Int)(t:Tok)(s:Shared)(Q:Y1)(E:Y1),Q (.int (g i) s.toks) { s with toks:=s.toks+1 }->wpAny (model X.prog X.w) X.A (f (.int i t)) Q E s) :
 UnR X f (rU λi=>.int (g i)):=by
 intro G s R H x v Q I U h;obtain⟨i,rfl,q⟩:=h;obtain⟨t,rfl⟩:=U;exact Z i t s _ _ ⟨.int (g i),H,I.tok _,⟨_,rfl⟩,q⟩
def anm{X:Cx}:UnR X (unaryOp .USub) (rU λi=>.int (-i)):=unI λ_ _ _ _ _ q=>neg_int q
noncomputable def azu:V->V->Bool
 |.non,.non=>true|.non,.int _=>true|.int _,.non=>true|.non,.bl _=>true|.bl _,.non=>true|.non,.str _=>true|.str _,.non=>true
 |.int _,.int _=>true|.bl _,.bl _=>true|.str _,.str _=>true|.byt _,.byt _=>true
 |.int _,.str _=>true|.str _,.int _=>true|.bl _,.str _=>true|.str _,.bl _=>true
 |_,_=>false
def rEq:R2:=λx y H Q=>azu x y=true/\Q (.bl (decide (x=y))) H
def rNe:R2:=λx y H Q=>azu x y=true/\Q (.bl (!decide (x=y))) H
def ahj{i j:Int}:decide (V.int i=V.int j)=(i==j):=by rw[yq];simp
def ano{i j:Bool}:decide (V.bl i=V.bl j)=(i==j):=by rw[yq];simp
def ahk{i j:Str}:decide (V.str i=V.str j)=(i==j):=by rw[yq];simp
def ahl{i j:Array UInt8}:decide (V.byt i=V.byt j)=(i.toList==j.toList):=by rw[yq];cases i;cases j;simp
def xj{X:Cx}{Z:Zp}{G:St}{H:Hp}{s:Shared}{Q:VK}{k U:Bool}(I:Inv X Z G H s)(q:Q (.bl k) H)(e:k=U):EP X Z G Q (.bool U) s:=by subst e;exact⟨.bl k,H,I,rfl,q⟩
def a6e{X:Cx}:Dd X (compareOp .Eq) rEq:=by
 intro qq s σ H x y v u Q I R Z h;obtain⟨U,q⟩:=h;cases x with
 |non =>
  cases R;cases y with
  |non=>cases Z;exact PySem.EqNone.eq_none_none (xj I q (by simp))|bl j=>cases Z;exact PySem.EqNone.eq_none_bool (xj I q (by simp))|int j=>obtain⟨G,rfl⟩:=Z;exact PySem.EqNone.eq_none_int (xj I q (by simp))
  |str j=>obtain⟨G,rfl⟩:=Z;exact PySem.EqNone.eq_none_str (xj I q (by simp))
  |_=>exact absurd (show false=true from U) dw
 |bl i =>
  cases R;cases y with
  |non=>cases Z;exact PySem.EqNone.eq_bool_none (xj I q (by simp))|bl j=>cases Z;exact eq_bool (xj I q ano)|str j=>obtain⟨G,rfl⟩:=Z;exact PySem.EqMixed.eq_bool_str (xj I q (by simp))
  |_=>exact absurd (show false=true from U) dw
 |int i =>
  obtain⟨t,rfl⟩:=R;cases y with
  |non=>cases Z;exact PySem.EqNone.eq_int_none (xj I q (by simp))|int j=>obtain⟨G,rfl⟩:=Z;exact eq_int (xj I q ahj)
  |str j=>obtain⟨G,rfl⟩:=Z;exact PySem.EqMixed.eq_int_str (xj I q (by simp))
  |_=>exact absurd (show false=true from U) dw
 |str i =>
  obtain⟨t,rfl⟩:=R;cases y with
  |non=>cases Z;exact PySem.EqNone.eq_str_none (xj I q (by simp))|bl j=>cases Z;exact PySem.EqMixed.eq_str_bool (xj I q (by simp))|int j=>obtain⟨G,rfl⟩:=Z;exact PySem.EqMixed.eq_str_int (xj I q (by simp))
  |str j=>obtain⟨G,rfl⟩:=Z;exact eq_str (xj I q ahk)
  |_=>exact absurd (show false=true from U) dw
 |byt i =>
  obtain⟨t,rfl⟩:=R;cases y with
  |byt j=>obtain⟨G,rfl⟩:=Z;exact PySem.W.eq_bytes (xj I q ahl)
  |_=>exact absurd (show false=true from U) dw
 |_=>cases y<;>exact absurd (show false=true from U) dw
def a6f{X:Cx}:Dd X (compareOp .NotEq) rNe:=by
 intro qq s σ H x y v u Q I R Z h;obtain⟨U,q⟩:=h;cases x with
 |non =>
  cases R;cases y with
  |non=>cases Z;exact PySem.EqNone.ne_none_none (xj I q (by simp))|bl j=>cases Z;exact PySem.EqNone.ne_none_bool (xj I q (by simp))|int j=>obtain⟨G,rfl⟩:=Z;exact PySem.EqNone.ne_none_int (xj I q (by simp))
  |str j=>obtain⟨G,rfl⟩:=Z;exact PySem.EqNone.ne_none_str (xj I q (by simp))
  |_=>exact absurd (show false=true from U) dw
 |bl i =>
  cases R;cases y with
  |non=>cases Z;exact PySem.EqNone.ne_bool_none (xj I q (by simp))|bl j=>cases Z;exact ne_bool (xj I q (o9 not ano))|str j=>obtain⟨G,rfl⟩:=Z;exact PySem.EqMixed.ne_bool_str (xj I q (by simp))
  |_=>exact absurd (show false=true from U) dw
 |int i =>
  obtain⟨t,rfl⟩:=R;cases y with
  |non=>cases Z;exact PySem.EqNone.ne_int_none (xj I q (by simp))|int j=>obtain⟨G,rfl⟩:=Z;exact ne_int (xj I q (o9 not ahj))
  |str j=>obtain⟨G,rfl⟩:=Z;exact PySem.EqMixed.ne_int_str (xj I q (by simp))
  |_=>exact absurd (show false=true from U) dw
 |str i =>
  obtain⟨t,rfl⟩:=R;cases y with
  |non=>cases Z;exact PySem.EqNone.ne_str_none (xj I q (by simp))|bl j=>cases Z;exact PySem.EqMixed.ne_str_bool (xj I q (by simp))|int j=>obtain⟨G,rfl⟩:=Z;exact PySem.EqMixed.ne_str_int (xj I q (by simp))
  |str j=>obtain⟨G,rfl⟩:=Z;exact ne_str (xj I q (o9 not ahk))
  |_=>exact absurd (show false=true from U) dw
 |byt i =>
  obtain⟨t,rfl⟩:=R;cases y with
  |byt j=>obtain⟨G,rfl⟩:=Z;exact PySem.W.ne_bytes (xj I q (o9 not ahl))
  |_=>exact absurd (show false=true from U) dw
 |_=>cases y<;>exact absurd (show false=true from U) dw
def a6g{X:Cx}:Dd X (compareOp .Lt) (rI0 λi j=>.bl (decide (i<j))):=asy λ_ _ _ _ _ _ _ q=>lt_int q
def a6h{X:Cx}:Dd X (compareOp .LtE) (rI0 λi j=>.bl (decide (i<=j))):=asy λ_ _ _ _ _ _ _ q=>le_int q
def a6i{X:Cx}:Dd X (compareOp .Gt) (rI0 λi j=>.bl (decide (j<i))):=asy λ_ _ _ _ _ _ _ q=>gt_int q
def a6j{X:Cx}:Dd X (compareOp .GtE) (rI0 λi j=>.bl (decide (j<=i))):=asy λ_ _ _ _ _ _ _ q=>ge_int q
def Dd.or{X:Cx}{f:Value->Value->Sem Value}{r r':R2}(h:Dd X f r)(h':Dd X f r'):Dd X f (λx y H Q=>r x y H Q\/r' x y H Q):=by
 intro Z s U H x y v u Q I R G q;rcases q with q|q
 .exact h Z s U H x y v u Q I R G q
 .exact h' Z s U H x y v u Q I R G q
def as4{X:Cx}{a b:Expr}{ta R:TE}{U:Pos}{G:CmpOp}{r:R2}(ho:Dd X (compareOp G) r)(ha:PE X a ta)(hb:PE X b R)(hm:behindInMarks G b=false):PE X (.Compare a [G] [b] U) (tOp r ta R):=by intro Z s σ H Q I h;exact wpAny_Compare1 (azo ha hb I h λv u s2 x y H2 I2 rx ry q=>ho Z s2 σ H2 x y v u Q I2 rx ry q) hm
def awn(t:TE):TT:=λG H Q=>t G H λx Z=>∃k,x=.bl k/\Q k Z
def as5{X:Cx}{a b:Expr}{ta tb:TE}{R:Pos}{U:CmpOp}{r:R2}(ho:Dd X (compareOp U) r)(ha:PE X a ta)(hb:PE X b tb)(hm:behindInMarks U b=false):PT X (.Compare a [U] [b] R) (awn (tOp r ta tb)):=by
 intro Z s G H Q I h;refine wpAny_isTrue_Compare1 (Bc (ha Z s G H _ I h) λv s1 ⟨x,H1,I1,r1,q1⟩=>Bc (hb Z s1 G H1 _ I1 q1) λu s2 ⟨y,H2,I2,r2,q2⟩ =>
  Bc (ho Z s2 G H2 x y v u _ I2 r1 r2 q2) λc s3 ⟨z,H3,I3,r3,k,e,q3⟩=>?_) hm
 subst e;cases r3;exact j9 ⟨H3,I3,q3⟩
def aaf(r r':R2)(ta R tc:TE):TE:=λZ H Q=>ta Z H λx H1=>R Z H1 λy H2=>r x y H2 λz G=>∃k,z=.bl k /\
 (if k=true then tc Z G λw' U=>r' y w' U Q else Q (.bl false) G)
def anp{X:Cx}{a b c:Expr}{ta tb tc:TE}{qq:Pos}{R G:CmpOp}{r r':R2}(ho:Dd X (compareOp R) r)(qk:Dd X (compareOp G) r')(ha:PE X a ta)(hb:PE X b tb)(hc:PE X c tc)
 (hm:lastMarks [R,G] [b,c]=false:=by with_unfolding_all rfl):PE X (.Compare a [R,G] [b,c] qq) (aaf r r' ta tb tc):=by
 intro Z s U H Q I h;refine Compare_chain (Bc (ha Z s U H _ I h) λv s1 ⟨x,H1,I1,r1,q1⟩=>chain_link (Bc (hb Z s1 U H1 _ I1 q1) λu s2 ⟨y,H2,I2,r2,q2⟩ =>
  Bc (ho Z s2 U H2 x y v u _ I2 r1 r2 q2) λd s3 ⟨z,H3,I3,r3,k,e,q3⟩=>?_)) hm
 subst e;cases r3;refine j9 ?_;cases k with
 |false=>exact ite_ff ⟨.bl false,H3,I3,rfl,q3⟩|true=>exact ite_tt (chain_last (Bc (hc Z s3 U H3 _ I3 q3) λw' s4 ⟨z',H4,I4,r4,q4⟩=>qk Z s4 U H4 y z' u w' Q I4 r2 r4 q4))
def anq{X:Cx}{a b c:Expr}{ta tb tc:TE}{qq:Pos}{R G:CmpOp}{r r':R2}(ho:Dd X (compareOp R) r)(qk:Dd X (compareOp G) r')(ha:PE X a ta)(hb:PE X b tb)(hc:PE X c tc)
 (hm:lastMarks [R,G] [b,c]=false:=by with_unfolding_all rfl):PT X (.Compare a [R,G] [b,c] qq) (awn (aaf r r' ta tb tc)):=by
 intro Z s U H Q I h;refine isTrue_chain (Bc (ha Z s U H _ I h) λv s1 ⟨x,H1,I1,r1,q1⟩=>test_link (Bc (hb Z s1 U H1 _ I1 q1) λu s2 ⟨y,H2,I2,r2,q2⟩ =>
  Bc (ho Z s2 U H2 x y v u _ I2 r1 r2 q2) λd s3 ⟨z,H3,I3,r3,k,e,q3⟩=>?_)) hm
 subst e;cases r3;refine j9 ?_;cases k with
 |false =>
  obtain⟨k',e',q'⟩:=q3;cases e';exact ite_ff ⟨H3,I3,q'⟩
 |true =>
  refine ite_tt (test_last (Bc (hc Z s3 U H3 _ I3 q3) λw' s4 ⟨z',H4,I4,r4,q4⟩=>Bc (qk Z s4 U H4 y z' u w' _ I4 r2 r4 q4) λd' s5 z_=>?_));obtain⟨z2,H5,I5,r5,k2,e2,q5⟩:=z_;subst e2;cases r5;exact j9 ⟨H5,I5,q5⟩
def as6(K:Fg)(x:V)(H:Hp)(k:Bool):Prop :=
 match x with
 |.non=>k=false|.bl b=>k=b|.int i=>k=(i != 0)|.str y=>y.length<=sizeLine/\k=((y.length:Int) != 0)|.byt y=>y.size<=sizeLine/\k=((y.size:Int) != 0)|.ref p=>(∃Z,Gm K H p Z/\k=!Z.isEmpty)\/(∃Z,Gu K H p Z/\k=!Z.isEmpty)\/∃G,H p=some (.dK G)/\k=!G.isEmpty|_=>False
def aex{U:Type}{G:List (U×V)}{Z:List (U×Value)}(r:KV G Z):(!Z.isEmpty)=!G.isEmpty:=by cases r<;>rfl
def Wf{Z:List V}{G:Zl}(r:Vals Z G):(!G.toArray.isEmpty)=!Z.isEmpty:=by cases r<;>simp
def Wg:(sizeLine:Nat)<2 ^ 63:=by rw[sizeLine_eq];decide
def anr{X:Cx}:bdk X (λx H Q=>∃k,as6 X.K x H k/\Q k H):=by
 intro qq s σ H x v Q I R h;obtain⟨k,e,q⟩:=h;have hl:=Wg;have hs:sizeLine=16777216:=sizeLine_eq;cases x with
 |non =>
  cases R;have Z:k=false:=e;subst Z;exact truthy_none ⟨H,I,q⟩
 |bl b =>
  cases R;have Z:k=b:=e;subst Z;exact j9 ⟨H,I,q⟩
 |int i =>
  obtain⟨t,rfl⟩:=R;have Z:k=(i != 0):=e;subst Z;exact PySem.P.truthy_int ⟨H,I,q⟩
 |str y =>
  obtain⟨t,rfl⟩:=R;obtain⟨hy,Z⟩:y.length<=sizeLine/\k=((y.length:Int) != 0):=e
  subst Z;exact PySem.P.truthy_str (by lia) ⟨H,I.tok _,q⟩
 |byt y =>
  obtain⟨t,rfl⟩:=R;obtain⟨hy,Z⟩:y.size<=sizeLine/\k=((y.size:Int) != 0):=e
  subst Z;exact PySem.W.truthy_bytes (a_ hy (a_ (f_ hs) (by decide))) ⟨H,I.tok _,q⟩
 |ref p =>
  cases R;have Z:(∃U,Gm X.K H p U/\k=!U.isEmpty)\/(∃U,Gu X.K H p U/\k=!U.isEmpty)\/∃ou,H p=some (.dK ou)/\k=!ou.isEmpty:=e;rcases Z with⟨U,hx,Z⟩|⟨U,hx,Z⟩|⟨ou,hx,Z⟩
  .subst Z
   obtain⟨t6,r,pl,hz⟩:=I.list hx;have G:=r.length;exact wpAny_truthy_list pl.isList (by simp only[dm];lia) ⟨H,I.tok _,by rw[Wf r];exact q⟩
  .subst Z
   obtain⟨t6,r,pl,hz⟩:=I.tuple hx;have G:=r.length;exact truthy_tuple pl (by simp only[dm];lia) ⟨H,I.tok _,by rw[Wf r];exact q⟩
  .subst Z
   obtain⟨hz,hS,vs,r,m⟩:ou.length<=sizeLine/\(p==sysModules)=false/\∃vs,KV ou vs/\s.heap.DictOf (Ao X.prog X.w) p vs:=I.yr p _ hx
   have G:ou.length=vs.length:=Paired.length r;exact wpAny_truthy_dict hS m (by lia) ⟨H,I.tok _,by rw[aex r];exact q⟩
 |_=>exact(show False from e).elim
def ant{X:Cx}{a:Expr}{R:TE}(ha:PE X a R)(he:∀Z,isTrue a X.env Z=(do let v <- Z;standAt a.pos;holding [v] (truthy v))) :
 PT X a (λU H Q=>R U H λx H'=>∃k,as6 X.K x H' k/\Q k H'):=by
 intro G s U H Q I h;exact isTrue_plain (Bc (ha G s U H _ I h) λv s1 ⟨x,H1,I1,r1,q1⟩=>anr G s1 U H1 x v Q I1 r1 q1) (he _)
def vals1{x:V}{Z:Zl}(r:Vals [x] Z):∃u,Z=[u]/\RelV x u:=by
 cases r with
 |cons G U=>cases U;exact⟨_,rfl,G⟩
def vals2{x y:V}{Z:Zl}(r:Vals [x,y] Z):∃u w',Z=[u,w']/\RelV x u/\RelV y w':=by
 cases r with
 |cons r1 R =>
  cases R with
  |cons U G=>cases G;exact⟨_,_,rfl,r1,U⟩
def ajq{X:Cx}(R:X.calm=true):Bw X (.builtin "max") (λG H Q=>∃i j,G=[.int i,.int j]/\Q (.int (if j > i then j else i)) H):=by
 intro U s σ H G us Q I r h;obtain⟨i,j,rfl,q⟩:=h;obtain⟨u,w',rfl,⟨t,rfl⟩,⟨t',rfl⟩⟩:=vals2 r;refine max_two_ints (I.ok.hd R) λh' tk k=>⟨_,H,I.kept k,?_,q⟩
 by_cases Z:j > i
 .rw[cg Z,cg Z];exact⟨_,rfl⟩
 .rw[bz Z,bz Z];exact⟨_,rfl⟩
def ajr{X:Cx}(R:X.calm=true):Bw X (.builtin "min") (λG H Q=>∃i j,G=[.int i,.int j]/\Q (.int (if j<i then j else i)) H):=by
 intro U s σ H G us Q I r h;obtain⟨i,j,rfl,q⟩:=h;obtain⟨u,w',rfl,⟨t,rfl⟩,⟨t',rfl⟩⟩:=vals2 r;refine min_two_ints (I.ok.hd R) λh' tk k=>⟨_,H,I.kept k,?_,q⟩
 by_cases Z:j<i
 .rw[cg Z,cg Z];exact⟨_,rfl⟩
 .rw[bz Z,bz Z];exact⟨_,rfl⟩
end L2
namespace L2
open PySem PySem.Spec PyProof.Rows
structure aey(h:Heap)(x dx C:Addr)(mA:Zs):Prop where
 obj:h.get? x=some (PySem.W.instObj C dx)
 ns:h.Ns1 dx mA
 ne:dx≠x
set_option tactic.hygienic true in
def ajs{h:Heap}{J:Addr}{C:Zs}(n:h.Ns1 J C):∃G,h.get? J=some G/\∀Z,PySem.W.lookIn Z G=some (C Z):=by
 obtain⟨o,U,ep,L,u,hk,_,hm⟩:=n;refine⟨o,L,λZ=>?_⟩;have e:=hm Z;unfold nsFind findBy at e;rw[<- Array.find?_toList] at e;unfold PySem.W.lookIn;rw[u];dsimp only;split
 .rename_i y q
  rw[q] at e;exact o9 some e
 .rename_i q
  rw[q] at e;have a:U.toList.any (·.refKey)=false:=by rw[List.any_eq_false];intro y R;obtain⟨z,t,Y⟩:=hk y (Array.mem_toList_iff.mp R);simp[DictEntry.refKey,Y]
  have S:¬U.toList.any (·.refKey)=true:=by rw[a];exact dw
  rw[bz S];exact o9 some e
def aey.look{h:Heap}{x U C:Addr}{R:Zs}(I:aey h x U C R):∃G,PySem.W.InstAt h x (PySem.W.instObj C U) C (some G)/\∀Z,PySem.W.lookIn Z G=some (R Z) :=
 let ⟨G,ho,hl⟩:=ajs I.ns
 ⟨G,⟨I.obj,rfl,rfl,ho⟩,hl⟩
def get_map{prog:Program}{w:World}{A:Around}{E:Y1}{s:Shared}{K:Fg}{x dx C:Addr}{R:Zs}{Z:Str}{v:Value}{G:Bool}{Q:Y1}(X:K.In s.heap)(I:aey s.heap x dx C R)(hg:PySem.W.plainGet K C Z=true)(hh:PySem.W.hasDictIn K C=true)
 (ha:PySem.W.findIn K (.ref C) Z=some none) (hv:R Z=some v) (U:PySem.W.handedIn v=true) (h:Q v { s with toks:=s.toks+1 }) :
 wpAny (model prog w) A (getAttr (.ref x) Z G) Q E s:=by
 obtain⟨od,J,hl⟩:=I.look;exact PySem.W.get_value X J (PySem.W.plainGet_of hg).1 (PySem.W.findObj_own hh ha rfl (by rw[hl,hv])) U h
def anu{prog:Program}{w:World}{A:Around}{E:Y1}{s:Shared}{K:Fg}{x dx C f:Addr}{U:Zs}{Z:Str}{R:Sem Bool}{Q:Value×List Value->Shared->Prop}(X:K.In s.heap)(I:aey s.heap x dx C U)(G:PySem.W.plainGet K C Z=true)
 (hf:PySem.W.findIn K (.ref C) Z=some (some (.ref f))) (ht:PySem.W.isFn K (.ref f)=true) (hv:U Z=none) (h:Q (.ref f,[.ref x]) s) :
 wpAny (model prog w) A (getMethod (.ref x) Z R) Q E s:=by
 obtain⟨od,J,hl⟩:=I.look;exact PySem.W.method_fn X J (PySem.W.plainGet_of G).1 (PySem.W.plainGet_of G).2 hf (xn.mp ht) (by show(PySem.W.lookIn Z od).map (·.isSome)=some false;rw[hl,hv];rfl) h
def as7{prog:Program}{w:World}{A:Around}{E:Y1}{s:Shared}{K:Fg}{x G C:Addr}{mA:Zs}{Z:Str}{v:Value}{ns:Yf}{Q:Unit->Shared->Prop}(X:K.In s.heap)(I:aey s.heap x G C mA)
 (hs:PySem.W.findIn K (.ref C) "__setattr__" = some (some (.builtin "object.__setattr__"))) (hp:PySem.W.plainOver K C=true) (ht:PySem.W.takerIn K C Z=some none) (hh:PySem.W.hasDictIn K C=true)
 (hw:PySem.Within mA ns) (q1:ns.length<=sizeLine)
 (h:∀h',aey h' x G C (λy=>if y=Z then some v else mA y)->Heap.SameBut G s.heap h'->Q () { s with heap:=h',toks:=s.toks+2 }) :
 wpAny (model prog w) A (setAttr (.ref x) Z v) Q E s:=by
 obtain⟨od,J,hl⟩:=I.look;refine PySem.W.set_plain X J hs (PySem.W.osa_open (s:={ s with toks:=s.toks+1 }) (r:=none) X J hp ht λb=>?_);obtain⟨cd,hc,q0⟩:=PySem.W.any_some hh;have hx:s.heap.get? x=some ⟨.ref C,some G,.plain,#[]⟩:=I.obj;refine aa (aj (aa (aa (wpAny_loadPart hx (aa (PySem.W.Looks.here (s:={ s with toks:=s.toks+1 }) (PySem.W.looks_clsIn X hc) ?_))))));rw[q0];refine aj (a:=some G) (aa (aj (aa ?_)));refine wpAny_nsSet1 (s:={ s with toks:=s.toks+1 }) I.ns λh' U R=>?_
 obtain⟨oD,q2,q3,qv,qq,qk⟩:=U.count (PySem.Within.cons Z v hw);refine aa (wpAny_lookBehind qv (by rw[qq];exact pastItsLine_dict (au qk (by rw[gj];exact v_ q1))) ?_);exact aj (h _ ⟨(R.2 _ (jy I.ne)).trans I.obj,U,I.ne⟩ R)
def anv{prog:Program}{w:World}{A:Around}{s:Shared}{K:Fg}{C f:Addr}{R:Result->Shared->Prop}{G:Zl}{U:List (Str×Value)}(X:K.In s.heap)(hm:PySem.W.makesIn K C=true)
 (hi:PySem.W.findIn K (.ref C) "__init__" = some (some (.ref f))) (hf:PySem.W.typeIn K (.ref f)=some (.type "function"))
 (h:codeAny (model prog w) (A.under (.builtin "type.__call__" ⟨.ref C::G,U⟩)) (.call (.ref f) ⟨.ref (s.heap.objs.size+1)::G,U⟩) (PySem.W.InitBack (s.heap.objs.size+1) R)
  { s with heap:=(s.heap.push PySem.W.emptyDict).push (PySem.W.instObj C s.heap.objs.size) }) :
 codeAny (model prog w) A (.call (.ref C) ⟨G,U⟩) R s:=by
 obtain⟨hh,g,d,t,os⟩:=s;exact PySem.W.make_core (PySem.W.makes_of X hm) (za X hi) (λZ=>PySem.W.bind_fn X Z hf) (.inl rfl) h
noncomputable def Ie(f:Str)(v:V):List (Str×V)->List (Str×V)
 |[]=>[(f,v)]|(g,x)::r=>if g=f then(g,v)::r else(g,x)::Ie f v r
theorem Tt(f g:Str)(v:V):∀fs:List (Str×V),(Ie f v fs).lookup g=if g=f then some v else fs.lookup g
 |[]=>by
  show List.lookup g [(f,v)]=_
  by_cases h:g=f
  .have Z:(g==f)=true:=xn.mpr h
   simp only[List.lookup,Z,cg h]
  .have Z:(g==f)=false:=yc.mpr h
   simp only[List.lookup,Z,bz h]
 |(k,x)::r=>by
  have U:=Tt f g v r;rw[show Ie f v ((k,x)::r)=(if k=f then(k,v)::r else(k,x)::Ie f v r) from rfl]
  by_cases G:k=f
  .rw[cg G]
   by_cases h:g=k
   .have Z:(g==k)=true:=xn.mpr h
    simp only[List.lookup,Z,cg (h.trans G)]
   .have Z:(g==k)=false:=yc.mpr h
    simp only[List.lookup,Z,bz (λe:g=f=>h (e.trans G.symm))]
  .rw[bz G]
   by_cases h:g=k
   .have Z:(g==k)=true:=xn.mpr h
    simp only[List.lookup,Z,bz (λe:g=f=>G (h.symm.trans e))]
   .have Z:(g==k)=false:=yc.mpr h
    simp only[List.lookup,Z];exact U
theorem R9(f:Str)(v:V):∀fs:List (Str×V),f∈(Ie f v fs).map (·.1)/\∀g,g∈fs.map (·.1)->g∈(Ie f v fs).map (·.1)
 |[]=>⟨by simp[Ie],λg h=>by simp at h⟩
 |(k,x)::r=>by
  obtain⟨U,G⟩:=R9 f v r;rw[show Ie f v ((k,x)::r)=(if k=f then(k,v)::r else(k,x)::Ie f v r) from rfl]
  by_cases Z:k=f
  .rw[cg Z]
   subst Z;exact⟨by simp,λg h=>by simpa using h⟩
  .rw[bz Z]
   refine⟨?_,λg h=>?_⟩
   .rw[dq]
    exact bh _ U
   .rw[dq] at h ⊢
    rcases dh.mp h with e|e
    .exact dh.mpr (.inl e)
    .exact bh _ (G g e)
theorem Tu(f:Str)(v:V):∀fs:List (Str×V),(Ie f v fs).length<=fs.length+1
 |[]=>by simp[Ie]
 |(k,x)::r=>by
  have G:=Tu f v r;rw[show Ie f v ((k,x)::r)=(if k=f then(k,v)::r else(k,x)::Ie f v r) from rfl]
  by_cases Z:k=f
  .rw[cg Z,gj,gj];exact x_
  .rw[bz Z,gj,gj];exact v_ G
def Lj.some_of{v:V}{o:Option Value}(r:Lj (some v) o):∃u,o=some u/\RelV v u:=by
 cases o with
 |none=>exact(show False from r).elim
 |some u=>exact⟨u,rfl,r⟩
def Lj.none_of{o:Option Value}(r:Lj none o):o=none:=by
 cases o with
 |none=>rfl|some u=>exact(show False from r).elim
def aju{v:V}{u:Value}(r:RelV v u):PySem.W.handedIn u=true:=by
 cases v with
 |non=>cases(show u=Value.none from r);rfl
 |bl b=>cases(show u=Value.bool b from r);rfl
 |int i=>obtain⟨t,e⟩:=(show ∃t,u=Value.int i t from r);cases e;rfl
 |str x=>obtain⟨t,e⟩:=(show ∃t,u=Value.str x t from r);cases e;rfl
 |byt b=>obtain⟨t,e⟩:=(show ∃t,u=Value.bytes b t from r);cases e;rfl
 |flt b=>obtain⟨t,e⟩:=(show ∃t,u=Value.float b t from r);cases e;rfl
 |ref a=>cases(show u=Value.ref a from r);rfl
 |ty n=>cases(show u=Value.type n from r);rfl
def Nk{P:Program}{w:World}{H:Hp}{h:Heap}{a C G:Addr}{fs:List (Str×V)}(R:M8 P w H h)(e:H a=some (.ins C G fs)):∃Z,aey h a G C Z/\(∀f,Lj (fs.lookup f) (Z f))/\PySem.Within Z (fs.map (·.1))/\fs.length<=1000/\H G=some (.own a):=by obtain⟨d,z,ne,U,Z,n,r,q⟩:=(show Aq P w H h a (.ins C G fs) from R a _ e);exact⟨Z,⟨U,n,ne⟩,r,q,z,d⟩
structure Cls(K:Fg)(C:Addr):Prop where
 pg:PySem.W.plainGet K C Str.empty=true
 hd:PySem.W.hasDictIn K C=true
 po:PySem.W.plainOver K C=true
 sa:PySem.W.findIn K (.ref C) "__setattr__" = some (some (.builtin "object.__setattr__"))
def Cls.get{K:Fg}{C:Addr}(c:Cls K C)(f:Str):PySem.W.plainGet K C f=true:=c.pg
def Hx(K:Fg)(C:Addr)(f:Str):Prop:=PySem.W.findIn K (.ref C) f=some none
def Hx.taker{K:Fg}{C:Addr}{f:Str}(n:Hx K C f):PySem.W.takerIn K C f=some none:=by unfold PySem.W.takerIn;rw[show PySem.W.findIn K (.ref C) f=some none from n];rfl
structure Meth(K:Fg)(C:Addr)(m:Str)(f:Addr):Prop where
 at_:PySem.W.findIn K (.ref C) m=some (some (.ref f))
 fn:PySem.W.isFn K (.ref f)=true
 kp:PySem.W.keepIn K (.ref f)=true
def ae0{X:Cx}{Z:Zp}{G:St}{H:Hp}{s:Shared}{a C dx:Addr}{fs:List (Str×V)}{f:Str}{v:V}{A:Around}{E:Y1}{b:Bool}{Q:Y1}(I:Inv X Z G H s)(e:H a=some (.ins C dx fs))(c:Cls X.K C)(n:Hx X.K C f)(l:fs.lookup f=some v)
 (h:∀u R,Inv X Z G H R->RelV v u->Q u R):wpAny (model X.prog X.w) A (getAttr (.ref a) f b) Q E s:=by
 obtain⟨mA,O,r,_,_,_⟩:=Nk I.yr e;obtain⟨u,hu,U⟩:=Lj.some_of (v:=v) (o:=mA f) (by rw[<- l];exact r f);exact get_map I.kIn O (c.get f) c.hd n hu (aju U) (h u _ (I.tok _) U)
def ae1{X:Cx}{Z:Zp}{U:St}{H:Hp}{s:Shared}{a C dx:Addr}{fs:List (Str×V)}{A:Around}{E:Y1}{m:Str}{g:Addr}{G:Sem Bool}{Q:Value×List Value->Shared->Prop}(I:Inv X Z U H s)(e:H a=some (.ins C dx fs))(c:Cls X.K C)(k:Meth X.K C m g)(l:fs.lookup m=none)
 (h:Q (.ref g,[.ref a]) s):wpAny (model X.prog X.w) A (getMethod (.ref a) m G) Q E s:=by
 obtain⟨mA,O,r,_,_,_⟩:=Nk I.yr e;have R:mA m=none:=Lj.none_of (by rw[<- l];exact r m);exact anu I.kIn O (c.get m) k.at_ k.fn R h
def ae2{X:Cx}{Z:Zp}{σ:St}{H:Hp}{s:Shared}{a C G:Addr}{fs:List (Str×V)}{f:Str}{A:Around}{E:Y1}{y:V}{u:Value}{Q:Unit->Shared->Prop}(I:Inv X Z σ H s)(e:H a=some (.ins C G fs))(c:Cls X.K C)(n:Hx X.K C f)(hl:fs.length<1000)(ry:RelV y u)
 (h:∀s',Inv X Z σ (upd H a (.ins C G (Ie f y fs))) s'->Q () s'):wpAny (model X.prog X.w) A (setAttr (.ref a) f u) Q E s:=by
 obtain⟨mA,O,r,wi,_,R⟩:=Nk I.yr e;have hz:(fs.map (·.1)).length<=sizeLine:=by rw[bu,sizeLine_eq];exact e_ (b_ hl (by decide))
 refine as7 I.kIn O c.sa c.po n.taker c.hd wi hz λh' U sb=>h _ ?_
 have hd:∃o,h'.get? G=some o:=let ⟨o,_,_,e',_⟩:=U.ns;⟨o,e'⟩;refine I.write (x:=a) (e:=G) (by rw[e];exact True.intro) (.inr R) (λb q hb z=>(sb.2 b hb).trans z) hd ?_;refine⟨by rw[jx O.ne];exact R,?_,O.ne,U.obj,_,U.ns,λg=>?_,λg hg=>?_⟩
 .have:=Tu f y fs;exact a_ this hl
 .show Lj ((Ie f y fs).lookup g) (if g=f then some u else mA g)
  rw[Tt]
  by_cases q:g=f
  .rw[cg q,cg q];exact ry
  .rw[bz q,bz q];exact r g
 .by_cases q:g=f
  .rw[q];exact(R9 f y fs).1
  .refine(R9 f y fs).2 g (wi g λz=>hg ?_)
   show(if g=f then some u else mA g)=none;rw[bz q];exact z
def Inv.made{X:Cx}{Z:Zp}{U:St}{H:Hp}{s:Shared}{C:Addr}(I:Inv X Z U H s):Inv X Z U (upd (upd H s.heap.objs.size (.own (s.heap.objs.size+1))) (s.heap.objs.size+1) (.ins C s.heap.objs.size []))
 { s with heap:=(s.heap.push PySem.W.emptyDict).push (PySem.W.instObj C s.heap.objs.size) }:=by
 have R:(s.heap.push PySem.W.emptyDict).get? s.heap.objs.size=some PySem.W.emptyDict:=bj s.heap rfl;have e2:((s.heap.push PySem.W.emptyDict).push (PySem.W.instObj C s.heap.objs.size)).get? (s.heap.objs.size+1)=some (PySem.W.instObj C s.heap.objs.size):=by
  have:=bj (s.heap.push PySem.W.emptyDict) (o:=PySem.W.instObj C s.heap.objs.size) rfl
  rwa [j5] at this
 have e3:(s.heap.push PySem.W.emptyDict).Ns s.heap.objs.size (λ_=>none):=⟨PySem.W.emptyDict,#[],_,R,rfl,(λe he=>absurd he (by simp)),λ_=>rfl⟩;have I1:=I.laid (a:=s.heap.objs.size) (o:=.own (s.heap.objs.size+1)) (h':=s.heap.push PySem.W.emptyDict) (t':=s.toks) (λb u q=>aq _ q) (bf _) ⟨_,R⟩;refine I1.laid (a:=s.heap.objs.size+1) (o:=.ins C s.heap.objs.size []) (t':=s.toks) (λb u q=>aq _ q) (Nat.le_of_eq (j5 _ _)) ?_;have G:s.heap.objs.size≠s.heap.objs.size+1:=gh (ud _);refine⟨by rw[jx G,q9],ik _,G,e2,λ_=>none,(Heap.Ns1.of_empty e3).at λo q=>aq _ q,λ_=>True.intro,λy hy=>absurd rfl hy⟩
def as8{A:Around}{E:Y1}{prog:Program}{w:World}{Z:Env}{e:Expr}{f:Str}{U:Pos}{s:Shared}{Q:Y1}(R:attributeBase e f Z (eval e Z)=eval e Z)
 (h:wpAny (model prog w) A (eval e Z) (λo G=>wpAny (model prog w) A (getAttr o f true) Q E G) E s):wpAny (model prog w) A (eval (.Attribute e f U) Z) Q E s :=
 Attribute_any_ h (by rw[arm_eval_Attribute,R])
def bdn(K:Fg)(U:TE)(f:Str):TE:=λR H Q=>U R H λx Z=>∃a C G fs v,x=.ref a/\Z a=some (.ins C G fs)/\Cls K C/\Hx K C f/\fs.lookup f=some v/\Q v Z
def bdo(K:Fg)(R tv:TE)(f:Str):TS:=λD Z H=>tv Z H λy H1=>R Z H1 λx U=>∃a C G fs,x=.ref a/\U a=some (.ins C G fs)/\Cls K C/\Hx K C f/\fs.length<1000 /\
 D.nx Z (upd U a (.ins C G (Ie f y fs)))
def azv{X:Cx}{e:Expr}{f:Str}{G:Pos}{U:TE}(he:PE X e U)(hb:attributeBase e f X.env (eval e X.env)=eval e X.env):PE X (.Attribute e f G) (bdn X.K U f):=by intro Z s σ H Q I h;refine as8 hb (Bc (he Z s σ H _ I h) λu s1 z_=>?_);obtain⟨x,H1,R,rx,a,C,dx,fs,v,ex,ea,c,n,l,q⟩:=z_;subst ex;obtain rfl:u=Value.ref a:=rx;exact ae0 R ea c n l λu' s2 I2 ru=>⟨v,H1,I2,ru,q⟩
def azw{X:Cx}{o Z:Expr}{f:Str}{R U:Pos}{ta tv:TE}(ha:PE X o ta)(hv:PE X Z tv)(hs:swapsWith Z (some (.Attribute o f U)) R.line X.env=pure false):PS X (.Assign [.Attribute o f U] Z R) (bdo X.K ta tv f):=by intro G s σ H D I h;refine plainObj_wpAny_Assign_Attribute (Bc (hv G s σ H _ I h) λu s1 ⟨y,H1,I1,ry,q⟩=>Bc (ha G s1 σ H1 _ I1 q) λov s2 ⟨x,H2,I2,rx,a,C,dx,fs,ex,ea,c,n,l,q2⟩=>?_) hs;subst ex;obtain rfl:ov=Value.ref a:=rx;exact ae2 I2 ea c n l ry λs3 I3=>⟨σ,_,I3,q2⟩
end L2
namespace L2
open PySem PySem.Spec PyProof.Rows
structure Fj(k:Nat)(A:Around):Prop where
 hd:A.handled=none
 dp:A.depth+3*k+5<recursionLimit
 un:A.units+16*k+200<cLine
def Fj.mono{j k:Nat}{A:Around}(r:Fj k A)(h:j<=k):Fj j A:=⟨r.hd,by have:=r.dp;lia,by have:=r.un;lia⟩
theorem Fj.deeper{k:Nat}{A:Around}(r:Fj (k+1) A)(Z:Env):Fj k (A.deeper Z) :=
 ⟨r.hd,by have:=r.dp;show A.depth+1+3*k+5<_;lia,by have:=r.un;show A.units+3+16*k+200<_;lia⟩
def ae3{A:Around}{C:Addr}{Z:Zl}{G:List (Str×Value)}:(A.under (.builtin "type.__call__" ⟨.ref C::Z,G⟩)).depth=A.depth+1:=by first|rfl|simp[Around.under,Code.weight,Code.isCreation,Code.isGuard,Code.isCaller,Code.frames,Code.isFrame,guardIds]
def ae4{A:Around}{C:Addr}{Z:Zl}{G:List (Str×Value)}:(A.under (.builtin "type.__call__" ⟨.ref C::Z,G⟩)).units=A.units+1:=by first|rfl|simp[Around.under,Code.cUnits,Code.frames,Code.isFrame]
def Fj.make{k:Nat}{A:Around}(r:Fj (k+1) A)(C:Addr)(Z:Zl)(G:List (Str×Value)):Fj k (A.under (.builtin "type.__call__" ⟨.ref C::Z,G⟩)) :=
 ⟨r.hd,by have:=r.dp;rw[ae3];lia,by have:=r.un;rw[ae4];lia⟩
theorem Fj.depth{k:Nat}{A:Around}(r:Fj k A):A.depth<recursionLimit:=by have:=r.dp;lia
def a6k:TA:=λ_ H Q=>Q [] H
def a6l(U:TE)(tr:TA):TA:=λZ H Q=>U Z H λx H1=>tr Z H1 λG R=>Q (x::G) R
def anw{X:Cx}:PA X [] a6k:=λ_ _ _ _ H Q I h=>Calls.spliced_nil ⟨[],H,I,.nil,h⟩
def ahm{X:Cx}{e:Expr}{G:Ya}{R:TE}{t:TA}(ha:PE X e R)(hr:PA X G t)(hs:starEach (e::G) X.env=(false,eval e X.env)::starEach G X.env:=by rfl):PA X (e::G) (a6l R t):=by intro U Z s σ H Q I h;rw[hs];show wpAny _ _ (spliced ((false,eval e X.env)::backTo U (starEach G X.env))) _ _ s;refine Calls.spliced_cons (Bc (ha Z s σ H _ I h) λu s1 z_=>?_);obtain⟨x,H1,I1,r1,q1⟩:=z_;exact Bc (hr U Z s1 σ H1 _ I1 q1) λus s2 ⟨xs,H2,I2,r2,q2⟩=>⟨x::xs,H2,I2,.cons r1 r2,q2⟩
def bdp(t:TA):TE:=λU H Q=>t U H λZ G=>Z.length<=sizeLine/\∀p,G p=none->Q (.ref p) (upd G p (.tup Z))
def bdq(t:TA):TE:=λU H Q=>t U H λZ G=>Z.length<=sizeLine/\∀p,G p=none->Q (.ref p) (upd G p (.lst Z))
def azx{X:Cx}{R:Ya}{t:TA}{G:Pos}{x1}(h:PA X R t):PE X (.Tuple R x1 G) (bdp t):=by intro Z s σ H Q I hq;refine wpAny_Tuple_spliced (Bc (h G Z s σ H _ I hq) λus U ⟨xs,H1,I1,r,z,q⟩=>⟨by rw[<- r.length];exact z,?_⟩);have hf:H1 U.heap.objs.size=none:=I1.yr.fresh (bf _);refine⟨.ref U.heap.objs.size,upd H1 U.heap.objs.size (.tup xs),I1.laid (t':=U.toks) (λb u e=>aq _ e) (bf _) ?_,rfl,q _ hf⟩;exact⟨z,us,r,Ub.new _ _⟩
def anx{X:Cx}{R:Ya}{t:TA}{G:Pos}(h:PA X R t):PE X (.List R G) (bdq t):=by intro Z s σ H Q I hq;refine wpAny_List_spliced (Bc (h G Z s σ H _ I hq) λus U ⟨xs,H1,I1,r,z,q⟩=>⟨by rw[<- r.length];exact z,?_⟩);have hf:H1 U.heap.objs.size=none:=I1.yr.fresh (bf _);refine⟨.ref U.heap.objs.size,upd H1 U.heap.objs.size (.lst xs),I1.laid (t':=U.toks) (λb u e=>aq _ e) (bf _) ?_,rfl,q _ hf⟩;exact⟨z,us,0,r,bj _ rfl⟩
abbrev Sp:=List V->Hp->VK->XK->Prop
abbrev CXT:=List Env->Hp->Shared->XK->Value->Shared->Prop
structure ae5(P:Program)(w:World)(K:Fg)(mg:Zs)(base:Heap)(A:Around)(outer:List Env)(s:Shared)(H:Hp):Prop where
 frames:A.frames=some outer
 mod:Mod K mg base
 bs:∀b o,base.get? b=some o->s.heap.get? b=some o/\H b=none
 bsz:base.objs.size<=s.heap.objs.size
 O4:s.heap.FunFrames base outer
 frf:∀b∈Lf outer,H b=none
 yr:M8 P w H s.heap
 bare:AllBare s.gens
def CE(Z:List Env)(P:Program)(w:World)(H:Hp)(s:Shared)(Q:VK)(u:Value)(G:Shared):Prop :=
 ∃v U,G.os=s.os/\AllBare G.gens/\Un (Lf Z) [] H U s.heap G.heap/\M8 P w U G.heap/\RelV v u/\Q v U
def CR(U:CXT)(Z:List Env)(P:Program)(w:World)(H:Hp)(s:Shared)(Q:VK)(E:XK)(r:Result)(G:Shared):Prop :=
 match r with
 |.ok (.ret u)=>CE Z P w H s Q u G|.ok _=>False|.error e=>U Z H s E e G
structure Dp(P:Program)(w:World)(K:Fg)(mg:Zs)(base:Heap)(CX:CXT)(k:Nat)(f:Addr)(fd:FuncData)(ps:Yf)(sp:Sp):Prop where
 len:∀vs H Q E,sp vs H Q E->vs.length=ps.length
 run:∀(A:Around)(outer:List Env)(s:Shared)(H:Hp)(args:Args)(us:Zl)(vs:List V)(Q:VK)(E:XK),Fj k A->ae5 P w K mg base A outer s H->BindsTo s fd args (ps.zip us)->Vals vs us->sp vs H Q E ->
  codeAny (model P w) A (.call (.ref f) args) (CR CX outer P w H s Q E) s
def Dp.imp{P:Program}{w:World}{K:Fg}{mg:Zs}{Z:Heap}{CX:CXT}{k:Nat}{f:Addr}{fd:FuncData}{ps:Yf}{sp sp':Sp}(F:Dp P w K mg Z CX k f fd ps sp)
 (h:∀U H Q E,sp' U H Q E->sp U H Q E):Dp P w K mg Z CX k f fd ps sp' :=
 ⟨λU H Q E q=>F.len U H Q E (h _ _ _ _ q),λA G s H R us U Q E hr he hb hv hs=>F.run A G s H R us U Q E hr he hb hv (h _ _ _ _ hs)⟩
def ae5.make{P:Program}{w:World}{K:Fg}{mg:Zs}{G:Heap}{A:Around}{Z:List Env}{s:Shared}{H:Hp}(e:ae5 P w K mg G A Z s H)(C:Addr)(U:Zl)(R:List (Str×Value)) :
 ae5 P w K mg G (A.under (.builtin "type.__call__" ⟨.ref C::U,R⟩)) Z s H:=⟨by first|exact e.frames|(simpa[Around.under,Code.envs,Code.isFrame,pushEnvs] using e.frames),e.mod,e.bs,e.bsz,e.O4,e.frf,e.yr,e.bare⟩
def Inv.env0{X:Cx}{Z:Zp}{G:St}{H:Hp}{s:Shared}(I:Inv X Z G H s):ae5 X.prog X.w X.K X.mg X.base X.A X.stack s H :=
 ⟨I.ok.frames,I.ok.mod,I.bs,au I.ok.bsz I.sz,I.stack,I.Q0,I.yr,I.bare⟩
def Inv.after{X:Cx}{Z:Zp}{R:St}{H:Hp}{s s':Shared}{Q:VK}{u:Value}(I:Inv X Z R H s)(h:CE X.stack X.prog X.w H s Q u s'):EP X Z R Q u s':=by obtain⟨v,H',os,G,un,yr,r,q⟩:=h;obtain⟨hh,g,d,t,U⟩:=s';obtain rfl:U=s.os:=os;exact⟨v,H',I.call (h':=hh) (g':=g) (d':=d) (t':=t) (ch:=[]) un yr G (λb z=>absurd z (by simp)),r,q⟩
def a6m(R:Sp)(G:List V)(E:XK)(t:TA):TE:=λU H Q=>t U H λZ H1=>R (Z++G) H1 Q E
def a6n(C:Addr)(m:Str)(sp:Sp)(R:List V)(E:XK)(ta:TE)(t:TA):TE:=λZ H Q=>ta Z H λx G=>∃a dx fs,x=.ref a/\G a=some (.ins C dx fs)/\fs.lookup m=none /\
 t Z G λU H2=>sp (x::(U++R)) H2 Q E
def a6o(C:Addr)(sp:Sp)(R:List V)(E:XK)(t:TA):TE:=fun σ H Q=>t σ H λU G=>∀x Z,G x=none->G Z=none->Z≠x ->
 sp (.ref x::(U++R)) (upd (upd G Z (.own x)) x (.ins C Z [])) (λv H2=>v=.non/\Q (.ref x) H2) E
def Binds(K:Fg)(R:FuncData)(U:Yf)(G:Zl):Prop :=
 ∀(s:Shared)(Z:Zl),K.In s.heap->(Z++G).length=U.length->BindsTo s R ⟨Z,[]⟩ (U.zip (Z++G))
def Binds.all{K:Fg}{R:FuncData}{G:Yf}(h:∀Z:List Value,Z.length=G.length->bindArgs R ⟨Z,[]⟩=pure (G.zip Z)):Binds K R G []:=λs Z _ U=>by rw[kh] at U ⊢;exact .of_eq (h Z U)
def Passes(U:CXT)(X:Cx)(E:XK):Prop:=∀(Z:Zp)(R:St)(H:Hp)(s:Shared)(e:Value)(G:Shared),Inv X Z R H s->U X.stack H s E e G->X.xe e G
def anz{X:Cx}{CX:CXT}{k:Nat}{f:Addr}{fd:FuncData}{ps:Yf}{sp:Sp}{R:List V}{U:Zl}{E:XK}{Z:Zp}{σ:St}{H:Hp}{s:Shared}{Q:VK}{us:Zl}{vs:List V}(F:Dp X.prog X.w X.K X.mg X.base CX k f fd ps sp)(hr:Fj k X.A)(hb:Binds X.K fd ps U)(hd:Vals R U)(hx:Passes CX X E)
 (I:Inv X Z σ H s) (r:Vals vs us) (h:sp (vs++R) H Q E):wpAny (model X.prog X.w) X.A (call (.ref f) us) (EP X Z σ Q) X.xe s:=by
 have r2:Vals (vs++R) (us++U):=r.append hd;have hl:(us++U).length=ps.length:=by rw[<- r2.length];exact F.len _ _ _ _ h
 refine wpAny_call (codeAny_mono (F.run X.A X.stack s H ⟨us,[]⟩ (us++U) (vs++R) Q E hr I.env0 (hb s us I.kIn hl) r2 h) λr s' G=>?_);cases r with
 |error e=>exact hx Z σ H s e s' I G
 |ok fl =>
  cases fl with
  |ret u=>exact I.after G|next=>exact False.elim G|brk=>exact False.elim G|cont=>exact False.elim G
def ahn{X:Cx}{CX:CXT}{k:Nat}{f:Addr}{fd:FuncData}{R:Yf}{sp:Sp}{Wh:List V}{ds:Zl}{E:XK}{x:Str}{p Z:Pos}{e:Expr}{U:Ya}{t:TA}(F:Dp X.prog X.w X.K X.mg X.base CX k f fd R sp)(hr:Fj k X.A)(hg:Gl X x)(hm:X.mg x=some (.ref f))(hk:PySem.W.keepIn X.K (.ref f)=true)(hb:Binds X.K fd R ds)(hd:Vals Wh ds)(hx:Passes CX X E)
 (ha:PA X (e::U) t) (Ph:(x==("__debug__" : Str))=false:=by decide) (he:starEach (e::U) X.env=(false,eval e X.env)::starEach U X.env:=by rfl) (K5:(backTo Z (starEach U X.env)).any (·.1)=false:=by rfl) :
 PE X (.Call (.Name x p) (e::U) [] Z) (a6m sp Wh E t):=by
 intro G s σ H Q I h;refine o4 (Ny I hg hm ?_ Ph);refine PySem.W.callWith_K (h₀:=X.base) I.ok.mod.kin hk (Bc (ha Z G s σ H _ I h) λus s1 ⟨vs,H1,I1,r,q⟩=>⟨I1.kIn,?_⟩) he K5;exact anz F hr hb hd hx I1 r q
def as9{X:Cx}{CX:CXT}{k:Nat}{f C:Addr}{fd:FuncData}{ps:Yf}{sp:Sp}{Wh:List V}{ds:Zl}{E:XK}{m:Str}{Z G:Pos}{e o:Expr}{R:Ya}{ta:TE}{t:TA}{pl:Sem Bool}(he:PE X o ta)(c:Cls X.K C)(hm:Meth X.K C m f)(F:Dp X.prog X.w X.K X.mg X.base CX k f fd ps sp)(hr:Fj k X.A)(hb:Binds X.K fd ps ds)(hd:Vals Wh ds)(hx:Passes CX X E)(ha:PA X (e::R) t)
 (T8:starEach (e::R) X.env=(false,eval e X.env)::starEach R X.env:=by rfl) (K5:(backTo Z (starEach R X.env)).any (·.1)=false:=by rfl)
 (ht:eval (.Call (.Attribute o m G) (e::R) [] Z) X.env=(do
  let ov <- eval o X.env
  standAt G.atName
  let (f,first) <- holding [ov] (getMethod ov m pl)
  callWith Z f first (backTo Z (starEach (e::R) X.env)) (backToKw Z (keywordEach [] X.env))):=by rfl) :
 PE X (.Call (.Attribute o m G) (e::R) [] Z) (a6n C m sp Wh E ta t):=by
 intro U s σ H Q I h;refine PySem.W.methodCall_KW (pl:=pl) (Bc (he U s σ H _ I h) λu s1 ⟨x,H1,I1,rx,a,dx,fs,ex,ea,l,q⟩=>?_) ht;subst ex;obtain rfl:u=Value.ref a:=rx;refine ae1 I1 ea c hm l ?_;refine PySem.W.callWith_K (first:=[.ref a]) (h₀:=X.base) I.ok.mod.kin hm.kp (Bc (ha Z U s1 σ H1 _ I1 q) λus s2 ⟨vs,H2,I2,r,q2⟩=>⟨I2.kIn,?_⟩) T8 K5;exact anz (us:=.ref a::us) (vs:=.ref a::vs) F hr hb hd hx I2 (.cons rfl r) q2
structure Mk(K:Fg)(C f:Addr):Prop where
 makes:PySem.W.makesIn K C=true
 init:PySem.W.findIn K (.ref C) "__init__" = some (some (.ref f))
 fn:PySem.W.isFn K (.ref f)=true
 kp:PySem.W.keepIn K (.ref C)=true
def aoa{X:Cx}{CX:CXT}{k:Nat}{f C:Addr}{fd:FuncData}{ps:Yf}{sp:Sp}{Wh:List V}{U:Zl}{E:XK}{G:Zp}{σ:St}{H:Hp}{s:Shared}{Q:VK}{us:Zl}{vs:List V}(M:Mk X.K C f)(F:Dp X.prog X.w X.K X.mg X.base CX k f fd ps sp)(hr:Fj (k+1) X.A)(hb:Binds X.K fd ps U)(hd:Vals Wh U)
 (hx:Passes CX X E) (I:Inv X G σ H s) (r:Vals vs us)
 (h:∀x dx,H x=none->H dx=none->dx≠x->sp (.ref x::(vs++Wh)) (upd (upd H dx (.own x)) x (.ins C dx [])) (λv H2=>v=.non/\Q (.ref x) H2) E) :
 wpAny (model X.prog X.w) X.A (call (.ref C) us) (EP X G σ Q) X.xe s:=by
 have hq:=h (s.heap.objs.size+1) s.heap.objs.size (I.yr.fresh (qg _)) (I.yr.fresh (bf _)) (gh (ud _));have R:=Inv.made (C:=C) I;have r2:Vals (V.ref (s.heap.objs.size+1)::(vs++Wh)) (Value.ref (s.heap.objs.size+1)::(us++U)):=.cons rfl (r.append hd);have hl:(Value.ref (s.heap.objs.size+1)::us++U).length=ps.length:=by have e:=r2.length;rw[F.len _ _ _ _ hq] at e;exact e.symm
 refine wpAny_call (anv (f:=f) I.kIn M.makes M.init (xn.mp M.fn) (codeAny_mono (F.run _ X.stack _ _ ⟨Value.ref (s.heap.objs.size+1)::us,[]⟩ (Value.ref (s.heap.objs.size+1)::(us++U)) _ _ E (hr.make C us [])
  (R.env0.make C us []) (hb _ (Value.ref (s.heap.objs.size+1)::us) R.kIn hl) r2 hq) λr s' Z=>?_))
 cases r with
 |error e=>exact hx G σ _ _ e s' R Z
 |ok fl =>
  cases fl with
  |ret u =>
   obtain⟨v,H',I3,rv,ev,q3⟩:=R.after Z;subst ev;exact⟨rv,⟨V.ref (s.heap.objs.size+1),H',I3,rfl,q3⟩⟩
  |next=>exact False.elim Z|brk=>exact False.elim Z|cont=>exact False.elim Z
def aob{X:Cx}{CX:CXT}{k:Nat}{f C:Addr}{R:FuncData}{G:Yf}{sp:Sp}{U:List V}{ds:Zl}{E:XK}{x:Str}{p Z:Pos}(M:Mk X.K C f)(F:Dp X.prog X.w X.K X.mg X.base CX k f R G sp)(hr:Fj (k+1) X.A)(hg:Gl X x)(hm:X.mg x=some (.ref C))(hb:Binds X.K R G ds)(hd:Vals U ds)(hx:Passes CX X E)
 (Ph:(x==("__debug__" : Str))=false:=by decide):PE X (.Call (.Name x p) [] [] Z) (a6o C sp U E a6k):=by
 intro qq s σ H Q I h;refine o4 (Ny I hg hm ?_ Ph);exact PySem.W.callWith_K0 I.kIn M.kp (aoa (us:=[]) M F hr hb hd hx I .nil h)
structure Uy(N P:Yf)(sc:Scope):Prop where
 kind:sc.kind=.function
 co:sc.isCoroutine=false
 gen:sc.isGenerator=false
 nd:N.Nodup
 pre:N.take P.length=P
 par:∀x∈P,sc.names.lookup x=some .local\/sc.names.lookup x=some .cell
 azy:∀y∈sc.names,y.2≠.free
theorem Ys{Z:Str->Option NameKind}{x:Str}:∀{binds:List (Str×Value)}{m:Zs},(∀v,(x,v)∉binds)->bindL Z binds m x=m x
 |[],_,_=>rfl
 |(n,v)::r,m,h=>by
  unfold bindL;rw[Ys λw hw=>h w (bh _ hw)];split
  .have:x≠n:=by rintro rfl;exact h v cz
   simp[this]
  .rfl
theorem Yt{Z:Str->Option NameKind}{x:Str}:∀{binds:List (Str×Value)}{m:Zs},(∀v,(x,v)∉binds)->bindC Z binds m x=m x
 |[],_,_=>rfl
 |(n,v)::r,m,h=>by
  unfold bindC;rw[Yt λw hw=>h w (bh _ hw)];split
  .rfl
  .have:x≠n:=by rintro rfl;exact h v cz
   simp[this]
theorem Yu{Z:Str->Option NameKind}{x:Str}{v:Value}:∀{P:Yf}{G:Zl}{i:Nat}{m:Zs},P.Nodup->P[i]?=some x->G[i]?=some v->Z x=some .local ->
 bindL Z (P.zip G) m x=some v
 |[],_,_,_,_,h,_,_=>by simp at h|_::_,[],_,_,_,_,h,_=>by simp at h
 |p::P,w::G,0,m,nd,h1,h2,hk=>by
  simp at h1 h2;subst h1;subst h2;show bindL Z ((p,w)::P.zip G) m p=_;unfold bindL;rw[Ys λv U=>(kj.mp nd).1 (Af U).1,cg hk];simp
 |p::P,w::G,i+1,m,nd,h1,h2,hk=>by
  show bindL Z ((p,w)::P.zip G) m x=_;unfold bindL;exact Yu (i:=i) (kj.mp nd).2 (by simpa using h1) (by simpa using h2) hk
theorem Yv{Z:Str->Option NameKind}{x:Str}{v:Value}:∀{P:Yf}{G:Zl}{i:Nat}{m:Zs},P.Nodup->P[i]?=some x->G[i]?=some v->Z x≠some .local ->
 bindC Z (P.zip G) m x=some v
 |[],_,_,_,_,h,_,_=>by simp at h|_::_,[],_,_,_,_,h,_=>by simp at h
 |p::P,w::G,0,m,nd,h1,h2,hk=>by
  simp at h1 h2;subst h1;subst h2;show bindC Z ((p,w)::P.zip G) m p=_;unfold bindC;rw[Yt λv U=>(kj.mp nd).1 (Af U).1,bz hk];simp
 |p::P,w::G,i+1,m,nd,h1,h2,hk=>by
  show bindC Z ((p,w)::P.zip G) m x=_;unfold bindC;exact Yv (i:=i) (kj.mp nd).2 (by simpa using h1) (by simpa using h2) hk
noncomputable def start(N:Yf)(Z:List V):St:=Z.map some++List.replicate (N.length-Z.length) none
noncomputable def O6(CX:CXT)(P:Program)(w:World)(K:Fg)(mg:Zs)(base:Heap)(N:Yf)(G:Str)(Z:Scope)(f:Addr)(R:Value)(A:Around)(outer:List Env)(s:Shared)(H:Hp)(E:XK):Cx where
 prog:=P
 w:=w
 K:=K
 mg:=mg
 base:=base
 A:=A.deeper (envOfC G Z s.heap.objs.size f R)
 N:=N
 s₀:=s
 H₀:=H
 env:=envOfC G Z s.heap.objs.size f R
 outer:=outer
 stack:=envOfC G Z s.heap.objs.size f R::outer
 ex:=[]
 calm:=true
 fn:=λ_=>true
 pn:=[]
 xe:=λe s'=>wpAny (model P w) (A.deeper (envOfC G Z s.heap.objs.size f R)) (leaving (envOfC G Z s.heap.objs.size f R) e) (λ_ U=>CX outer H s E e U) (λe' U=>CX outer H s E e' U) s'
def aca{Z:Scope}{n:Nat}{x:Str}(h:Z.names.lookup x=some .cell):∃c,(cellsFrom n Z.names []).lookup x=some c:=by have q:=PySem.W.cellsFrom_some Z.names n [] (.inl h);exact iz.mp q
def ajv{CX:CXT}{P:Program}{w:World}{K:Fg}{mg:Zs}{qq:Heap}{N ps:Yf}{U:Str}{Z:Scope}{f:Addr}{cd:Value}{A:Around}{G:List Env}{s s1:Shared}{H:Hp}{E:XK}{us:Zl}{vs:List V}
 (S:Uy N ps Z) (hd:A.handled=none) (e0:ae5 P w K mg qq A G s H) (hl:vs.length=ps.length) (r:Vals vs us)
 (x:InCallC s s.heap.objs.size (bindL (envOfC U Z s.heap.objs.size f cd).kindOf (ps.zip us) λ_=>none) (cellsFrom (s.heap.objs.size+1) Z.names []) (bindC (envOfC U Z s.heap.objs.size f cd).kindOf (ps.zip us) λ_=>none) s1) :
 Inv (O6 CX P w K mg qq N U Z f cd A G s H E) [] (start N vs) H s1:=by
 have K5:ps.length<=N.length:=by have:=o9 List.length S.pre;rw[List.length_take] at this;lia
 obtain⟨h1,tk,rfl,hk⟩:=x.done;have qk:∀b:Addr,b∉(O6 CX P w K mg qq N U Z f cd A G s H E).ex:=λb z=>absurd (show b∈([]:X1) from z) (by simp)
 refine⟨⟨e0.mod,S.kind,rfl,rfl,bf _,λy z c h1 R=>?_,λy hy=>?_,λy c _ h=>?_,λ_=>hd,Around.frames_deeper e0.frames,.inr ⟨rfl,rfl⟩,λb z=>absurd z (qk b),e0.bs,e0.bsz,λb _ _=>qk b,λb z=>absurd z (qk b),e0.O4,e0.frf⟩,
  rfl,e0.bare,Un.kept hk,⟨_,x.toInCall.ns,λi y v h1 R h3=>?_⟩,λy c h=>⟨_,x.cell y c h⟩,e0.yr.fresh (bf _),λy c h=>?_,λp hp=>absurd (show p∈([]:Zp) from hp) (by simp),e0.yr.kept hk,?_⟩
 .exact name_of_addr x.apart (xx h1) (xx R)
 .have hy:Z.names.lookup y=some .cell\/Z.names.lookup y=some .free:=hy
  rcases hy with hy|hy
  .exact aca hy
  .exact absurd rfl (S.azy _ (xx hy))
 .exact Am (x.above y c (xx h))
 .have hi:i<vs.length:=by
   unfold start at R
   by_cases hi:i<vs.length
   .exact hi
   .rw[n8 (by simpa using hi)] at R
    rw[ur] at R;split at R<;>cases R
  have ha:vs[i]?=some v:=by
   unfold start at R;rw[gw (by simpa using hi),ie] at R;cases e:vs[i]? with
   |none=>rw[e] at R;cases R|some a=>rw[e] at R;cases R;rfl
  obtain⟨u,hu,rv⟩:=r.get ha;have hp:ps[i]?=some y:=by rw[<- S.pre,List.getElem?_take_of_lt (b_ hi (f_ hl))];exact h1
  have qv:ps.Nodup:=by rw[<- S.pre];exact S.nd.sublist (List.take_sublist _ _)
  refine⟨u,rv,?_⟩;rcases S.par y (bc hp) with k|k
  .exact .inl ⟨k,Yu qv hp hu k⟩
  .obtain⟨c,e⟩:=aca (n:=s.heap.objs.size+1) k
   refine .inr ⟨.inl k,c,e,?_⟩;have q:=x.cell y c e;rw[Yv qv hp hu (by show Z.names.lookup y≠_;rw[k];decide)] at q;exact q
 .exact e0.yr.fresh (Am (x.above y c (xx h)))
 .unfold start
  show _=N.length;rw[gr,bu,nu]
  lia
def awo{CX:CXT}{P:Program}{w:World}{K:Fg}{mg:Zs}{qq:Heap}{k:Nat}{f:Addr}{q1 U:Str}{qk:Arguments}{qv:List Stmt}{Z:Scope}{dV kV q3 pm R ct oc:Value}{an od:Option Addr}
 {q5:Array (Option Value)} {N ps:Yf} {sp:Sp} (lk:K.lookup f=some ⟨oc,od,.func (PySem.W.fnOf q1 U qk qv Z dV kV q3 pm an R ct),q5⟩) (q7:PySem.W.codeIn K R U=true) (S:Uy N ps Z)
 (len:∀vs H Q E,sp vs H Q E->vs.length=ps.length)
 (zz:∀(A:Around)(G:List Env)(s:Shared)(H:Hp)(vs:List V)(Q:VK)(E:XK),Fj k (A.deeper (envOfC U Z s.heap.objs.size f R))->sp vs H Q E ->
  ∃t,Nx (O6 CX P w K mg qq N U Z f R A G s H E) qv t/\t { nx:=λ_ H'=>Q .non H',rt:=Q } (start N vs) H) :
 Dp P w K mg qq CX (k+1) f (PySem.W.fnOf q1 U qk qv Z dV kV q3 pm an R ct) ps sp:=by
 refine⟨len,λA G s H zk us vs Q E hr e0 hb r q2=>?_⟩;have hl:=len _ _ _ _ q2;have KX:K.In s.heap:=e0.mod.kin.keeps λb o e=>(e0.bs b o e).1
 have q6:s.heap.NoLimit:=e0.mod.nolimit.keeps λb o e=>(e0.bs b o e).1
 have q4:∀y∈ps.zip us,Z.names.lookup y.1=some .local\/(Z.names.lookup y.1=some .cell/\((cellsFrom (s.heap.objs.size+1) Z.names []).lookup y.1).isSome=true):=λ⟨n,v⟩ hy=>by
  rcases S.par n (Af hy).1 with q|q
  .exact .inl q
  .exact .inr ⟨q,PySem.W.cellsFrom_some _ _ _ (.inl q)⟩
 refine codeAny_call_function hr.depth (KX _ _ lk) rfl S.co S.gen rfl (PySem.W.codeRec_of KX q7) (hb _ _ _ _ ?_);refine wpAny_newFunctionEnv_cells S.kind q4 λzv he s1 x=>?_
 subst he;refine⟨q6.keeps x.toInCall.keep,codeAny_func ?_⟩;obtain⟨t,ht,hq⟩:=zz A G s H vs Q E (hr.deeper _) q2;have I:Inv (O6 CX P w K mg qq N U Z f R A G s H E) [] (start N vs) H s1:=ajv S hr.hd e0 hl r x;refine j6 (ht [] s1 (start N vs) H _ I hq) (λfl s' hs=>?_) λe s' hs=>hs
 have fin:∀{q0:St}{H':Hp}{v:V}{u:Value},Inv (O6 CX P w K mg qq N U Z f R A G s H E) [] q0 H' s'->RelV v u->Q v H'->CE G P w H s Q u s' :=
  fun{q0 H' v u} J rv q=>⟨v,H',J.os,J.bare,J.base,J.yr,rv,q⟩
 cases fl with
 |ret u =>
  obtain⟨v,q0,H',J,rv,q⟩:=hs;exact fin J rv q
 |next =>
  obtain⟨q0,H',J,q⟩:=hs;exact fin (v:=V.non) (u:=Value.none) J rfl q
 |brk =>
  obtain⟨_,_,_,q⟩:=hs;exact False.elim q
 |cont =>
  obtain⟨_,_,_,q⟩:=hs;exact False.elim q
end L2
namespace L2
open PySem PySem.Spec PyProof.Rows
def tCB(r:List V->Hp->VK->Prop)(t:TA):TE:=λU H Q=>t U H λZ G=>r Z G Q
def aod{X:Cx}{x:Str}{p G:Pos}{e:Expr}{U:Ya}{t:TA}{id:String}{r:List V->Hp->VK->Prop}(hc:Bw X (.builtin id) r)(hg:Gl X x)(hm:X.mg x=none)(hv:bootBuiltins x=some (.builtin id))(ha:PA X (e::U) t)(hn:x≠"__name__" := by decide)(Ph:(x==("__debug__" : Str))=false:=by decide)
 (he:starEach (e::U) X.env=(false,eval e X.env)::starEach U X.env:=by rfl) (K5:(backTo G (starEach U X.env)).any (·.1)=false:=by rfl):PE X (.Call (.Name x p) (e::U) [] G) (tCB r t):=by
 intro Z s R H Q I h;refine o4 (Kv I hg hm hv ?_ hn Ph);exact xg (Bc (ha G Z s R H _ I h) λus s1 ⟨vs,H1,I1,r1,q1⟩=>hc Z s1 R H1 vs us Q I1 r1 q1) he K5
def ajw{X:Cx}{x:Str}{p G:Pos}{e:Expr}{U:Ya}{t:TA}{T:String}{r:List V->Hp->VK->Prop}(hc:Bw X (.type T) r)(hg:Gl X x)(hm:X.mg x=none)(hv:bootBuiltins x=some (.type T))(ha:PA X (e::U) t)(hn:x≠"__name__" := by decide)(Ph:(x==("__debug__" : Str))=false:=by decide)
 (he:starEach (e::U) X.env=(false,eval e X.env)::starEach U X.env:=by rfl) (K5:(backTo G (starEach U X.env)).any (·.1)=false:=by rfl):PE X (.Call (.Name x p) (e::U) [] G) (tCB r t):=by
 intro Z s R H Q I h;refine o4 (Kv I hg hm hv ?_ hn Ph);exact qu (Bc (ha G Z s R H _ I h) λus s1 ⟨vs,H1,I1,r1,q1⟩=>hc Z s1 R H1 vs us Q I1 r1 q1) he K5
section
variable{κ:Type}[DecidableEq κ]
def Sd(Z:List (κ×V))(k:κ):Option V:=(Z.find? λkv=>decide (kv.1=k)).map (·.2)
def putK(Z:List (κ×V))(k:κ)(v:V):List (κ×V) :=
 if(Z.any λkv=>decide (kv.1=k))=true then Z.map (λkv=>if kv.1=k then(kv.1,v) else kv) else Z++[(k,v)]
def Q4{p:κ×V}(e:p.1=k):Sd (p::r) k=some p.2:=by simp[Sd,m7,e]
def Q5{p:κ×V}(e:¬p.1=k):Sd (p::r) k=Sd r k:=by simp[Sd,m7,e]
theorem acb(k:κ):∀Z:List (κ×V),(Z.any λkv=>decide (kv.1=k))=(Sd Z k).isSome
 |[]=>rfl
 |p::r=>by
  rw[Aa]
  by_cases e:p.1=k
  .simp only[Q4 e,vo e,Bool.true_or,Option.isSome_some]
  .rw[Q5 e,my e,Bool.false_or];exact acb k r
def Tv(Z:List (κ×V))(k:κ)(v:V):(putK Z k v).length<=Z.length+1:=by
 unfold putK;split
 .rw[bu];exact x_
 .rw[gr,gj,List.length_nil];exact bf _
def Lj.ajx(r:Lj o u):o.isSome=u.isSome:=by
 cases o with
 |none=>cases u with
  |none=>rfl|some _=>exact(show False from r).elim
 |some _=>cases u with
  |none=>exact(show False from r).elim
  |some _=>rfl
theorem Lj.getD(r:Lj o u)(Z:RelV d G):RelV (o.getD d) (u.getD G):=by
 cases o with
 |none=>cases u with
  |none=>exact Z|some _=>exact(show False from r).elim
 |some _=>cases u with
  |none=>exact(show False from r).elim
  |some _=>exact r
def KV.val(r:KV ou U)(k:κ):Lj (Sd ou k) (valueAt U k):=by
 unfold KV at r
 induction r with
 |nil=>exact True.intro
 |@cons p q ps qs h t ih =>
  obtain⟨G,R⟩:=h
  by_cases e:p.1=k
  .have Z:q.1=k:=G.symm.trans e
   have b:valueAt (q::qs) k=some q.2:=by simp[valueAt,m7,Z]
   rw[Q4 e,b];exact R
  .have Z:¬q.1=k:=λz=>e (G.trans z)
   have b:valueAt (q::qs) k=valueAt qs k:=by simp[valueAt,m7,Z]
   rw[Q5 e,b];exact ih
theorem KV.any(r:KV G Z)(k:κ):(G.any λkv=>decide (kv.1=k))=Z.any λkv=>decide (kv.1=k):=by
 unfold KV at r
 induction r with
 |nil=>rfl|cons h t U=>rw[Aa,Aa,U,h.1]
def KV.ae6(r:KV ou G)(k:κ)(R:RelV y u) :
 KV (ou.map λkv=>if kv.1=k then(kv.1,y) else kv) (G.map λkv=>if kv.1=k then(kv.1,u) else kv):=by
 unfold KV at r ⊢
 induction r with
 |nil=>exact .nil
 |@cons p q ps qs h t ih =>
  rw[dq,dq];refine .cons ?_ ih;obtain⟨Z,U⟩:=h
  by_cases e:p.1=k
  .rw[cg e,cg (Z.symm.trans e)];exact⟨Z,R⟩
  .rw[bz e,bz (λz=>e (Z.trans z))];exact⟨Z,U⟩
def KV.put(r:KV U Z)(k:κ)(G:RelV y u):KV (putK U k y) (stored Z k u):=by
 unfold putK stored;rw[r.any k]
 by_cases e:(Z.any λkv=>decide (kv.1=k))=true
 .rw[cg e,cg e];exact r.ae6 k G
 .rw[bz e,bz e];exact Paired.snoc r ⟨rfl,G⟩
theorem KV.length{G:List (κ×V)}{Z:List (κ×Value)}(r:KV G Z):G.length=Z.length:=Paired.length r
end
def aho(r:RelV (kV k) u):(Ao P w).is k u=true:=by
 cases k with
 |inl i=>obtain⟨t,e⟩:=(show ∃t,u=Value.int i t from r);subst e;exact ab4 P w i t
 |inr x=>obtain⟨t,e⟩:=(show ∃t,u=Value.str x t from r);subst e;exact ab5 P w x t
theorem Yw{P:Program}{w:World}:∀{ks:List Key}{Z:Zl},Vals (ks.map kV) Z->ItemsAre (Ao P w) ks Z
 |[],_,r=>by rw[List.map_nil] at r;cases r;exact .nil
 |k::ks,_,r=>by
  rw[dq] at r;cases r with
  |cons h t=>exact .cons (aho h) (Yw t)
abbrev KT(H:Hp):List (List Key×V)->List (List Key×Addr×Value)->Prop:=Paired λp q=>p.1=q.1/\H q.2.1=some (.tup (p.1.map kV))/\RelV p.2 q.2.2
def KT.val(r:KT H ou R)(k:List Key):Lj (Sd ou k) ((atKey R k).map (·.2)):=by
 induction r with
 |nil=>exact True.intro
 |@cons p q ps qs h t ih =>
  obtain⟨G,_,U⟩:=h
  by_cases e:p.1=k
  .have Z:q.1=k:=G.symm.trans e
   have b:atKey (q::qs) k=some q.2:=by simp[atKey,m7,Z]
   rw[Q4 e,b];exact U
  .have Z:¬q.1=k:=λz=>e (G.trans z)
   have b:atKey (q::qs) k=atKey qs k:=by simp[atKey,m7,Z]
   rw[Q5 e,b];exact ih
def KT.ae6(r:KT H ou U)(k:List Key)(R:RelV y u) :
 KT H (ou.map λkv=>if kv.1=k then(kv.1,y) else kv) (U.map (putAt k u)):=by
 induction r with
 |nil=>exact .nil
 |@cons p q ps qs h t ih =>
  rw[dq,dq];refine .cons ?_ ih;obtain⟨Z,G,h3⟩:=h;unfold putAt
  by_cases e:p.1=k
  .rw[cg e,cg (Z.symm.trans e)];exact⟨Z,G,R⟩
  .rw[bz e,bz (λz=>e (Z.trans z))];exact⟨Z,G,h3⟩
def KT.put(r:KT H G Z)(k:List Key)(R:H b=some (.tup (k.map kV)))(U:RelV y u) :
 KT H (putK G k y) (storedH Z k b u):=by
 have e:(G.any λkv=>decide (kv.1=k))=(atKey Z k).isSome:=by rw[acb,(r.val k).ajx,Option.isSome_map]
 unfold putK storedH;rw[e]
 by_cases q:(atKey Z k).isSome=true
 .rw[cg q,cg q];exact r.ae6 k U
 .rw[bz q,bz q];exact Paired.snoc r ⟨rfl,R,U⟩
def KT.keeps(r:KT H G xs)(R:∀b Z,H b=some (.tup Z)->U b=some (.tup Z)):KT U G xs :=
 Paired.ay3 r λ_ _ z=>⟨z.1,R _ _ z.2.1,z.2.2⟩
def awq(ok:M8 P w H h)(e:Rd H a u):Aq P w H h a u:=e.ok ok
def ahp(ok:M8 P w H h)(e:Rd H a (.dK Z)):Z.length<=sizeLine/\(a==sysModules)=false/\∃vs,KV Z vs/\h.DictOf (Ao P w) a vs :=
 show Aq P w H h a (.dK Z) from awq ok e
def a6s(ok:M8 P w H h)(e:H a=some (.dK Z)):Z.length<=sizeLine/\(a==sysModules)=false/\∃vs,KV Z vs/\h.DictOf (Ao P w) a vs:=ahp ok (.inl e)
def Wi(ok:M8 P w H h)(e:H a=some (.tup (ks.map kV))):(tupleKind (Ao P w)).is h ks a:=by obtain⟨_,U,r,o,R,Z,n,G,_⟩:=(show Aq P w H h a (.tup (ks.map kV)) from ok a _ e);exact⟨o,U.toArray,n,R,Z,G,by simpa using Yw r⟩
def ahq(ok:M8 P w H h)(e:Rd H a (.dT G)):G.length<=sizeLine/\(a==sysModules)=false /\
 ∃xs,KT H G xs/\h.DictOfH (tupleKind (Ao P w)) a xs:=by
 obtain⟨z,y,xs,r,o,es,ep,h1,U,h3,h4,R⟩:=(show Aq P w H h a (.dT G) from awq ok e);refine⟨z,y,xs,r,o,es,ep,h1,U,h3,h4,λx Z=>?_,R⟩;have all:∀{l:List (List Key×V)}{m:List (List Key×Addr×Value)},KT H l m->∀x∈m,(tupleKind (Ao P w)).is h x.1 x.2.1:=by
  intro l m q
  induction q with
  |nil=>intro x Z;exact nomatch Z
  |@cons p q ps qs hq t ih =>
   intro x Z;rcases dh.mp Z with e|Z
   .subst e
    exact Wi ok (by rw[<- hq.1];exact hq.2.1)
   .exact ih x Z
 exact all r x Z
def awr(ok:M8 P w H h)(e:H a=some (.dT Z)):Z.length<=sizeLine/\(a==sysModules)=false /\
 ∃xs,KT H Z xs/\h.DictOfH (tupleKind (Ao P w)) a xs:=ahq ok (.inl e)
def ae7(H:Hp)(a:Addr)(y:V)(r:Option V):Prop :=
 (∃Z k,Rd H a (.dK Z)/\y=kV k/\r=Sd Z k)\/∃Z k b,Rd H a (.dT Z)/\y=.ref b/\H b=some (.tup (k.map kV))/\r=Sd Z k
def ata(H:Hp)(a:Addr)(y v:V)(G:Hp):Prop :=
 (∃Z k,H a=some (.dK Z)/\y=kV k/\Z.length<sizeLine/\G=upd H a (.dK (putK Z k v))) \/
 ∃Z k b,H a=some (.dT Z)/\y=.ref b/\H b=some (.tup (k.map kV))/\Z.length<sizeLine/\G=upd H a (.dT (putK Z k v))
def ae7.t{k:List Key}(e:H a=some (.dT Z))(G:H b=some (.tup (k.map kV))):ae7 H a (.ref b) (Sd Z k):=.inr ⟨Z,k,b,.inl e,rfl,G,rfl⟩
def ata.t{k:List Key}(e:H a=some (.dT Z))(G:H b=some (.tup (k.map kV)))(U:Z.length<sizeLine) :
 ata H a (.ref b) v (upd H a (.dT (putK Z k v))):=.inr ⟨Z,k,b,e,rfl,G,U,rfl⟩
def Inv.big(I:Inv X pins σ H s):sysModules<s.heap.objs.size:=by
 have h:mainGlobals<s.heap.objs.size:=(I.mod.glob.keeps I.bk).lt
 exact Nat.lt_trans (by decide) h
def ajy(hu:A.units+1<cLine)(I:Inv X pins σ H s)(g:ae7 H a y (some v))(ry:RelV y u)(h:∀U s',Inv X pins σ H s'->RelV v U->Q U s') :
 wpAny (model X.prog X.w) A (getItem (.ref a) u) Q E s:=by
 rcases g with⟨ou,k,e,R,l⟩|⟨ou,k,b,e,R,eb,l⟩
 .subst R
  obtain⟨z,hd,vs,Z,dd⟩:=ahp I.yr e;obtain⟨U,hw,G⟩:=Lj.some_of (v:=v) (o:=valueAt vs k) (by rw[l];exact Z.val k);exact wpAny_getItem_of (aho ry) dd.mapOf hw (h U _ (I.tok _) G)
 .subst R
  cases(show u=Value.ref b from ry);obtain⟨z,hd,xs,Z,dd⟩:=ahq I.yr e;obtain⟨U,hw,G⟩:=Lj.some_of (v:=v) (o:=(atKey xs k).map (·.2)) (by rw[l];exact Z.val k);obtain⟨p,hp,qq⟩:=bw.mp hw;refine wpAny_getItem_heap (tupleKind_room_in1 hu) (Wi I.yr eb) dd hp ?_;rw[qq];exact h U _ (I.tok _) G
def aag(I:Inv X pins σ H s)(U:Mut (H a))(hs:Heap.SameBut a s.heap Z)(R:∃q,Z.get? a=some q)(new:Aq X.prog X.w (upd H a G) Z a G) :
 Inv X pins σ (upd H a G) { s with heap:=Z,toks:=t' } :=
 I.write (x:=a) (e:=a) U (.inl rfl) (λb q hb z=>(hs.2 b hb).trans z) R new
def azz(z:U.length<=sizeLine)(R:(a==sysModules)=false)(Z:KV U G)(dd:h'.DictOf (Ao P w) a G) :
 Aq P w H' h' a (.dK U):=⟨z,R,G,Z,dd⟩
def ajz(hu:A.units+1<cLine)(I:Inv X pins σ H s)(g:ata H a y v H')(ry:RelV y u)(rv:RelV v r)(h:∀s',Inv X pins σ H' s'->Q () s') :
 wpAny (model X.prog X.w) A (setItem (.ref a) u r) Q E s:=by
 rcases g with⟨U,k,e,ey,l,eH⟩|⟨U,k,b,e,ey,eb,l,eH⟩
 .subst ey eH
  obtain⟨z,hd,vs,Z,dd⟩:=a6s I.yr e;have hz:vs.length<=sizeLine:=by rw[<- Z.length];exact z
  have hl:(putK U k v).length<=sizeLine:=by have:=Tv U k v;exact a_ this l
  refine wpAny_setItem_pairs (hsz:=hz) (aho ry) dd λh' G hs=>h _ ?_
  have he:∃q,h'.get? a=some q:=let ⟨q,_,_,R,_⟩:=G;⟨q,R⟩;exact aag I (by rw[e];exact True.intro) hs he (azz hl hd (Z.put k rv) G)
 .subst ey eH
  cases(show u=Value.ref b from ry);obtain⟨z,hd,xs,Z,dd⟩:=awr I.yr e;have hz:xs.length<=sizeLine:=by rw[<- Paired.length Z];exact z
  have hl:(putK U k v).length<=sizeLine:=by have:=Tv U k v;exact a_ this l
  refine wpAny_setItem_heap (hsz:=hz) (tupleKind_room_in1 hu) (Wi I.yr eb) dd λh' G hs=>h _ ?_
  obtain⟨q,es,ep,R,h2,h3,h4,_,h5⟩:=G;refine aag I (by rw[e];exact True.intro) hs ⟨q,R⟩ ⟨hl,hd,_,(Z.put k eb rv).keeps λc ys ec=>?_,q,es,ep,R,h2,h3,h4,h5⟩;rw[jx (ab6 ec e (λz=>nomatch z))];exact ec
def acd(I:Inv X pins σ H s)(g:ae7 H a y o):s.TypeIs (.ref a) "dict" := by
 rcases g with⟨G,k,e,_,_⟩|⟨G,k,b,e,_,_,_⟩
 .obtain⟨_,_,R,_,Z⟩:=ahp I.yr e
  exact Z.typeIs
 .obtain⟨_,_,U,_,Z⟩:=ahq I.yr e
  exact Z.typeIs
def aoe(h:Heap)(Z:sysModules<h.objs.size):Aq P w H (h.push { cls:=.type "dict",data:=.dict #[] }) h.objs.size (.dT []) :=
 ⟨ik _,yc.mpr (jy (gh Z)),[],.nil,_,#[],0,bj _ rfl,⟨rfl,rfl,rfl⟩,rfl,rfl,List.nodup_nil⟩
def az0:TE:=λ_ H Q=>∀p,H p=none->Q (.ref p) (upd H p (.dT []))
def aof:PE X (.Dict [] [] pos) az0:=λZ s G H Q I h =>
 wpAny_Dict_empty ⟨.ref s.heap.objs.size,_,I.laid (a:=s.heap.objs.size) (o:=.dT []) (t':=s.toks) (λ_ _ q=>aq _ q) (bf _) (aoe s.heap I.big),rfl,h _ (I.yr.fresh (bf _))⟩
def az1(hu:A.units+1<cLine)(I:Inv X pins σ H s)(g:ae7 H a y o)(ry:RelV y u)(rd:RelV d r)(h:∀w' s',Inv X pins σ H s'->RelV (o.getD d) w'->Q w' s') :
 wpAny (model X.prog X.w) A (call (.builtin "dict.get") [.ref a,u,r]) Q E s:=by
 rcases g with⟨ou,k,e,U,l⟩|⟨ou,k,b,e,U,eb,l⟩
 .subst U
  obtain⟨z,R,vs,Z,G⟩:=ahp I.yr e;refine call_meetsIn PySem.F.slot_dict_get G.typeIs PySem.F.entry_dict_get (PySem.F.args_dict_get_3 _ _ _) (meets_dict_get_default (Ao X.prog X.w) a (aho ry) R r) ⟨_,G.mapOf,h _ _ (I.tok _) ?_⟩;rw[l];exact(Z.val k).getD rd
 .subst U
  cases(show u=Value.ref b from ry);obtain⟨z,R,xs,Z,G⟩:=ahq I.yr e;refine call_meetsIn PySem.F.slot_dict_get G.typeIs PySem.F.entry_dict_get (PySem.F.args_dict_get_3 _ _ _) (meetsH_dict_get_default (tupleKind (Ao X.prog X.w)) a b R r) ⟨tupleKind_room_in1 hu,k,xs,Wi I.yr eb,G,h _ _ (I.tok _) ?_⟩;rw[l];exact(Z.val k).getD rd
end L2
namespace HT
open PySem PyProof.Rows
def atc(ht:IsTup s.heap t U.toArray)(hb:IsTup s.heap b G.toArray)(h0:U=[]->Q (.ref b) s)(h1:G=[]->Q (.ref t) s)(h2:U≠[]->G≠[]->Q (.ref s.heap.objs.size) { s with heap:=s.heap.push { cls:=.type "tuple",data:=.seq (U++G).toArray } })(q3:U.length+G.length<=sizeLine):wpAny (model prog w) A (binaryOp .Add (.ref t) (.ref b)) Q E s:=by
 obtain⟨⟨q2,dd,q0,sl⟩,ho,hc,n,hd⟩:=id ht;obtain⟨⟨q4,qq,q1,R⟩,Z,qk,n2,qv⟩:=id hb;simp only at hc hd qk qv;subst hc hd qk qv;have e:U.toArray++G.toArray=(U++G).toArray:=by simp
 by_cases hv:U=[]
 .exact concat_meets ⟨_,ho,rfl⟩ ⟨_,Z,rfl⟩ noFill_tuple_add seq_tuple_add PySem.F.slot_tuple_add PySem.F.entry_tuple_add (PySem.F.args_tuple_add_2 _ _)
   (tuple_addW0 t b U.toArray G.toArray n n2 dd qq sl R (by simp[hv])) ⟨ho,Z,h0 hv⟩
 by_cases hw:G=[]
 .exact concat_meets ⟨_,ho,rfl⟩ ⟨_,Z,rfl⟩ noFill_tuple_add seq_tuple_add PySem.F.slot_tuple_add PySem.F.entry_tuple_add (PySem.F.args_tuple_add_2 _ _)
   (tuple_addW1 t b U.toArray G.toArray n n2 dd qq sl R (by simpa using hv) (by simp[hw])) ⟨ho,Z,h1 hw⟩
 .refine concat_meets ⟨_,ho,rfl⟩ ⟨_,Z,rfl⟩ noFill_tuple_add seq_tuple_add PySem.F.slot_tuple_add PySem.F.entry_tuple_add (PySem.F.args_tuple_add_2 _ _)
   (tuple_addW2 t b U.toArray G.toArray n n2 dd qq sl R (by simpa using hv) (by simpa using hw) (by rw[dm,dm];exact q3)) ⟨ho,Z,?_⟩
  rw[e];exact h2 hv hw
noncomputable def Gv(n d:Nat):Option Int->Nat
 |none=>d|some v=>if v<0 then(v+(n:Int)).toNat else min v.toNat n
def az2(n d:Nat)(G:d<=n)(o:Option Int):Gv n d o<=n:=by
 cases o with
 |none=>exact G
 |some v =>
  show(if v<0 then(v+(n:Int)).toNat else min v.toNat n)<=n
  by_cases Z:v<0
  .rw[cg Z];lia
  .rw[bz Z];exact Nat.min_le_right _ _
def ahr(v:Int)(n d:Nat):(if v<0 then max (v+(n:Int)) 0 else min v (n:Int))=((Gv n d (some v):Nat):Int):=by
 show(if v<0 then max (v+(n:Int)) 0 else min v (n:Int))=(((if v<0 then(v+(n:Int)).toNat else min v.toNat n):Nat):Int)
 by_cases Z:v<0
 .simp only[cg Z];lia
 .simp only[bz Z];lia
def ae8(Z G:Option Int)(n:Nat):Builtin.Slice.sliceAdjust Z G 1 (n:Int)=(((Gv n 0 Z:Nat):Int),((Gv n n G:Nat):Int)):=by
 have U:¬((1:Int)<0):=by lia
 unfold Builtin.Slice.sliceAdjust;simp only[U,jt];refine Prod.ext ?_ ?_
 .cases Z with
  |none=>rfl|some v=>exact ahr v n 0
 .cases G with
  |none=>rfl|some v=>exact ahr v n n
def ae9(i j:Nat):Builtin.Slice.slicePlaces (i:Int) (j:Int) 1=j-i:=by unfold Builtin.Slice.slicePlaces;have Z:(1:Int) > 0:=m_ (by decide);simp only[Z,km,Int.ediv_one];split<;>lia
def Hy(p:IsPart v o)(h:Q o s):wpAny (model prog w) A (Builtin.Slice.slicePartIndex v) Q E s:=by
 cases p with
 |none=>exact slicePart_none h|int i t=>exact slicePart_int h
def Sg{Z:Option Int}{n:Nat}(hs:s.heap.IsSliceOf sl vl vu .none)(pl:IsPart vl Z)(pu:IsPart vu R)(h:Q (((Gv n 0 Z:Nat):Int),1,Gv n n R-Gv n 0 Z) s):wpAny (model prog w) A (Builtin.Slice.sliceApplied (.ref sl) (pure (n:Int))) Q E s:=by obtain⟨os,U,qq,G⟩:=id hs;unfold Builtin.Slice.sliceApplied Builtin.Slice.sliceFields;refine aa (aa (d8 U G (x:=vl) rfl (aa (d8 U G (x:=vu) rfl (aa (d8 U G (x:=.none) rfl (aj ?_)))))));refine aa (slicePart_none ?_);show wpAny _ _ (if((1:Int)==0)=true then _ else _) _ _ s;rw[bz (by decide)];refine aa (Hy pl (aa (Hy pu (aa (aj ?_)))));show wpAny _ _ (match Builtin.Slice.sliceAdjust Z R 1 (n:Int) with|(Z,R)=>pure (Z,(1:Int),Builtin.Slice.slicePlaces Z R 1)) _ _ s;rw[ae8 Z R n];show wpAny _ _ (pure (((Gv n 0 Z:Nat):Int),(1:Int),Builtin.Slice.slicePlaces ((Gv n 0 Z:Nat):Int) ((Gv n n R:Nat):Int) 1)) _ _ s;rw[ae9];exact aj h
def aoh(Z:Xt)(i k:Nat):((List.range k).filterMap λ(m:Nat)=>Z[((i:Int)+(m:Int)*1).toNat]?).toArray=((Z.toList.drop i).take k).toArray:=by
 have e:(λ(m:Nat)=>Z[((i:Int)+(m:Int)*1).toNat]?)=λm=>Z[i+m]?:=by
  funext m
  have:((i:Int)+(m:Int)*1).toNat=i+m:=by lia
  rw[this]
 rw[e];have:=pick_run Z i k;rw[List.filterMap_map] at this;have G:((λx=>Z[x]?) ∘ λx=>i+x)=λm=>Z[i+m]?:=rfl
 rw[G] at this;rw[this]
def Q6{Z:Option Int}(R:IsTup s.heap t items)(hs:s.heap.IsSliceOf sl vl vu .none)(pl:IsPart vl Z)(pu:IsPart vu U)(hw:Gv items.size 0 Z=0->Gv items.size items.size U=items.size->Q (.ref t) s)(h:Q (.ref s.heap.objs.size) { s with heap:=s.heap.push { cls:=.type "tuple",data:=.seq ((items.toList.drop (Gv items.size 0 Z)).take (Gv items.size items.size U-Gv items.size 0 Z)).toArray } })(q4:items.size<=sizeLine):wpAny (model prog w) A (getItem (.ref t) (.ref sl)) Q E s:=by
 have Q7:sizeOk (.seq ((items.toList.drop (Gv items.size 0 Z)).take (Gv items.size items.size U-Gv items.size 0 Z)).toArray):=by
  show((items.toList.drop (Gv items.size 0 Z)).take (Gv items.size items.size U-Gv items.size 0 Z)).toArray.size<=sizeLine
  rw[dm,List.length_take,List.length_drop,rm];omega
 have hj:Gv items.size items.size U<=items.size:=az2 _ _ (bf _) U
 obtain⟨os,qv,qk,q0⟩:=id hs;have qq:s.TypeIs (.ref sl) "slice" := ⟨os,qv,qk⟩;unfold getItem
 try with_reducible refine jz ?_
 first|refine aa (aj ?_)|skip
 refine aa (wpAny_sequenceKey R.typeIs (by decide) ?_);refine aa (je (name:=Str.ofString "__getitem__") R.typeIs m9
  (jo m9 R.typeIs entry_tuple_getitem ?_ (args_tuple_getitem _ _)))
 show wpAny _ _ (Builtin.Tuple.tupleItemsOf (.ref t) >>= _) _ _ s;refine aa (tupleItemsOf_ R ?_);refine aa (wpAny_typeOf qq ?_);rw[cg (by decide)];refine aa (Sg hs pl pu ?_);show wpAny _ _ (if(((Gv items.size 0 Z:Nat):Int)==0&&(1:Int)==1&&(Gv items.size items.size U-Gv items.size 0 Z)==items.size)=true then _ else _) _ _ s
 by_cases G:(((Gv items.size 0 Z:Nat):Int)==0&&(1:Int)==1&&(Gv items.size items.size U-Gv items.size 0 Z)==items.size)=true
 .rw[cg G]
  rw[ao,ao] at G;have q1:((Gv items.size 0 Z:Nat):Int)=0:=eq_of_beq G.1.1;have q2:Gv items.size items.size U-Gv items.size 0 Z=items.size:=eq_of_beq G.2;have q3:=hw (by lia) (by lia);refine aa (m:=Builtin.Tuple.tupleIsExact (.ref t)) (aa (wpAny_typeOf R.typeIs (aj ?_)));rw[cg (by decide)];exact aa (wpAny_rule (aj ⟨_,rfl,aj q3⟩))
 rw[bz G,aoh]
 first
  |exact aa (m:=Builtin.Tuple.tupleExact _) (iw (aj ⟨_,rfl,aj h⟩) Q7)
  |exact aa (m:=Builtin.Tuple.tupleExact _) (iw (aa (aj (aj ⟨_,rfl,aj h⟩))) Q7)
  |exact aa (aa (m:=Builtin.Tuple.tupleExact _) (iw (aj (aj ⟨_,rfl,aj h⟩)) Q7))
  |exact aa (aa (m:=Builtin.Tuple.tupleExact _) (iw (aj ⟨_,rfl,aj h⟩) Q7))
end HT
namespace L2
open PySem PySem.Spec PyProof.Rows
abbrev TO:=St->Hp->(Option Int->Hp->Prop)->Prop
def PO(X:Cx)(e:Option Expr)(t:TO):Prop :=
 ∀(Z:Zp)(s:Shared)(G:St)(H:Hp)(Q:Option Int->Hp->Prop),Inv X Z G H s->t G H Q ->
  wpAny (model X.prog X.w) X.A (evalPart e X.env) (λu R=>∃o U,Inv X Z G U R/\IsPart u o/\Q o U) X.xe s
def atd:TO:=λ_ H Q=>Q none H
def a6u(t:TE):TO:=λG H Q=>t G H λx Z=>∃i,x=.int i/\Q (some i) Z
def ate:PO X none atd:=by intro Z s G H Q I h;rw[evalPart_none];exact aj ⟨none,H,I,.none,h⟩
def aht(h:PE X e G):PO X (some e) (a6u G):=by
 intro Z s σ H Q I hw;rw[evalPart_some];refine Bc (h Z s σ H _ I hw) λu s1 z_=>?_
 obtain⟨x,U,R,r1,q1⟩:=z_;obtain⟨i,rfl,q⟩:=q1;obtain⟨t,rfl⟩:=r1;exact⟨some i,U,R,.int i t,q⟩
def SlR(X:Cx)(r:V->Option Int->Option Int->Hp->VK->Prop):Prop :=
 ∀(Z:Zp)(s:Shared)(G:St)(H:Hp)(x:V)(v vl vu:Value)(U R:Option Int)(sl:Addr)(Q:VK),Inv X Z G H s->RelV x v->s.heap.IsSliceOf sl vl vu .none->IsPart vl U->IsPart vu R->r x U R H Q ->
  ∃T id,typeLookup (.type T) "__getitem__" = pure (some (.builtin id))/\s.TypeIs v T/\wpAny (model X.prog X.w) X.A (getItem v (.ref sl)) (EP X Z G Q) X.xe s
def SlR.or(h:SlR X r)(h':SlR X r'):SlR X (λx G U H Q=>r x G U H Q\/r' x G U H Q):=by
 intro Z s σ H x v vl vu G U sl Q I rx hs R pu q;rcases q with q|q
 .exact h Z s σ H x v vl vu G U sl Q I rx hs R pu q
 .exact h' Z s σ H x v vl vu G U sl Q I rx hs R pu q
def tSl(r:V->Option Int->Option Int->Hp->VK->Prop)(G:TE)(tl U:TO):TE:=λZ H Q=>G Z H λx H1=>tl Z H1 λl H2=>U Z H2 λu R=>r x l u R Q
def aoi{lo:Option Expr}(hr:SlR X r)(he:PE X e te)(hl:PO X lo tl)(hu:PO X hi th):PE X (.Subscript e (.Slice lo hi none p2) pos) (tSl r te tl th):=by
 intro Z s U H Q I h;refine Subscript_ (Bc (he Z s U H _ I h) λv s1 z_=>?_);obtain⟨x,H1,I1,r1,q1⟩:=z_;refine wpAny_Slice (Bc (hl Z s1 U H1 _ I1 q1) λR s2 ⟨l,H2,I2,pl,q2⟩=>Bc (hu Z s2 U H2 _ I2 q2) λvu G z_=>?_);obtain⟨u,H3,I3,pu,q3⟩:=z_;rw[evalPart_none];refine aj ?_;have I4:Inv X Z U H3 { G with heap:=G.heap.push { cls:=.type "slice",data:=.fields #[R,vu,.none] } }:=I3.kept (t':=G.toks) λb ob q=>aq _ q
 obtain⟨T,id,hT,ht,hg⟩:=hr Z { G with heap:=G.heap.push { cls:=.type "slice",data:=.fields #[R,vu,.none] } } U H3 x v R vu l u G.heap.objs.size Q I4 r1 (Heap.IsSliceOf.new ..) pl pu q3;show wpAny (model X.prog X.w) X.A (subscriptTail e (.Slice lo hi none p2) v (.ref G.heap.objs.size)) (EP X Z U Q) X.xe { G with heap:=G.heap.push { cls:=.type "slice",data:=.fields #[R,vu,.none] } };exact tail_any (ops:=[.ref G.heap.objs.size,v]) ht hT hg (by with_unfolding_all rfl)
def Ue(Z:List V)(G U:Option Int):List V:=(Z.drop (HT.Gv Z.length 0 G)).take (HT.Gv Z.length Z.length U-HT.Gv Z.length 0 G)
def Tw(Z:List V)(G U:Option Int):(Ue Z G U).length<=Z.length:=by
 unfold Ue;rw[List.length_take,List.length_drop]
 lia
def bdt(K:Fg):V->Option Int->Option Int->Hp->VK->Prop:=λx G U H Q=>∃a Z,x=.ref a/\Gu K H a Z /\
 (HT.Gv Z.length 0 G=0->HT.Gv Z.length Z.length U=Z.length->Q (.ref a) H)/\∀p,H p=none->Q (.ref p) (upd H p (.tup (Ue Z G U)))
def az3:SlR X (bdt X.K):=by
 intro qq s σ H x v vl vu U R sl Q I rx hs pl pu h;obtain⟨a,G,rfl,hx,hw,q⟩:=h;cases rx;obtain⟨t6,r,ht,hz⟩:=I.tuple hx;have Z:t6.toArray.size=G.length:=by rw[dm];exact r.length.symm
 refine⟨"tuple",_,m9.lookup,ht.typeIs,?_⟩;refine HT.Q6 ht hs pl pu (by rw[Z];exact λz1 z2=>⟨.ref a,H,I,rfl,hw z1 z2⟩) ?_ (by rw[Z];exact hz);rw[Z];refine⟨.ref s.heap.objs.size,_,I.laid (t':=s.toks) (o:=.tup (Ue G U R)) (λb ob q=>aq _ q) (bf _) ?_,rfl,q _ (I.yr.fresh (bf _))⟩;exact⟨au (Tw G U R) hz,_,(r.drop (HT.Gv G.length 0 U)).take (HT.Gv G.length G.length R-HT.Gv G.length 0 U),Ub.new _ _⟩
def a6v(K:Fg):R2:=λx y H Q=>∃a b Z G,x=.ref a/\y=.ref b/\Gu K H a Z/\Gu K H b G/\Z.length+G.length<=sizeLine /\
 (Z=[]->Q (.ref b) H)/\(G=[]->Q (.ref a) H)/\(∀p,H p=none->Q (.ref p) (upd H p (.tup (Z++G))))
def Vals.ahu(r:Vals Z G):G=[]↔Z=[]:=by
 cases r with
 |nil=>simp|cons _ _=>simp
def atf:Dd X (binaryOp .Add) (a6v X.K):=by intro U s σ H x y v u Q I rx ry h;obtain⟨a,b,xs,ys,rfl,rfl,ha,hb,R,q0,q1,q2⟩:=h;cases rx;cases ry;obtain⟨t6,Z,p1,_⟩:=I.tuple ha;obtain⟨qq,G,p2,_⟩:=I.tuple hb;refine HT.atc p1 p2 (λz=>⟨.ref b,H,I,rfl,q0 (Z.ahu.mp z)⟩) (λz=>⟨.ref a,H,I,rfl,q1 (G.ahu.mp z)⟩) (λ_ _=>?_) (by rw[<- Z.length,<- G.length];exact R);refine⟨.ref s.heap.objs.size,_,I.laid (t':=s.toks) (o:=.tup (xs++ys)) (λb ob q=>aq _ q) (bf _) ?_,rfl,q2 _ (I.yr.fresh (bf _))⟩;exact⟨by rw[gr];exact R,_,Z.append G,Ub.new _ _⟩
end L2
namespace L2
open PySem PySem.Spec PyProof.Rows
noncomputable def ixN(n:Nat)(i:Int):Option Nat:=if 0<=i then(if i<n then some i.toNat else none) else if -(n:Int)<=i then some (i+n).toNat else none
def Gw{α:Type}(Z:List α)(i:Int):Option α:=(ixN Z.length i).bind λj=>Z[j]?
def ahv(h:ixN n i=some j):seqIndex? i n=some j/\j<n/\-(n:Int)<=i/\i<n:=by
 unfold ixN at h
 by_cases G:0<=i
 .rw[cg G] at h
  by_cases Z:i<n
  .rw[cg Z] at h
   have e:i.toNat=j:=iu h;exact⟨by rw[seqIndex_of G Z,e],by lia,by lia,Z⟩
  .rw[bz Z] at h;cases h
 .rw[bz G] at h
  by_cases Z:-(n:Int)<=i
  .rw[cg Z] at h
   have e:(i+n).toNat=j:=iu h;exact⟨by rw[seqIndex_neg (by lia) Z,e],by lia,Z,by lia⟩
  .rw[bz Z] at h;cases h
def Qs(h:Gw Z i=some v):∃j,seqIndex? i Z.length=some j/\Z[j]?=some v/\j<Z.length/\-(Z.length:Int)<=i/\i<Z.length:=by
 unfold Gw at h;cases e:ixN Z.length i with
 |none=>rw[e] at h;cases h
 |some j =>
  rw[e] at h;obtain⟨R,G,U,h4⟩:=ahv e;exact⟨j,R,h,G,U,h4⟩
def aah(b:Expr):Prop:=∀o i,subscripted b false o i=operate [o,i] (getItem o i)
def IxR(X:Cx)(r:R2):Prop :=
 ∀(U Z:Expr)(G:Zp)(s:Shared)(R:St)(H:Hp)(x y:V)(v u:Value)(Q:VK),Inv X G R H s->RelV x v->RelV y u->r x y H Q ->
  subscripted Z false v u=operate [v,u] (getItem v u)->wpAny (model X.prog X.w) X.A (subscriptTail U Z v u) (EP X G R Q) X.xe s
def MtR(X:Cx)(id:String)(r:V->List V->Hp->VK->Prop):Prop :=
 ∀(Z:Zp)(s:Shared)(R:St)(H:Hp)(x:V)(G:List V)(v:Value)(U:Zl)(Q:VK),Inv X Z R H s->RelV x v->Vals G U->r x G H Q ->
  wpAny (model X.prog X.w) X.A (call (.builtin id) (v::U)) (EP X Z R Q) X.xe s
def a6x(hr:IxR X r)(ha:PE X a R)(hb:PE X b G)(hs:aah b):PE X (.Subscript a b pos) (tOp r R G):=by intro Z s σ H Q I h;exact Subscript_ (azo ha hb I h λv u s2 x y H2 U rx ry q=>hr a b Z s2 σ H2 x y v u Q U rx ry q (hs _ _))
def bdu(K:Fg):R2:=λx y H Q=>∃p Z i v,x=.ref p/\y=.int i/\Gm K H p Z/\Gw Z i=some v/\Q v H
def bdv(K:Fg):R2:=λx y H Q=>∃p Z i v,x=.ref p/\y=.int i/\Gu K H p Z/\Gw Z i=some v/\Q v H
def zu:IxR X (bdu X.K):=by
 intro qk R Z s σ H x y v u Q I rx ry h hs;obtain⟨p,xs,i,z,rfl,rfl,hq,he,q⟩:=h;cases rx;obtain⟨t,rfl⟩:=ry;obtain⟨t6,r,U,hz⟩:=I.list hq;obtain⟨j,G,h2,h3,h4,h5⟩:=Qs he;obtain⟨w,ew,qq⟩:=r.get h2;have hl:=r.length;have hn:=Wg;have fin:EP X Z σ Q w s:=⟨z,H,I,qq,q⟩
 by_cases h0:0<=i
 .have hj:i.toNat=j:=by
   rw[seqIndex_of h0 h5] at G;exact iu G
  exact item_listR U.isList h0 (by lia) (by rw[hj];simpa using ew) fin hs
 .have hj:(i+(t6.toArray.size:Int)).toNat=j:=by
   rw[seqIndex_neg (by lia) h4] at G;rw[dm,<- hl];exact iu G
  exact subscriptTail_builtinR (x:=w) U.isList.typeIs slot_list_getitem.lookup
   (wpAny_getItem_list_neg (Q:=λr s'=>r=w/\EP X Z σ Q r s') U.isList (by lia) (by rw[dm]<;>lia) (by lia) (by rw[hj];simpa using ew) ⟨rfl,fin⟩) hs
def Jw:IxR X (bdv X.K):=by
 intro R G Z s σ H x y v u Q I rx ry h hs;obtain⟨p,xs,i,z,rfl,rfl,hq,he,q⟩:=h;cases rx;obtain⟨t,rfl⟩:=ry;obtain⟨t6,r,pl,hz⟩:=I.tuple hq;obtain⟨j,h1,h2,h3,h4,h5⟩:=Qs he;obtain⟨w,ew,U⟩:=r.get h2;have hl:=r.length;have hn:=Wg;have fin:EP X Z σ Q w s:=⟨z,H,I,U,q⟩;exact subscriptTail_builtinR (x:=w) pl.typeIs slot_tuple_getitem.lookup
  (getItem_tuple (j:=j) (Q:=λr s'=>r=w/\EP X Z σ Q r s') pl (by lia) (by lia) (by rw[dm,<- hl];exact h1) (by simpa using ew) ⟨rfl,fin⟩) hs
def afa(Z:Zl)(n j:Nat)(u:Value):Obj.mapSeq (·.setIfInBounds j u) { cls:=.type "list",data:=.seq Z.toArray n }={ cls:=.type "list",data:=.seq (Z.set j u).toArray n }:=by simp[Obj.mapSeq]
theorem Inv.lst{X:Cx}{Z:Zp}{R:St}{H:Hp}{s:Shared}{p:Addr}{U:List V}(I:Inv X Z R H s)(h:H p=some (.lst U)) :
 ∃(G:Zl)(n:Nat),Vals U G/\s.heap.get? p=some { cls:=.type "list",data:=.seq G.toArray n }/\U.length<=sizeLine:=by
 obtain⟨z,G,n,r,e⟩:=I.yr p _ h;exact⟨G,n,r,e,z⟩
def Inv.az5{R:Zl}(I:Inv X pins σ H s)(h:H p=some (.lst xs))(ho:s.heap.get? p=some { cls:=.type "list",data:=.seq R.toArray n })(U:f { cls:=.type "list",data:=.seq R.toArray n }={ cls:=.type "list",data:=.seq its'.toArray Z })(r:Vals G its')(hz:G.length<=sizeLine)(t:Nat) :
 Inv X pins σ (upd H p (.lst G)) { s with heap:=s.heap.update p f,toks:=t }:=by
 have e:(s.heap.update p f).get? p=some { cls:=.type "list",data:=.seq its'.toArray Z }:=by rw[lz f ho (by rw[U]<;>rfl),U]
 refine I.write (x:=p) (e:=p) (by rw[h];trivial) (.inl rfl) (λb u hb q=>(Heap.get?_update_other _ _ (jy hb)).trans q) ⟨_,e⟩ ?_;exact⟨hz,its',Z,r,e⟩
def a6y:V->V->V->Hp->(Hp->Prop)->Prop:=λo i v H Q=>∃p Z k j,o=.ref p/\i=.int k/\H p=some (.lst Z)/\ixN Z.length k=some j/\Q (upd H p (.lst (Z.set j v)))
def set_list:azh X a6y:=by
 intro Z s σ H o i v ov iv u Q I ro ri rv h;obtain⟨p,xs,k,j,rfl,rfl,hp,hj,q⟩:=h;cases ro;obtain⟨t,rfl⟩:=ri;obtain⟨t6,n,r,R,hz⟩:=I.lst hp;obtain⟨G,h2,h3,h4⟩:=ahv hj;have hl:=r.length;have hn:=Wg;have I':Inv X Z σ (upd H p (.lst (xs.set j v))) { s with heap:=s.heap.update p (Obj.mapSeq (·.setIfInBounds j u)) } :=
  I.az5 hp R (afa t6 n j u) (r.set rv j) (by rw[Ae];exact hz) s.toks
 by_cases h0:0<=k
 .have U:k.toNat=j:=by
   rw[seqIndex_of h0 h4] at G;exact iu G
  exact PySem.W.ki_setAt R h0 (by lia) (by rw[dm,<- hl];exact h4) (by rw[U];exact⟨_,I',q⟩)
 .have U:(k+(t6.toArray.size:Int)).toNat=j:=by
   rw[seqIndex_neg (by lia) h3] at G;rw[dm,<- hl];exact iu G
  exact PySem.W.ki_setBack R (by lia) (by rw[dm,<- hl];exact h3) (by lia) (by rw[U];exact⟨_,I',q⟩)
def aai(Z G:Option Int)(n:Nat):(sliceBounds Z G none n).1=((HT.Gv n 0 Z:Nat):Int)/\(sliceBounds Z G none n).2.1=((HT.Gv n n G:Nat):Int)/\(sliceBounds Z G none n).2.2=1:=by
 refine⟨?_,?_,rfl⟩
 .cases Z with
  |none=>simp[sliceBounds,HT.Gv]
  |some i =>
   simp only[sliceBounds,HT.Gv,Option.getD_none,show(1:Int) > 0 by decide,km]
   by_cases h:i<0
   .simp only[h,km]<;>lia
   .simp only[h,jt]<;>lia
 .cases G with
  |none=>simp[sliceBounds,HT.Gv]
  |some i =>
   simp only[sliceBounds,HT.Gv,Option.getD_none,show(1:Int) > 0 by decide,km]
   by_cases h:i<0
   .simp only[h,km]<;>lia
   .simp only[h,jt]<;>lia
def Xp(Z:Zl)(G U:Option Int):slicePick Z.toArray G U none=((Z.drop (HT.Gv Z.length 0 G)).take (HT.Gv Z.length Z.length U-HT.Gv Z.length 0 G)).toArray:=by obtain⟨h1,R,h3⟩:=aai G U Z.toArray.size;unfold slicePick;rw[h1,R,h3];simp only[sliceRange_one,pick_run,dm]<;>rfl
def a6z(K:Fg):V->Option Int->Option Int->Hp->VK->Prop:=λx G U H Q=>∃a Z,x=.ref a/\Gm K H a Z/\∀p,H p=none->Q (.ref p) (upd H p (.lst (Ue Z G U)))
def atg:SlR X (a6z X.K):=by intro qq s σ H x v vl vu U R sl Q I rx hs pl pu h;obtain⟨a,G,rfl,hx,q⟩:=h;cases rx;obtain⟨t6,r,ht,hz⟩:=I.list hx;have Z:=r.length;refine⟨"list",_,slot_list_getitem.lookup,ht.isList.typeIs,?_⟩;refine wpAny_getItem_list_slice ht.isList hs pl pu .none (by simp) ?_ (by rw[dm]<;>exact a_ (g_ Z) hz);rw[Xp,<- Z];refine⟨.ref s.heap.objs.size,_,I.laid (t':=s.toks) (o:=.lst (Ue G U R)) (λb ob q=>aq _ q) (bf _) ?_,rfl,q _ (I.yr.fresh (bf _))⟩;exact⟨au (Tw G U R) hz,_,0,(r.drop (HT.Gv G.length 0 U)).take (HT.Gv G.length G.length R-HT.Gv G.length 0 U),bj _ rfl⟩
def aaj:Bw X (.builtin "len") (λxs H Q=>∃p G,xs=[.ref p]/\(Gm X.K H p G\/Gu X.K H p G)/\Q (.int G.length) H):=by
 intro qq s σ H xs us Q I r h;obtain⟨p,G,rfl,U,q⟩:=h;obtain⟨u,rfl,rx⟩:=vals1 r;cases rx;have hn:=Wg;rcases U with U|U
 .obtain⟨t6,r',R,hz⟩:=I.list U
  have Z:=r'.length;exact Calls.call_len_list R.isList (by simp only[dm]<;>lia) ⟨.int G.length,H,I.tok _,⟨s.toks+1,by rw[dm,Z]⟩,q⟩
 .obtain⟨t6,r',R,hz⟩:=I.tuple U
  have Z:=r'.length;exact len_tuple R (by simp only[dm]<;>lia) ⟨.int G.length,H,I.tok _,⟨s.toks+1,by rw[dm,Z]⟩,q⟩
def aak:Bw X (.type "list") (λxs H Q=>∃p ys,xs=[.ref p]/\(Gm X.K H p ys\/Gu X.K H p ys)/\∀l,H l=none->Q (.ref l) (upd H l (.lst ys))):=by
 intro qq s σ H xs us Q I r h;obtain⟨p,ys,rfl,hq,q⟩:=h;obtain⟨u,rfl,rx⟩:=vals1 r;cases rx;have fin:∀(U:Zl),Vals ys U->ys.length<=sizeLine->∀(G:Heap)(c':Nat),(∀b o',s.heap.get? b=some o'->G.get? b=some o') ->
  G.get? s.heap.objs.size=some { cls:=.type "list",dict:=none,data:=.seq U.toArray c',slots:=#[] }->EP X qq σ Q (.ref s.heap.objs.size) { s with heap:=G }:=λU R hz G c' kp e =>
  ⟨.ref s.heap.objs.size,_,I.laid (t':=s.toks) kp (bf _) (show Aq X.prog X.w _ G _ (.lst ys) from⟨hz,U,c',R,e⟩),rfl,q _ (I.yr.fresh (bf _))⟩
 rcases hq with hq|hq
 .obtain⟨U,R,pl,hz⟩:=I.list hq
  have Z:=R.length;obtain⟨o,ho,hc,n,hd⟩:=pl.isList;exact call_list_seq p (.inl rfl) ho hc hd (λG c' kp e=>fin U R hz G c' kp e) (by simp only[dm]<;>exact a_ (g_ Z) hz)
 .obtain⟨U,R,pl,hz⟩:=I.tuple hq
  have Z:=R.length;obtain⟨o,ho,hc,n,hd⟩:=pl;exact call_list_seq p (.inr rfl) ho hc hd (λG c' kp e=>fin U R hz G c' kp e) (by simp only[dm]<;>exact a_ (g_ Z) hz)
def Xq:Bw X (.type "tuple") (λxs H Q=>∃p G,xs=[.ref p]/\((Gm X.K H p G/\∀l,H l=none->Q (.ref l) (upd H l (.tup G)))\/(Gu X.K H p G/\Q (.ref p) H))):=by
 intro Z s σ H xs us Q I r h;obtain⟨p,G,rfl,h⟩:=h;obtain⟨u,rfl,rx⟩:=vals1 r;cases rx;rcases h with⟨hq,q⟩|⟨hq,q⟩
 .obtain⟨t6,r',pl,hz⟩:=I.list hq
  have U:=r'.length;refine call_tuple_list pl.isList (λR kp=>?_) (by simp only[dm]<;>exact a_ (g_ U) hz);have I1:Inv X Z σ H { s with heap:=R }:=I.kept (t':=s.toks) kp;have I2:Inv X Z σ (upd H R.objs.size (.tup G)) { s with heap:=R.push { cls:=.type "tuple",data:=.seq t6.toArray } } :=
   I1.laid (t':=s.toks) (λb o e=>aq _ e) (bf _) (show Aq X.prog X.w _ _ _ (.tup G) from⟨hz,t6,r',Ub.new _ _⟩)
  exact⟨.ref R.objs.size,_,I2,rfl,q _ (I1.yr.fresh (bf _))⟩
 .obtain⟨t6,r',pl,hz⟩:=I.tuple hq
  exact call_tuple_same pl ⟨.ref p,H,I,rfl,q⟩
def tyV(K:Fg)(T:String)(x:V)(H:Hp):Prop:=match x with
 |.str _=>T = "str"|.int _=>T = "int"
 |.ref p=>(T = "list"/\∃G,Gm K H p G)\/(T = "tuple"/\∃o,K.lookup p=some o/\o.cls=.type "tuple"/\o.dict=none) \/
  (T = "dict"/\((∃Z,H p=some (.dK Z))\/∃Z,H p=some (.dT Z)))\/(T = "set"/\∃S n,H p=some (.set S n))
 |_=>False
def az6(I:Inv X pins σ H s)(r:RelV x v)(U:tyV X.K T x H) :
 s.TypeIs v T/\∀a,v=.ref a->∃ob,s.heap.get? a=some ob/\ob.dict=none:=by
 cases x with
 |str z =>
  obtain⟨t,rfl⟩:=r;cases(show T = "str" from U);exact⟨typeIs_str s z t,λ_ e=>nomatch e⟩
 |int i =>
  obtain⟨t,rfl⟩:=r;cases(show T = "int" from U);exact⟨typeIs_int s i t,λ_ e=>nomatch e⟩
 |ref p =>
  cases r;rcases U with⟨rfl,xs,hq⟩|⟨rfl,o,Z,hc,R⟩|⟨rfl,Z⟩|⟨rfl,S,n,Z⟩
  .obtain⟨t6,_,pl,_⟩:=I.list hq
   refine⟨pl.isList.typeIs,λa e=>?_⟩;cases e;obtain⟨o,n,e,c,R,_⟩:=pl;exact⟨o,e,R⟩
  .refine⟨⟨o,I.kIn p o Z,hc⟩,λa e=>?_⟩
   cases e;exact⟨o,I.kIn _ o Z,R⟩
  .have z:∃o,s.heap.get? p=some o/\o.ExactDict:=by
    rcases Z with⟨ou,Z⟩|⟨ou,Z⟩
    .obtain⟨_,_,_,_,o,_,_,e,G,_⟩:=I.yr p _ Z
     exact⟨o,e,G⟩
    .obtain⟨_,_,_,_,o,_,_,e,G,_⟩:=I.yr p _ Z
     exact⟨o,e,G⟩
   obtain⟨o,e,G⟩:=z;refine⟨⟨o,e,G.1⟩,λa e2=>?_⟩;cases e2;exact⟨o,e,G.2.1⟩
  .obtain⟨o,_,_,_,e,G,_⟩:=I.yr p _ Z
   refine⟨⟨o,e,G.1⟩,λa e2=>?_⟩;cases e2;exact⟨o,e,G.2.1⟩
 |_=>exact False.elim U
def tBM(K:Fg)(T:String)(r:V->List V->Hp->VK->Prop)(to:TE)(t:TA):TE:=λZ H Q=>to Z H λx G=>tyV K T x G/\t Z G λU R=>r x U R Q
theorem a66{id:String}(pa:PlainAttrs T)(U:Slot T name id)(qq:typeOf (.builtin id)=pure (.type "method_descriptor"))(hm:MtR X id r)(ho:PE X o to)(ha:PA X (e::es) t)(qk:attributeBase o name X.env (eval o X.env)=eval o X.env:=by rfl)(R:((backTo G (starEach (e::es) X.env)).all (λx=>!x.1)&&(backToKw G (keywordEach [] X.env)).all (λx=>x.1.isSome)
&&decide ((e::es).length+([]:List Keyword).length+(if([]:List Keyword).isEmpty then 0 else 1)<30))=true:=by rfl)(q0:(apos.endLine==G.line)=true:=by rfl)(hs:starEach (e::es) X.env=(false,eval e X.env)::starEach es X.env:=by rfl)(qv:(backTo G (starEach es X.env)).any (·.1)=false:=by rfl) :
 PE X (.Call (.Attribute o name apos) (e::es) [] G) (tBM X.K T r to t):=by
 intro Z s σ H Q I h;refine wpAny_Call_method_late qk R q0 rfl (Bc (ho Z s σ H _ I h) λv s1 z_=>?_);obtain⟨x,H1,I1,r1,ty,q1⟩:=z_;obtain⟨h1,h2⟩:=az6 I1 r1 ty;refine⟨T,id,pa,U,qq,h1,h2,?_⟩;have hA:=ha G Z s1 σ H1 _ I1 q1;rw[hs] at hA ⊢;refine Calls.callWith_builtin (by show(false||(backTo G (starEach es X.env)).any (·.1))=false;rw[qv]<;>rfl) (Calls.evalArgs_plain ?_);exact Bc hA λus s2 ⟨vs,H2,I2,r2,q2⟩=>hm Z s2 σ H2 x vs v us Q I2 r1 r2 q2
end L2
namespace L2
open PySem PySem.Spec PyProof.Rows
def MtM(X:Cx)(id:String)(r:V->List V->Hp->VK->Prop):Prop :=
 ∀(Z:Zp)(s:Shared)(R:St)(H:Hp)(x:V)(G:List V)(v:Value)(U:Zl)(Q:VK),Inv X Z R H s->RelV x v->Vals G U->r x G H Q ->
  wpAny (model X.prog X.w) X.A (call (.builtin id) (v::U)) (EP X Z R Q) X.xe s
theorem Vals.one:∀{x:V}{Z:Zl},Vals [x] Z->∃u,Z=[u]/\RelV x u
 |_,_,.cons r .nil=>⟨_,rfl,r⟩
def Inv.a67{G:Zl}(I:Inv X pins σ H s)(R:H l=some (.lst xs))(e:s.heap.get? l=some { cls:=.type "list",data:=.seq G.toArray n })(hf:f G.toArray=its'.toArray)(U:Vals Z its')(hz:Z.length<=sizeLine) :
 Inv X pins σ (upd H l (.lst Z)) { s with heap:=s.heap.update l (Obj.mapSeq f),toks:=t' }:=by
 have q:=PySem.IsL.update e f;rw[hf] at q;refine I.write (x:=l) (e:=l) (by rw[R];exact trivial) (.inl rfl) (λb' u hb hu=>(Heap.get?_update_other s.heap (Obj.mapSeq f) (jy hb)).trans hu) ⟨_,q⟩ ?_;exact⟨hz,its',_,U,q⟩
def Inv.bdx(I:Inv X pins σ H s)(U:Vals Z G)(R:Z.length<=sizeLine) :
 Inv X pins σ (upd H s.heap.objs.size (.lst Z)) { s with heap:=s.heap.push { cls:=.type "list",data:=.seq G.toArray },toks:=t' } :=
 I.laid (λ_ _ q=>aq _ q) (bf _) ⟨R,G,0,U,bj _ rfl⟩
theorem Inv.fresh(I:Inv X pins σ H s):H s.heap.objs.size=none:=I.yr.fresh (bf _)
def Inv.aj0(I:Inv X pins σ H s)(U:H l=some (.lst G)):G.length<=sizeLine/\∃(Z:Zl)(n:Nat),Vals G Z/\G.length=Z.length/\s.heap.get? l=some { cls:=.type "list",data:=.seq Z.toArray n }:=by obtain⟨z,Z,n,r,e⟩:=I.yr l _ U;exact⟨z,Z,n,r,r.length,e⟩
def aoj(h:n<=sizeLine):Builtin.List.listTooLong n=false:=by unfold Builtin.List.listTooLong;exact my (j_ h)
def ath:V->List V->Hp->VK->Prop:=λx G H Q=>∃l Z y,x=.ref l/\G=[y]/\H l=some (.lst Z)/\Z.length<sizeLine/\Q .non (upd H l (.lst (Z++[y])))
def Yx:MtM X "list.append" ath:=by intro G s σ H x vs v us Q I rx rv h;obtain⟨l,xs,y,rfl,rfl,Z,U,q⟩:=h;cases rx;obtain⟨u,rfl,ru⟩:=rv.one;obtain⟨z,R,n,r,hl,e⟩:=I.aj0 Z;refine call_meets F.slot_list_append ⟨_,e,rfl⟩ F.entry_list_append (F.args_list_append_2 _ _) (PySem.list_append l R.toArray n u (by rw[dm];exact e_ (c_ (g_ hl) U))) ⟨e,?_⟩;refine⟨.non,_,I.a67 (its':=R++[u]) Z e (by simp) (r.append (.cons ru .nil)) ?_,rfl,q⟩;rw[gr,List.length_singleton];exact U
def ati:V->List V->Hp->VK->Prop:=λx U H Q=>∃l b Z G,x=.ref l/\U=[.ref b]/\H l=some (.lst Z)/\H b=some (.lst G)/\Z.length+G.length<=sizeLine/\Q .non (upd H l (.lst (Z++G)))
def aj1:MtM X "list.extend" ati:=by
 intro qq s σ H x vs v us Q I rx rv h;obtain⟨l,b,xs,zs,rfl,rfl,hH,hB,hz,q⟩:=h;cases rx;obtain⟨u,rfl,ru⟩:=rv.one;cases ru;obtain⟨z,G,n,r,hl,e⟩:=I.aj0 hH;obtain⟨z2,Z,n2,r2,qk,e2⟩:=I.aj0 hB;have U:G.toArray.size+Z.toArray.size<=sizeLine:=by rw[dm,dm];lia
 have R:¬(!G.toArray.isEmpty&&Builtin.List.listTooLong (G.toArray.size+Z.toArray.size))=true:=by rw[aoj U,Bool.and_false];exact dw
 refine call_meets F.slot_list_extend ⟨_,e,rfl⟩ F.entry_list_extend (F.args_list_extend_2 _ _)
  (AutoSeq1.list_extend_list_list_0 l G.toArray n b Z.toArray n2 R (by rw[dm];exact a_ (g_ hl) z) (a_ U x_)) ⟨e,e2,?_⟩
 refine⟨.non,_,I.a67 (its':=G++Z) hH e (by simp) (r.append r2) ?_,rfl,q⟩;rw[gr];exact hz
def a69:R2:=λx y H Q=>∃l b Z G,x=.ref l/\y=.ref b/\H l=some (.lst Z)/\H b=some (.lst G)/\Z.length+G.length<=sizeLine/\∀p,H p=none->Q (.ref p) (upd H p (.lst (Z++G)))
def az8:Dd X (binaryOp .Add) a69:=by
 intro G s σ H x y v u Q I rx ry h;obtain⟨l,b,xs,zs,rfl,rfl,hH,hB,hz,q⟩:=h;cases rx;cases ry;obtain⟨z,U,n,r,hl,e⟩:=I.aj0 hH;obtain⟨z2,Z,n2,r2,qq,e2⟩:=I.aj0 hB;refine PySem.P.add_list e e2 ?_ (by rw[dm,dm];lia);have R:U.toArray++Z.toArray=(U++Z).toArray:=by simp
 rw[R];exact⟨.ref _,_,I.bdx (t':=s.toks) (r.append r2) (by rw[gr];exact hz),rfl,q _ I.fresh⟩
end L2
namespace L2
open PySem PySem.Spec PyProof.Rows
def ach:fillsNumberSlot (.type "tuple") "mul" = pure false :=
 PySem.fillsNumberSlot_seq (id := "tuple.__mul__") (r:=some (.builtin "tuple.__rmul__")) vf.lookup (by decide+kernel) F.slot_tuple_rmul.lookup (by decide+kernel)
def aok:seqRepeat? (.type "tuple")=pure (some (.builtin "tuple.__mul__")):=by unfold seqRepeat?;rw[PySem.seqSlot_of (T := "tuple") (name := "__mul__") (id := "tuple.__mul__") vf.lookup (by decide+kernel),PySem.seqSlot_of (T := "tuple") (name := "__rmul__") (id := "tuple.__rmul__") F.slot_tuple_rmul.lookup (by decide+kernel)];rfl
def az9(a:Int)(t:Tok)(l:Addr)(Z:Xt)(n:Nat)(G:Option Addr)(U:Array (Option Value)) :
 Meets (Builtin.«int.__rmul__» ⟨[.int a t,.ref l],[]⟩) (λ_ R s=>s.heap.get? l=some { cls:=.type "tuple",dict:=G,data:=.seq Z n,slots:=U }/\R (.ok (.ret Value.notImplemented)) s) :=
 .of_wp λprog w A R s h=>by obtain⟨hp,g,d,tk,os⟩:=s;obtain⟨hl,h⟩:=h;wp_walk;exact⟨_,rfl,h⟩
def a7a(l:Addr)(Z:Xt)(n:Nat)(G:Option Addr)(U:Array (Option Value))(u:Tok) :
 Meets (Builtin.«tuple.__mul__» ⟨[.ref l,.int 1 u],[]⟩) (λ_ R s=>s.heap.get? l=some { cls:=.type "tuple",dict:=G,data:=.seq Z n,slots:=U }/\R (.ok (.ret (.ref l))) s) :=
 .of_wp λprog w A R s h=>by obtain⟨hp,g,d,tk,os⟩:=s;obtain⟨hl,h⟩:=h;wp_walk;exact⟨_,rfl,h⟩
def a7b(l:Addr)(x:Value)(n:Nat)(Z:Option Addr)(G:Array (Option Value))(u:Tok) :
 Meets (Builtin.«tuple.__mul__» ⟨[.ref l,.int 0 u],[]⟩) (λ_ R s=>s.heap.get? l=some { cls:=.type "tuple",dict:=Z,data:=.seq #[x] n,slots:=G }/\R (.ok (.ret (.ref s.heap.objs.size))) { s with heap:=s.heap.push { cls:=.type "tuple",data:=.seq #[] } }) :=
 .of_wp λprog w A R s h=>by obtain⟨hp,g,d,tk,U⟩:=s;obtain⟨hl,h⟩:=h;wp_walk;exact⟨_,rfl,h⟩
theorem Wj(x:Value):∀(k:Nat)(a:Xt),List.foldl (λZ G=>Z++G) a (List.replicate k #[x])=a++(List.replicate k x).toArray
 |0,a=>by simp|k+1,a=>by rw[List.replicate_succ,Ad,Wj x k,Array.append_assoc,List.replicate_succ];congr 1;apply Array.ext';simp
theorem aol(r:RelV d v):∀k:Nat,Vals (List.replicate k d) (List.replicate k v)
 |0=>.nil|k+1=>.cons r (aol r k)
def a7c(l:Addr)(x:Value)(k n:Nat)(dd:Option Addr)(sl:Array (Option Value))(u:Tok)(h2:2<=k)(hk:k<=100000) :
 Meets (Builtin.«tuple.__mul__» ⟨[.ref l,.int k u],[]⟩) (λ_ R s=>s.heap.get? l=some { cls:=.type "tuple",dict:=dd,data:=.seq #[x] n,slots:=sl }/\R (.ok (.ret (.ref s.heap.objs.size))) { s with heap:=s.heap.push { cls:=.type "tuple",data:=.seq (List.replicate k x).toArray } }) :=
 .of_wp λprog w A R s h=>by
  obtain⟨hp,g,d,tk,os⟩:=s;obtain⟨hl,h⟩:=h;have e:=Wj x k #[];rw[Array.empty_append] at e;rw[<- e] at h;have U:¬(decide ((k:Int) < -2 ^ 63)||decide ((k:Int) >= 2 ^ 63))=true:=by simp;omega
  have G:¬(Array.isEmpty #[x]||(k:Int)==1)=true:=by simp;omega
  have a3:¬(decide ((k:Int)<=0)||Array.isEmpty #[x])=true:=by simp;omega
  have Z:¬((Array.size #[x]:Nat):Int)*(k:Int) > (2 ^ 63-1) / 8:=by simp;omega
  have a5:¬Builtin.Tuple.tupleTooMany (((Array.size #[x]:Nat):Int)*(k:Int))=true:=by simp[Builtin.Tuple.tupleTooMany,sizeLine];omega
  wp_walk;refine t8 (my U) ?_
  wp_walk;refine t8 (my G) ?_
  wp_walk;refine t8 (my a3) ?_
  wp_walk;refine t8 (my Z) ?_
  wp_walk;refine t8 (my a5) ?_
  wp_walk;refine t8 (my (Nat.not_lt.mpr (by show Array.size (List.foldl _ _ (List.replicate k _))<=_;rw[e,dm,nu];exact au hk (by decide)))) ?_
  wp_walk
  exact⟨_,rfl,h⟩
def atj:Dd X (binaryOp .Mult) (λx y H Q=>∃a v,∃k:Nat,x=.ref a/\y=.int k/\Gu X.K H a [v]/\k<=100000/\(k=1->Q (.ref a) H)/\∀p,H p=none->Q (.ref p) (upd H p (.tup (List.replicate k v)))):=by
 intro R s σ H x y v u Q I rx ry h;obtain⟨a,d,k,rfl,rfl,ha,hk,q1,q2⟩:=h;cases rx;obtain⟨t,rfl⟩:=ry;obtain⟨t6,r1,p1,_⟩:=I.tuple ha;cases r1 with
 |cons r1 r2 =>
  cases r2;obtain⟨⟨qk,dd,qq,sl⟩,G,hc,n,hd⟩:=id p1;simp only at hc hd;subst hc hd;refine wpAny_binaryOp_repeat_ref (T := "tuple") (U := "int") (by decide) ⟨_,G,rfl⟩ (λs'=>typeIs_int s' _ _) ach F.fills_int_mul F.slot_int_rmul aok F.slot_int_index.lookup
   (call_meets F.slot_int_rmul (typeIs_int s _ _) F.entry_int_rmul (F.args_int_rmul_2 _ _) (az9 _ _ a _ n dd sl) ⟨G,rfl,⟨_,G,rfl⟩,?_⟩)
  have go:∀Z:List Value,Z=List.replicate k _->Inv X R σ (upd H s.heap.objs.size (.tup (List.replicate k d))) { s with heap:=s.heap.push { cls:=.type "tuple",data:=.seq Z.toArray } }:=λZ e=>I.laid (t':=s.toks) (o:=.tup (List.replicate k d)) (λb ob q=>aq _ q) (bf _) ⟨by rw[nu];exact au hk (by decide),_,by rw[e];exact aol r1 k,Ub.new _ _⟩
  by_cases h1:k=1
  .subst h1
   exact call_meets vf ⟨_,G,rfl⟩ F.entry_tuple_mul (F.args_tuple_mul_2 _ _) (a7a a _ n dd sl t) ⟨G,.ref a,H,I,rfl,q1 rfl⟩
  by_cases h0:k=0
  .subst h0
   exact call_meets vf ⟨_,G,rfl⟩ F.entry_tuple_mul (F.args_tuple_mul_2 _ _) (a7b a _ n dd sl t) ⟨G,.ref s.heap.objs.size,_,go [] rfl,rfl,q2 _ (I.yr.fresh (bf _))⟩
  .exact call_meets vf ⟨_,G,rfl⟩ F.entry_tuple_mul (F.args_tuple_mul_2 _ _) (a7c a _ k n dd sl t (by omega) hk) ⟨G,.ref s.heap.objs.size,_,go _ rfl,rfl,q2 _ (I.yr.fresh (bf _))⟩
def aom(Z:Xt)(b:Value)(k:Nat)(x:Int)(U:x=(k:Int))(h:Z=#[b]):List.foldl (λG R=>G++R) #[] (List.replicate (if Z.isEmpty=true then 0 else x.toNat) Z)=(List.replicate k b).toArray:=by subst h U;have e:=Wj b k #[];rw[Array.empty_append] at e;simpa using e
def atk{X:Cx}:Dd X (binaryOp .Mult) (λx y H Q=>∃a v,∃k:Nat,x=.ref a/\y=.int k/\Gm X.K H a [v]/\k<=100000/\∀p,H p=none->Q (.ref p) (upd H p (.lst (List.replicate k v)))):=by
 intro R s σ H x y v u Q I rx ry h;obtain⟨a,d,k,rfl,rfl,ha,hk,q2⟩:=h;cases rx;obtain⟨t,rfl⟩:=ry;obtain⟨t6,r1,p1,_⟩:=I.list ha;obtain⟨b,G,rb⟩:∃b,t6.toArray=#[b]/\RelV d b:=by
  cases r1 with
  |cons r1 r2=>cases r2;exact⟨_,rfl,r1⟩
 generalize t6.toArray=ia at p1 G;obtain⟨⟨qq,dd,Z,sl⟩,n,ho,hc,qk,hd⟩:=id p1;simp only at hc qk hd;subst hc qk hd;have sz:ia.size=1:=by rw[G];rfl
 generalize hx:(k:Int)=x;have xk:x.toNat=k:=by omega
 have z1:¬(!Builtin.List.listFitsIndex x)=true:=by simp[Builtin.List.listFitsIndex];omega
 have mm:=lm_list_mul_any a ia n none sl x t z1 (by rw[sz,xk];omega) (by rw[sz,xk];simp[Builtin.List.listTooLong,sizeLine];omega);rw[aom ia b k x hx.symm G] at mm;have lk:(List.replicate k d).length<=sizeLine:=by rw[nu];exact au hk (by decide)
 have g0:=bj s.heap (o:={ cls:=.type "list",data:=.seq (List.replicate k b).toArray }) rfl;have hf:=I.yr.fresh (bf s.heap.objs.size);have J:Inv X R σ (upd H s.heap.objs.size (.lst (List.replicate k d))) { s with heap:=s.heap.push { cls:=.type "list",data:=.seq (List.replicate k b).toArray },toks:=s.toks } :=
  I.laid (λb u q=>aq _ q) (bf _) ⟨lk,List.replicate k b,_,aol rb k,g0⟩
 have fin:EP X R σ Q (.ref s.heap.objs.size) { s with heap:=s.heap.push { cls:=.type "list",data:=.seq (List.replicate k b).toArray },toks:=s.toks } :=
  ⟨.ref s.heap.objs.size,_,J,rfl,q2 _ hf⟩
 exact wpAny_binaryOp_repeat_ref (T := "list") (U := "int") (by decide) ⟨_,ho,rfl⟩ (λs'=>typeIs_int s' _ _) noFill_list_mul F.fills_int_mul F.slot_int_rmul repeat_list F.slot_int_index.lookup
  (call_meets F.slot_int_rmul (typeIs_int s _ _) F.entry_int_rmul (F.args_int_rmul_2 _ _) (lm_int_rmul_list_any _ _ a _ n none sl)
   ⟨ho,rfl,⟨_,ho,rfl⟩,call_meets F.slot_list_mul ⟨_,ho,rfl⟩ F.entry_list_mul (F.args_list_mul_2 _ _) mm ⟨ho,fin⟩⟩)
end L2
namespace Att
open PySem PySem.W PySem.Calls PyProof.Rows
def Ug:∀(ns:X9)(Z:Zl),WellAll P h Z (ns.map WData.int)->IntsAre Z ns:=by
 intro ns
 induction ns with
 |nil =>
  intro Z w;rw[List.map_nil] at w;cases w;exact .nil
 |cons n ns G =>
  intro Z w;rw[dq] at w;cases w with
  |cons a b =>
   cases a;exact .cons _ _ (G _ b)
def aj2{l:OpenLaw}(hn:l.most=some n)(G:l.row.toRowW.claim.pre args=true)(qk:WellAll P h vals args) :
 ∃a vs Z,vals=[Value.ref a]/\args=[WData.list (Z.map WData.int)]/\h.get? a=some { cls:=.type "list",data:=.seq vs.toArray }/\IntsAre vs Z/\Z.length<=n:=by
 have qq:WShape.hasAll [] args [.list .int]=true:=(pre_splitW G).1;have hc:l.pre.holds [] { args:=args }=true:=(pre_splitW G).2;obtain⟨d,r,rfl,h1,h2⟩:=hasAllW_cons qq;obtain rfl:=hasAllW_nil h2;obtain⟨xs,rfl,h3⟩:=hasW_list h1;obtain⟨Z,rfl⟩:=items_int h3;have U:Z.length<=n:=by
  unfold OpenLaw.pre at hc;have h4:(WTm.not (.lt (.lit (.int (n:Int))) (.len (.arg 0)))).holds [] { args:=[.list (Z.map .int)] }=true:=by have h4:=(holds_andW hc).1;rw[hn] at h4;exact h4
  have R:=condW_of h4 (w_not (w_lt w_lit (w_len_list (w_arg rfl))));rw[bu] at R;refine Nat.le_of_not_lt λq=>?_
  have q':(n:Int)<((Z.length:Nat):Int):=m_ q
  first
   |(rw[vo q'] at R;exact absurd R (by decide))
   |(simp at R;omega)
 cases qk with
 |cons w1 w2 =>
  cases w2;cases w1 with
  |list ho Ov=>exact⟨_,_,Z,rfl,rfl,ho,Ug Z _ Ov,U⟩
def aj3(l:OpenLaw)(Z:List WData):l.row.toRowW.claim.post Z (.bool true) Z=true :=
 postW_of (r:=l.row.toRowW) (X:=(true==true))
  (show WShape.has [] (.bool true) .bool=true by first|rfl|decide|simp[WShape.has,WShape.arms,WShape.armsAll])
  (show(WTm.eq .res (.lit (.bool true))).value [] { args:=Z,res:=some (.bool true),after:=Z }=some (.bool (true==true)) from w_eq_bool (w_res rfl) w_lit) rfl
def aci{l:OpenLaw}(hn:l.most=some n)(q4:d.params.defaults=[])(call:∀(w:World) (U Z:Shared) (mg mb:Zs) (fa:Addr) (o:Obj) (pm cd R:Value) (a:Addr) (vs:Zl) (ns:X9),
 Ground q loose [] XP w U mg mb Z.heap->YP w Z.heap ->
 Z.heap.get? fa=some o->o.data=.func (docDef d.name d.params d.body d.scope pm cd R)->Z.heap.CodeRec cd d.name->mg d.name=some (.ref fa) ->
 Z.heap.get? a=some { cls:=.type "list",data:=.seq vs.toArray }->IntsAre vs ns->ns.length<=n->Z.gens=#[] ->
 codeAny (model l.prog w) callerA (.call (.ref fa) ⟨[.ref a],[]⟩) (λr s'=>r=.ok (.ret (.bool true))/\OldK Z.heap s'.heap/\s'.os=Z.os/\AllBare s'.gens) Z) :
 WalkO q loose XP YP l.row.toRowW d [] (λf vs=>PySem.call f vs):=by
 intro w U Z mg mb G Y fa o pm cd R dV kV ho hd q2 hD q0 hg q5 vals as qv q6 zz q3 q7;obtain rfl:dV=.none:=Dflts.none hD q4;obtain rfl:kV=.none:=Dflts.noKw hD;obtain⟨a,vs,ns,rfl,rfl,q1,qq,qk⟩:=aj2 hn qv q3;refine enter_call (codeAny_mono (call w U Z mg mb fa o pm cd R a vs ns G Y ho (fd_plain hd) q2 q0 q1 qq qk hg) λr s' hq=>?_);obtain⟨rfl,h2,h3,h4⟩:=hq;exact⟨.inl ⟨.bool true,.bool true,[],rfl,λ_=>rfl,.bool true,aj3 l _,λ_=>⟨List.Pairwise.nil,λ_ hm=>(nomatch hm)⟩⟩,h2,h3,h4⟩
end Att
namespace L2
open PySem PySem.Spec PyProof.Rows
theorem Yy:∀{Z:Zl}{G:X9},IntsAre Z G->Vals (G.map V.int) Z
 |_,_,.nil=>.nil|_,_,.cons n t h=>.cons ⟨t,rfl⟩ (Yy h)
def Only(H:Hp):Prop:=∀b,H b=none\/∃o Z,H b=some (.Jg o (.lst Z))
def aon{K:Fg}(KX:K.In s₁.heap)(qv:s₁.heap.Ns mainGlobals mg)(Z:s₁.heap.Ns builtinsNs mb)(q2:∀x:Str,x≠"__name__" -> mb x=bootBuiltins x)(q5:s₁.heap.NoLimit)(hg:s₁.gens=#[])(ha:s₁.heap.get? a=some { cls:=.type "list",data:=.seq vs.toArray })(hi:IntsAre vs ns)(hl:ns.length<=sizeLine)(hr:Fj k callerA)(F:∀G:Heap,K.In G->G.Ns mainGlobals mg->Dp P w K mg G CX k fa fd [x] sp)(q4:∀(s:Shared) (u:Value),BindsTo s fd ⟨[u],[]⟩ [(x,u)])(q3:∀H:Hp,Only H->Gm K H a (ns.map V.int)->sp [.ref a] H (λv _=>v=.bl true) λ_ _ _=>False)(zz:∀H e U,CX [] H s₁ (λ_ _ _=>False) e U->False) :
 codeAny (model P w) callerA (.call (.ref fa) ⟨[.ref a],[]⟩) (λr U=>r=.ok (.ret (.bool true))/\OldK s₁.heap U.heap/\U.os=s₁.os/\AllBare U.gens) s₁:=by
 have rv:=Yy hi;have qk:=hi.length;have qq:∀H:Hp,Only H->Gm K H a (ns.map V.int)->M8 P w H s₁.heap->(∀b,H b≠none->b=a)->(H a≠none->K.lookup a=none) ->
  codeAny (model P w) callerA (.call (.ref fa) ⟨[.ref a],[]⟩) (λr U=>r=.ok (.ret (.bool true))/\OldK s₁.heap U.heap/\U.os=s₁.os/\AllBare U.gens) s₁:=by
  intro H hO hS yr hA hK;have Fl:∀{b:Addr}{o:Obj},s₁.heap.get? b=some o->H b=none->(aac s₁.heap H).get? b=some o:=λe n=>ana e n
  have q6:∀{b:Addr}{o:Obj}{es:Array DictEntry}{ep:Nat},s₁.heap.get? b=some o->o.data=.dict es ep->H b=none:=fun{b o es ep} e d=>by
   cases q:H b with
   |none=>rfl
   |some u =>
    have e':b=a:=hA b (by rw[q];simp);subst e';rw[ha] at e;cases e;have d':Data.seq vs.toArray _=Data.dict es ep:=d;cases d'
  have R:∀{b:Addr}{m:Zs},s₁.heap.Ns b m->(aac s₁.heap H).Ns b m:=fun{b m} ⟨o,es,ep,e,d,r⟩=>⟨o,es,ep,Fl e (q6 e d),d,r⟩
  have q1:K.In (aac s₁.heap H):=λb o e=>Fl (KX b o e) (by
   cases q:H b with
   |none=>rfl
   |some u =>
    have e':b=a:=hA b (by rw[q];simp);subst e';rw[hK (by rw[q];simp)] at e;cases e)
  have hM:Mod K mg (aac s₁.heap H):=⟨q1,R qv,⟨mb,R Z,q2⟩,let ⟨mc,h1,h2⟩:=q5;⟨mc,R h1,h2⟩⟩;have e0:ae5 P w K mg (aac s₁.heap H) callerA [] s₁ H:=⟨rfl,hM,λb o e=>asr e,Nat.le_of_eq (ajj _ _),trivial,λb Z=>absurd (show b∈([]:X1) from Z) (by simp),yr,.of_eq hg⟩;refine codeAny_mono ((F _ q1 (R qv)).run callerA [] s₁ H ⟨[.ref a],[]⟩ [.ref a] [.ref a] _ _ hr e0 (q4 s₁ (.ref a)) (.cons rfl .nil) (q3 H hO hS)) λr U h=>?_
  cases r with
  |error e=>exact(zz H e U h).elim
  |ok fl =>
   cases fl with
   |next=>exact False.elim h|brk=>exact False.elim h|cont=>exact False.elim h
   |ret u =>
    obtain⟨v,H',os,q0,un,q7,r',q⟩:=h;have q':v=.bl true:=q;subst q';obtain rfl:u=Value.bool true:=r';refine⟨rfl,OldK.of_keep λb o e=>?_,os,q0⟩;cases q:H b with
    |none=>exact un.keep b o e q (by intro z;exact absurd (show b∈([]:X1) from z) (by simp)) (by simp)
    |some u =>
     rcases hO b with z|⟨ob,xs,z⟩
     .rw[q] at z;cases z
     .have z2:=un.Rz b ob _ z
      obtain⟨e1,_⟩:=yr b _ z;obtain⟨e2,_⟩:=q7 b _ z2;rw[e] at e1;cases e1;exact e2
 cases hk:K.lookup a with
 |some o =>
  have e:=KX a o hk;rw[ha] at e;cases e;refine qq (λ_=>none) (λ_=>.inl rfl) (.inr ⟨_,vs.toArray,_,hk,rfl,rfl,rfl,by rw[dm,qk];exact hl,by simpa using rv⟩) (λb u z=>by have z':(none:Option HO)=some u:=z;cases z') (λb z=>absurd rfl z) λz=>absurd rfl z
 |none =>
  refine qq (λb=>if b=a then some (.Jg { cls:=.type "list",data:=.seq vs.toArray } (.lst (ns.map V.int))) else none) (λb=>?_) (.inl (.inr ⟨{ cls:=.type "list",data:=.seq vs.toArray },cg rfl⟩)) (λb u z=>?_) (λb z=>?_) λ_=>hk
  .by_cases Z:b=a
   .exact .inr ⟨_,_,cg Z⟩
   .exact .inl (bz Z)
  .by_cases Z:b=a
   .have z':=(cg Z).symm.trans z
    cases z';subst Z;exact⟨ha,by rw[bu];exact hl,vs,_,rv,ha⟩
   .have z':=(bz Z).symm.trans z
    cases z'
  .by_cases Z:b=a
   .exact Z
   .exact absurd (bz Z) z
end L2
namespace L2
open PySem PySem.Spec PyProof.Rows
def atm{l:PySem.W.OpenLaw}{K:Params->Fg}{CX:World->CXT}{sp:World->Sp}(hn:l.most=some n)(q1:n<=sizeLine)(q3:d.params.defaults=[])(hr:Fj k callerA)(hY:∀(w:World) (h:Heap),YP w h->(K w.params).In h)(F:∀(w:World) (mg:Zs) (fa:Addr) (h:Heap),(K w.params).In h->h.Ns mainGlobals mg->mg d.name=some (.ref fa) ->
 ∃fd:FuncData,(∀(s:Shared) (u:Value),BindsTo s fd ⟨[u],[]⟩ [(x,u)]) /\
  ∀Z:Heap,(K w.params).In Z->Z.Ns mainGlobals mg->Dp l.prog w (K w.params) mg Z (CX w) k fa fd [x] (sp w))(qk:∀(w:World) (H:Hp) (a:Addr) (ns:X9),ns.length<=n->Only H->Gm (K w.params) H a (ns.map V.int)->sp w [.ref a] H (λv _=>v=.bl true) λ_ _ _=>False)(q2:∀(w:World) (H:Hp) (s:Shared) (e:Value) (s':Shared),CX w [] H s (λ_ _ _=>False) e s'->False) :
 PySem.W.WalkO q loose XP YP l.row.toRowW d [] (λf vs=>PySem.call f vs):=by
 refine Att.aci hn q3 λw q4 qq mg mb fa o pm cd q5 a vs ns G Y ho hd q6 qv q0 R U hg=>?_
 have KX:=hY w _ Y;obtain⟨fd,hb,hF⟩:=F w mg fa _ KX G.T.g qv;exact aon KX G.T.g G.T.b G.T.builtins G.T.nolimit hg q0 R (au U q1) hr hF hb (λH hO hS=>qk w H a ns U hO hS) λH e s'=>q2 w H qq e s'
end L2
namespace L2
open PySem PySem.Spec PyProof.Rows
noncomputable def inClass(s:Stmt)(j:Nat):Stmt:=match s with
 |.ClassDef _ _ _ body _ _ _ _ _ _ _=>body.getD j (.Pass ⟨0,0,0,0⟩)|_=>.Pass ⟨0,0,0,0⟩
noncomputable def Iu(s:Stmt):Arguments:=match s with
 |.FunctionDef _ a _ _ _ _ _ _ _ _=>a|_=>{ posonlyargs:=[],args:=[],vararg:=none,kwonlyargs:=[],kw_defaults:=[],kwarg:=none,defaults:=[] }
noncomputable def Gp(s:Stmt):List Stmt:=match s with
 |.FunctionDef _ _ b _ _ _ _ _ _ _=>b|_=>[]
noncomputable def yx(s:Stmt):Scope:=match s with
 |.FunctionDef _ _ _ _ _ _ sc _ _ _=>sc|_=>{ kind:=.function,names:=[],isGenerator:=false,isCoroutine:=false }
abbrev CX0:CXT:=λ_ _ _ _ _ _=>False
abbrev E0:XK:=λ_ _ _=>False
def aoo:Passes CX0 X E0:=λ_ _ _ _ _ _ _ h=>h.elim
structure Fun(K:Fg)(x qual:Str)(st:Stmt)(f:Addr)(fd:FuncData):Prop where
 ex:∃(oc:Value)(od:Option Addr)(kV doc pm:Value)(an:Option Addr)(cdv ct:Value)(osl:Array (Option Value)),
  fd=PySem.W.fnOf x qual (Iu st) (Gp st) (yx st) .none kV doc pm an cdv ct/\K.lookup f=some ⟨oc,od,.func fd,osl⟩/\PySem.W.codeIn K cdv qual=true
 kp:PySem.W.keepIn K (.ref f)=true
def Fun.ok{K:Fg}{R:Stmt}(F:Fun K x qual R f fd)(S:Uy N ps (yx R))(len:∀U H Q E,sp U H Q E->U.length=ps.length)(qq:∀(G:Value) (A:Around) (Z:List Env) (s:Shared) (H:Hp) (U:List V) (Q:VK) (E:XK),Fj k (A.deeper (envOfC qual (yx R) s.heap.objs.size f G))->sp U H Q E ->
 ∃t,Nx (O6 CX0 P w K mg base N qual (yx R) f G A Z s H E).nox (Gp R) t/\t { nx:=λ_ H'=>Q .non H',rt:=Q } (start N U) H):Dp P w K mg base CX0 (k+1) f fd ps sp:=by
 obtain⟨oc,od,kV,q0,pm,an,G,ct,q1,rfl,lk,qv⟩:=F.ex;refine awo lk qv S len λA Z s H U Q E hr qk=>?_
 obtain⟨t,h,q⟩:=qq G A Z s H U Q E hr qk;exact⟨t,h.nox,q⟩
def Fun.binds{K:Fg}{U:Stmt}(F:Fun K x qual U f fd)(h:∀(kV Z pm:Value) (R:Option Addr) (G ct:Value) (us:Zl),us.length=ps.length->bindArgs (PySem.W.fnOf x qual (Iu U) (Gp U) (yx U) .none kV Z pm R G ct) ⟨us,[]⟩=pure (ps.zip us)):Binds K fd ps []:=by obtain⟨oc,od,kV,Z,pm,R,G,ct,qq,rfl,lk,qk⟩:=F.ex;exact .all (h kV Z pm R G ct)
def aop{K:Fg}{U:Stmt}{f:Addr}{oc:Value}{od an:Option Addr}{R:Array (Option Value)}{kV G pm Z ct:Value}(l:K.lookup f=some ⟨oc,od,.func (PySem.W.fnOf x qual (Iu U) (Gp U) (yx U) .none kV G pm an Z ct),R⟩)(c:PySem.W.codeIn K Z qual=true)(k:PySem.W.keepIn K (.ref f)=true):Fun K x qual U f (PySem.W.fnOf x qual (Iu U) (Gp U) (yx U) .none kV G pm an Z ct):=⟨⟨oc,od,kV,G,pm,an,Z,ct,R,rfl,l,c⟩,k⟩
end L2
namespace L2
open PySem PySem.Spec PyProof.Rows
noncomputable def grd(h:Heap)(S:X1):Heap:=⟨h.objs.mapIdx λi o=>if i∈S then{ o with data:=.freed } else o,h.life⟩
def Sh{h:Heap}{S:X1}{b:Addr}(Z:b∈S):(grd h S).get? b=none:=by
 unfold Heap.get? grd;rw[Array.getElem?_mapIdx];cases h.objs[b]? with
 |none=>rfl|some o=>simp[Z]
def aam{h:Heap}{S:X1}{b:Addr}(Z:b∉S):(grd h S).get? b=h.get? b:=by
 unfold Heap.get? grd;rw[Array.getElem?_mapIdx];cases h.objs[b]? with
 |none=>rfl|some o=>simp[Z]
def Sq(h:Heap)(S:X1):(grd h S).StaysIn h:=λb o e=>by
 by_cases Z:b∈S
 .rw[Sh Z] at e;cases e
 .rw[aam Z] at e;exact e
def Wl{h:Heap}{S:X1}{b:Addr}(e:(grd h S).get? b=none):b∈S\/h.get? b=none:=by
 by_cases Z:b∈S
 .exact .inl Z
 .rw[aam Z] at e;exact .inr e
theorem Q8{h Z:Heap}{S:X1}:∀{l:List Env},(∀b∈Lf l,b∈S)->h.FunFrames Z l->h.FunFrames (grd h S) l
 |[],_,_=>trivial
 |env::l,hs,⟨hk,⟨L,o,hf,hn,ho,hd⟩,hr⟩=>by
  have G:L∈S:=hs L (by simp[Lf,hf]);refine⟨hk,⟨L,o,hf,Sh G,ho,hd⟩,Q8 (λb U=>hs b ?_) hr⟩;simp only[Lf,zq,hf];exact bh _ U
structure Trc(h:Heap)(e T:Addr)(cls a0:Value):Prop where
 x:∃oe vs oT ts,h.get? e=some oe/\(oe.cls=cls/\vs[0]?=some a0)/\oe.data=.fields vs/\vs[1]?=some (.ref T)/\T≠e/\h.get? T=some oT/\oT.data=.fields ts/\ts[3]?=some .none
structure Lv(fr S:X1)(h h':Heap):Prop where
 keep:∀b o,h.get? b=some o->b∉fr->b∉S->h'.get? b=some o
 slot:∀b o,h.get? b=some o->b∈fr->∃sl,h'.get? b=some { o with slots:=sl }
def Wm{h Z:Heap}{l:List Env}(U:h.FunFrames Z l){b:Addr}(G:b∈Lf l):∃o,h.get? b=some o/\∀vs,o.data≠.fields vs:=(U.mem G).2
section
variable{M:Model}{A:Around}{E:Y1}{s:Shared}
theorem aor{Z h G:Heap}{l:List Env}{S:X1}(hl:h.FunFrames Z l)(st:(grd h (Lf l++S)).StaysIn G)(up:h.UpToSlots G):Lv (Lf l) S h G where
 keep:=λb o e U h2=>st b o (by rw[aam];exact e;intro q;rcases bx.mp q with q|q;exact U q;exact h2 q)
 slot:=λb o e U=>by obtain⟨o',R,nf⟩:=Wm hl U;rw[e] at R;cases R;exact up b o e nf
def afc{U h:Heap}{G:Env}{Z:List Env}{L e:Addr}{qk:Value}{qq:Zl}{Q:Unit->Shared->Prop}
 (q0:A.frames=some (G::Z)) (hf:G.frame=some L) (hl:h.FunFrames U (G::Z)) (hx:Heap.MadeExcOf h s.heap e qk qq)
 (hQ:∀h' T t,Trc h' e T qk (.ref t)->h.get? T=none->h'.FunFrames (grd h (Lf (G::Z))) Z->Lv (Lf (G::Z)) [] h h'->Q () { s with heap:=h' }):wpAny M A (leaving G (.ref e)) Q E s:=by
 have q3:=Q8 (S:=Lf (G::Z)) (λb hb=>hb) hl;refine wpAny_leaves_madeW q0 hf (Sq h (Lf (G::Z))) q3 hx λh' t qv q5 _ up=>?_
 obtain⟨k1,k2,k3,oe,vs,T,oT,ts,he,hc,hd,h1,q4,q2,hT,R,h3⟩:=qv;refine hQ h' T t ⟨oe,vs,oT,ts,he,hc,hd,h1,q2,hT,R,h3⟩ ?_ k3 ?_
 .rcases Wl q4 with q|q
  .exfalso
   obtain⟨o,ho,nf⟩:=Wm hl q;obtain⟨sl,e2⟩:=up T o (hx.keeps T o ho) nf;rw[hT] at e2;cases e2;exact nf ts R
  .exact q
 .have q1:h.UpToSlots h':=λb o e nf=>up b o (hx.keeps b o e) nf
  exact aor (S:=[]) hl (by rw[kh];exact k1) q1
def aos{qq:Heap}{G:Env}{Z:List Env}{L e T:Addr}{q2 a0:Value}{Q:Unit->Shared->Prop}
 (q6:A.frames=some (G::Z)) (hf:G.frame=some L) (hl:s.heap.FunFrames qq (G::Z)) (F:Trc s.heap e T q2 a0)
 (hQ:∀R U,Trc R e U q2 a0->(U=T\/s.heap.get? U=none)->R.FunFrames (grd s.heap (Lf (G::Z)++[e,T])) Z->Lv (Lf (G::Z)) [e,T] s.heap R->Q () { s with heap:=R }):wpAny M A (leaving G (.ref e)) Q E s:=by
 obtain⟨oe,vs,oT,ts,he,hc,hd,h1,zz,hT,q4,h3⟩:=F.x;have zk:=Q8 (S:=Lf (G::Z)++[e,T]) (λb hb=>ig _ hb) hl;refine wpAny_leaves_onW q6 hf ⟨Sq _ _,Sh (by simp),zk,oe,vs,T,oT,ts,he,hc,hd,h1,Sh (by simp),zz,hT,q4,h3⟩ λR q5 up=>?_
 obtain⟨k1,k2,k3,z3,z1,U,z4,q1,q3,z2,z0,q7,zv,qk,q0,qv,zw⟩:=q5;refine hQ R U ⟨z3,z1,z4,q1,q3,z2,z0,q7,qk,q0,qv,zw⟩ ?_ k3 (aor hl k1 up);rcases Wl zv with q|q
 .rcases bx.mp q with q|q
  .exfalso
   obtain⟨o,ho,nf⟩:=Wm hl q;obtain⟨sl,e2⟩:=up U o ho nf;rw[q0] at e2;cases e2;exact nf q1 qv
  .simp at q
   rcases q with q|q
   .exact absurd q qk
   .exact .inl q
 .exact .inr q
end
structure Flt(h₀:Heap)(H:Hp)(h:Heap)(e T:Addr)(cls a0:Value):Prop where
 t:Trc h e T cls a0
 ne:h₀.get? e=none
 nT:h₀.get? T=none
 he:H e=none
 hT:H T=none
def CXE(P:Program)(w:World):CXT:=λZ H s E v U=>∃e T G a0 R,v=.ref e/\U.os=s.os/\AllBare U.gens/\Un (Lf Z) [] H R s.heap U.heap/\M8 P w R U.heap/\Flt s.heap R U.heap e T G a0/\E G none R
def XOn(X:Cx)(E:XK):Prop:=∀(Z:Zp)(U:St)(H:Hp)(s:Shared)(e T:Addr)(G R:Value),Inv X Z U H s->Flt X.s₀.heap H s.heap e T G R->(∀p∈X.pn++Z,p.1≠e/\p.1≠T)->E G none H->X.xe (.ref e) s
def aow(X:Cx)(E:XK):Prop:=∀(G:Zp)(σ:St)(H:Hp)(s:Shared)(R:Heap)(e:Addr)(Z:Value)(U:Zl),Inv X G σ H s->Heap.MadeExcOf s.heap R e Z U->E Z none H->X.xe (.ref e) { s with heap:=R }
def Jo{X:Cx}{Z:Zp}{U:St}{H:Hp}{s:Shared}(I:Inv X Z U H s)(G:X.ex=[])(h:s.heap.get? b=none):X.s₀.heap.get? b=none:=by
 cases q:X.s₀.heap.get? b with
 |none=>rfl
 |some o =>
  obtain⟨R,e⟩:=I.base.there b o q (by rw[G];simp);rw[h] at e;cases e
def a7h{X:Cx}{E:XK}(hx:X.ex=[])(h:XOn X E):Passes (CXE X.prog X.w) X E:=λZ R H s v s' I hh=>by
 obtain⟨e,T,U,a0,H',rfl,os,G,un,yr,F,q⟩:=hh;have J:Inv X Z R H' s':=I.call' (ch:=[]) os un yr G (λb z=>absurd z (by simp));exact h Z R H' s' e T U a0 J ⟨F.t,Jo I hx F.ne,Jo I hx F.nT,F.he,F.hT⟩ (λp hp=>by
  have z:=(I.pin p hp).1;refine⟨λq=>?_,λq=>?_⟩
  .rw[q,F.ne] at z;cases z
  .rw[q,F.nT] at z;cases z) q
def aox{P:Program}{w:World}{H:Hp}{h:Heap}{a:Addr}{o:HO}(x:Aq P w H h a o):∃u,h.get? a=some u:=by
 cases o with
 |lst Z=>obtain⟨_,_,_,_,e⟩:=x;exact⟨_,e⟩
 |tup Z=>obtain⟨_,_,_,_,e,_⟩:=x;exact⟨_,e⟩
 |dK G=>obtain⟨_,_,_,_,_,_,_,e,_⟩:=x;exact⟨_,e⟩
 |dT G=>obtain⟨_,_,_,_,_,_,_,e,_⟩:=x;exact⟨_,e⟩
 |set S n=>obtain⟨_,_,_,_,e,_⟩:=x;exact⟨_,e⟩
 |ins C dx fs=>obtain⟨_,_,_,e,_⟩:=x;exact⟨_,e⟩
 |own y=>obtain⟨_,e⟩:=x;exact⟨_,e⟩
 |xd fs=>obtain⟨_,⟨_,_,_,e,_⟩,_⟩:=x;exact⟨_,e⟩
 |Pu lo hi=>obtain⟨_,_,_,e⟩:=x;exact⟨_,e⟩
 |Jg R u=>obtain⟨e,_⟩:=x;exact⟨_,e⟩
 |tbl U=>exact⟨_,(show h.get? a=some _ from x)⟩
 |met f y=>exact⟨_,(show h.get? a=some _ from x)⟩
 |ext φ=>obtain⟨_,e,_⟩:=x;exact e
def Q9{P:Program}{w:World}{H:Hp}{h:Heap}{a:Addr}(x:M8 P w H h)(n:h.get? a=none):H a=none:=by
 cases z:H a with
 |none=>rfl
 |some o =>
  obtain⟨u,e⟩:=aox (x a o z);rw[n] at e;cases e
def afd{P:Program}{w:World}{H:Hp}{h h':Heap}{G S:X1}(x:M8 P w H h)(l:Lv G S h h')(U:∀b∈G,H b=none)(R:∀b∈S,H b=none):M8 P w H h':=λa o e =>
 (x a o e).stay (λb u Z q=>l.keep b u q (λz=>by
  have:=U b z;rcases Z with rfl|Z
  .rw[e] at this;cases this
  .rw[Z] at this;cases this) (λz=>by
  have:=R b z;rcases Z with rfl|Z
  .rw[e] at this;cases this
  .rw[Z] at this;cases this)) (λ_ q=>q) λ_ _ q=>q
section
variable{P:Program}{w:World}{K:Fg}{mg:Zs}{base:Heap}{N:Yf}{qual:Str}{scope:Scope}{f:Addr}{cd:Value}{A:Around}{outer:List Env}{s:Shared}{H:Hp}{E:XK}
def ahw{U:CXT}{R:Zp}{σ:St}{H1:Hp}{s1:Shared}{h':Heap}{S:X1}(I:Inv (O6 U P w K mg base N qual scope f cd A outer s H E) R σ H1 s1)
 (l:Lv (Lf (O6 U P w K mg base N qual scope f cd A outer s H E).stack) S s1.heap h') (hS:∀b∈S,s.heap.get? b=none):Un (Lf outer) [] H H1 s.heap h':=by
 have G:Un (Lf outer) [] H H1 s.heap s1.heap:=I.base;have lo:∀b o,s.heap.get? b=some o->b∉S:=λb o e z=>by rw[hS b z] at e;cases e
 have ab:s.heap.objs.size<=s.heap.objs.size:=bf _
 have nf:∀b o,s.heap.get? b=some o->b∉Lf outer->b∉Lf (O6 U P w K mg base N qual scope f cd A outer s H E).stack:=λb o e Z z=>by
  rcases dh.mp (I.O5 b z) with q|q
  .have:=az e
   have h2:s.heap.objs.size<=(O6 U P w K mg base N qual scope f cd A outer s H E).env.locals:=I.ok.above
   rw[q] at this;exact absurd (fc this h2) (m8 _)
  .exact Z q
 have any:∀b o,s1.heap.get? b=some o->b∉S->∃o',h'.get? b=some o'/\∃sl,o'={ o with slots:=sl }:=λb o e Z=>by
  by_cases q:b∈Lf (O6 U P w K mg base N qual scope f cd A outer s H E).stack
  .obtain⟨sl,e2⟩:=l.slot b o e q
   exact⟨_,e2,sl,rfl⟩
  .exact⟨o,l.keep b o e q Z,o.slots,rfl⟩
 refine⟨λb o e n Z hx=>?_,λb o e n Z hx=>?_,G.free,λb o e hx=>?_,G.O3,G.Rz,G.Uc⟩
 .exact l.keep b o (G.keep b o e n Z hx) (nf b o e Z) (lo b o e)
 .obtain⟨sl,e1⟩:=G.slot b o e n Z hx
  obtain⟨o',e2,qq,rfl⟩:=any b _ e1 (lo b o e);exact⟨qq,e2⟩
 .obtain⟨o1,e1⟩:=G.there b o e hx
  obtain⟨o',e2,_⟩:=any b o1 e1 (lo b o e);exact⟨o',e2⟩
def a0e:XOn (O6 (CXE P w) P w K mg base N qual scope f cd A outer s H E) E:=λR σ H1 s1 e T U a0 I F _ q=>by
 have ne:∀b∈[e,T],s.heap.get? b=none:=λb Z=>by
  simp at Z;rcases Z with rfl|rfl
  .exact F.ne
  .exact F.nT
 have nH:∀b∈[e,T],H1 b=none:=λb Z=>by
  simp at Z;rcases Z with rfl|rfl
  .exact F.he
  .exact F.hT
 refine aos (L:=s.heap.objs.size) I.ok.frames rfl I.stack F.t λh' T' t' G _ l=>?_
 refine⟨e,T',U,a0,H1,rfl,I.os,I.bare,ahw I l ne,afd I.yr l I.Q0 nH,⟨t',F.ne,?_,F.he,?_⟩,q⟩
 .rcases G with rfl|hn
  .exact F.nT
  .exact Jo I rfl hn
 .rcases G with rfl|hn
  .exact F.hT
  .exact Q9 I.yr hn
def atp:aow (O6 (CXE P w) P w K mg base N qual scope f cd A outer s H E) E:=λU σ H1 s1 h1 e G R I M q=>by
 refine afc (s:={ s1 with heap:=h1 }) (L:=s.heap.objs.size) I.ok.frames rfl I.stack M λh' T t t' Z _ l=>?_
 exact⟨e,T,G,.ref t,H1,rfl,I.os,I.bare,ahw I l (λb z=>absurd z (by simp)),afd I.yr l I.Q0 (λb z=>absurd z (by simp)),⟨t',Jo I rfl M.new,Jo I rfl Z,Q9 I.yr M.new,Q9 I.yr Z⟩,q⟩
end
structure aj5(K:Fg)(C:Addr)(bmB:Zl)(newId:String):Prop where
 i:PySem.W.excIn K C bmB newId=true
set_option tactic.hygienic true in
def aj5.obj{K:Fg}{C:Addr}{Y:Zl}{Z:String}(c:aj5 K C Y Z){h:Heap}(X:K.In h) :
 ∃bm N nm q bs G sn qq ab J dd k0 k1 k2 k3 k5 mN,h.get? C=some (excClassObj nm q C N bs bm G sn qq ab J dd k0 k1 k2 k3 k5 Z)/\h.Ns N mN/\mN "__init__" = none/\OwnTail h Y bm:=by
 have z:=c.i;unfold PySem.W.excIn at z;split at z
 .rename_i od L sl hl
  split at z
  .rename_i C2 tl x0 x1 x2 x3 n x5 qk U
   simp only[ao,xn,Bool.not_eq_true'] at z;obtain⟨⟨⟨⟨⟨y1,y2⟩,y3⟩,y4⟩,y5⟩,y6⟩:=z;cases L with
   |mk c1 c2 c3 c4 c5 c6 c7 c8 c9 S u =>
    have e3:c3=.ref C2::tl:=qk;have R:u=false:=y3;cases sl with
    |mk ls =>
     have e:ls=[x0,x1,x2,x3,some (.builtin n),x5]:=U;subst e3 R e y1 y2;exact⟨tl,c4,c1,c5,c2,c6,c7,c8,c9,S,od,x0,x1,x2,x3,x5,_,X _ _ hl,.of_isNs (PySem.W.isNs_of_in X y5),PySem.W.nsMap_none_of_in X y5 y6,PySem.W.tail_of_in X y4⟩
  .cases z
 .cases z
def a0f(C:Addr)(E:XK)(t:TA):TS:=λ_ U H=>t U H λZ G=>Z.length<=sizeLine/\E (.ref C) none G
section
variable{bmB bmN:Zl}{B Bn newId nid initId inN:String}
def aoy{X:Cx}{E:XK}{C:Addr}{x:Str}{np Ln q3:Pos}{e:Expr}{U:Ya}{t:TA}(Fn:ExcBaseFacts Bn newId inN bmN)(q2:bmB.contains (.type Bn)=true)(FB:ExcBaseFacts B nid initId bmB)
 (hc:aj5 X.K C bmB newId) (hn:aow X E) (Ft:X.calm=true) (hg:Gl X x) (hm:X.mg x=some (.ref C)) (ha:PA X (e::U) t) (Ph:(x==("__debug__" : Str))=false)
 (he:starEach (e::U) X.env=(false,eval e X.env)::starEach U X.env) (K5:(backTo Ln (starEach U X.env)).any (·.1)=false) :
 PS X (.Raise (some (.Call (.Name x np) (e::U) [] Ln)) none q3) (a0f C E t):=by
 intro Z s σ H D I h;obtain⟨tl,N,nm,q,bs,G,sn,qv,ab,qk,dd,k0,k1,k2,k3,k5,mN,hC,hN,q0,T⟩:=hc.obj I.ok.mod.kin;refine wpAny_Raise_call_subU (C:=C) (nm:=nm) (q:=q) (N:=N) (bs:=bs) (bm:=tl) (hdct:=G) (sn:=sn) (sub:=qv) (ab:=ab) (col:=qk) (dd:=dd) (k0:=k0) (k1:=k1) (k2:=k2) (k3:=k3) (k5:=k5)
  Fn q2 FB (mN:=mN) (T.hasType FB.hasBase) (I.ok.hd Ft) (by rw[he];show(false||(backTo Ln (starEach U X.env)).any (·.1))=false;rw[K5];rfl) q0 (Ny I hg hm ⟨rfl,?_⟩ Ph)
 have z:=ha Ln Z s σ H _ I h;rw[he] at z ⊢;refine Calls.evalArgs_plain (j6 z (λvs qq R=>?_) λ_ _ y=>y);obtain⟨ws,H1,I1,r1,hl,q1⟩:=R;exact⟨rfl,by rw[<- Vals.length r1];exact hl,I1.bk _ _ hC,hN.keeps I1.bk,T.keeps I1.bk,λh' e hm=>hn Z σ H1 qq h' e _ _ I1 hm q1⟩
end
open PySem PySem.Spec PySem.Calls PyProof.Rows
noncomputable def aj6(K:Fg)(C:Addr):Bool :=
 (PySem.W.findIn K (.ref C) "__getattribute__"==some (some (.builtin "BaseException.__getattribute__"))&&PySem.W.findIn K (.ref C) "__getattr__"==some none) &&
 ((PySem.W.findIn K (.ref C) "__class__"==some (some (.builtin "object.__class__"))&&PySem.W.subIn K (.ref C) (.type "BaseException")==some true)&&(PySem.W.subIn K (.ref C) (.type "object")==some true&&(PySem.W.clsIn K C).isSome))
structure afe(K:Fg)(C:Addr):Prop where
 ga:PySem.W.findIn K (.ref C) "__getattribute__" = some (some (.builtin "BaseException.__getattribute__"))
 nh:PySem.W.findIn K (.ref C) "__getattr__" = some none
 cl:PySem.W.findIn K (.ref C) "__class__" = some (some (.builtin "object.__class__"))
 sB:PySem.W.subIn K (.ref C) (.type "BaseException")=some true
 sO:PySem.W.subIn K (.ref C) (.type "object")=some true
 is:(PySem.W.clsIn K C).isSome=true
def atq{K:Fg}{C:Addr}(h:aj6 K C=true):afe K C:=by simp only[aj6,ao,xn] at h;exact⟨h.1.1,h.1.2,h.2.1.1,h.2.1.2,h.2.2.1,h.2.2.2⟩
section
variable{prog:Program}{w:World}{A:Around}{E:Y1}{h:Heap}{g:Array GenState}{d:Drawn}{t:Nat}{os:OsState}{a C:Addr}{o:Obj}{K:Fg}
set_option tactic.hygienic true in
def a0g{R:Result->Shared->Prop}(X:K.In h)(U:afe K C)(G:h.get? a=some o)(J:o.cls=.ref C)(L:R (.ok (.ret (.ref C))) ⟨h,g,d,t,os⟩) :
 codeAny (model prog w) A (.call (.builtin "getset_descriptor.__get__") ⟨[.builtin "object.__class__",.ref a,.ref C],[]⟩) R ⟨h,g,d,t,os⟩:=by
 have Z:(⟨h,g,d,t,os⟩:Shared).TypeIs (.builtin "object.__class__") "getset_descriptor" := F.typeOf_object_class;have Y:=zr (M:=model prog w) X U.sO;rw[<- F.owner_object_class] at Y;refine vm F.slot_gs_get.plain F.entry_gs_get (F.slot_gs_get.check _ _ _ _ _ _ _ _ Z (F.args_gs_get _ _ _) ?_)
 repeat (any_goals (first|assumption|(with_reducible refine qw G ?_;rw[J])|with_reducible refine Y.at ?_|wp_step))
 refine⟨Code.quiet_builtin _ (by decide+kernel),codeAny_builtin F.entry_object_class ?_⟩
 repeat (any_goals (first|assumption|(with_reducible refine qw G ?_;rw[J])|wp_step))
set_option tactic.hygienic true in
def aoz{L:Tok}{Q:Fin->Shared->Prop}(X:K.In h)(Z:afe K C)(Y:h.get? a=some o)(G:o.cls=.ref C)(S:Q (.done (.ret (.ref C))) ⟨h,g,d,t,os⟩) :
 wpAny (model prog w) A (Builtin.«object.__getattribute__» ⟨[.ref a,.str "__class__" L],[]⟩) Q E ⟨h,g,d,t,os⟩:=by
 have J:(⟨h,g,d,t,os⟩:Shared).TypeIs (.builtin "object.__class__") "getset_descriptor" := F.typeOf_object_class;have f5:=F.typeOf_object_class;have R:=F.slot_gs_get.lookup;have u:=F.slot_gs_set.lookup;have U:=za (M:=model prog w) X Z.cl
 repeat (any_goals (first|assumption|(with_reducible refine qw Y ?_;rw[G])|with_reducible refine U.at ?_|wp_step))
 refine a0g X Z Y G ?_
 repeat (any_goals (first|assumption|wp_step))
set_option tactic.hygienic true in
def ao0{M:Model}{Z:Value}{Q:Unit->Shared->Prop}(X:K.In h)(U:afe K C)(L:h.get? a=some o)(S:o.cls=.ref C)(G:Q () ⟨h,g,d,t,os⟩):wpAny M A (checkBuiltinCall "BaseException.__getattribute__" ⟨[.ref a,Z],[]⟩) Q E ⟨h,g,d,t,os⟩:=by
 have R:builtinKind "BaseException.__getattribute__" = some .slot:=by decide+kernel
 have Y:splitId "BaseException.__getattribute__" = some ("BaseException", "__getattribute__"):=by decide+kernel
 have J:=zr (M:=M) X U.sB;have u:=F.args_bexc_ga (.ref a) Z;simp only[checkBuiltinCall,R,Y];refine aa ?_;unfold isInstance
 repeat (first|(with_reducible refine qw L ?_;rw[S])|with_reducible refine J.at ?_|wp_step)
 exact G
set_option tactic.hygienic true in
def a7i{u:Tok}{Y Z:Bool}{Q:Y1}(X:K.In h)(G:afe K C)(J:h.get? a=some o)(L:o.cls=.ref C)(hq:Q (.ref C) ⟨h,g,d,t,os⟩) :
 wpAny (model prog w) A (getAttrBy (.ref a) (.str "__class__" u) Y Z) Q E ⟨h,g,d,t,os⟩:=by
 have f3:bindSpecial (.builtin "BaseException.__getattribute__") (.ref a)=pure (.builtin "BaseException.__getattribute__",[.ref a]):=F.attr_ValueError.ga.bind _;have R:(Z&&onTheHeap (Value.builtin "BaseException.__getattribute__"))=false:=by cases Z<;>rfl
 have U:(Value.builtin "BaseException.__getattribute__"==Value.builtin "object.__getattribute__")=false:=by decide+kernel
 have S:(onTheHeap (Value.ref C)&&Value.builtin "BaseException.__getattribute__"==Value.builtin "object.__getattribute__")=false:=by rw[U];rfl
 have f1:=za (M:=model prog w) X G.ga;have f2:=za (M:=model prog w) X G.nh
 repeat (any_goals (first|assumption|(with_reducible refine qw J ?_;rw[L])|with_reducible refine f1.at ?_|with_reducible refine f2.at ?_|wp_step))
 refine vm F.attr_ValueError.ga.plain F.entry_bexc_ga (ao0 X G J L (aoz X G J L ?_))
 repeat (any_goals (first|assumption|wp_step))
def atr{Q:Option Value->Shared->Prop}(X:K.In h)(Z:afe K C)(U:h.get? a=some o)(G:o.cls=.ref C)(R:Q (some (.ref C)) ⟨h,g,d,t+1,os⟩):wpAny (model prog w) A (getAttr? (.ref a) "__class__") Q E ⟨h,g,d,t,os⟩:=by
 unfold getAttr? getAttrBy?
 repeat (any_goals (first|assumption|with_reducible apply a7i X Z U G|wp_step))
end
def XAt(a C:Addr)(h:Heap):Prop:=∃o,h.get? a=some o/\o.cls=.ref C
set_option tactic.hygienic true in
theorem ao1{K:Fg}{a C:Addr}(L:afe K C):PySem.W.KitX K (.ref a) (.ref C) (XAt a C) where
 ty:=λM h _ p=>by obtain⟨o,U,G⟩:=p;exact G▸(PySem.W.Looks.ld U).andThen .now
 it:=λ_ _ X _=>by
  obtain⟨R,Z⟩:=iz.mp L.is;unfold PySem.W.clsIn at Z;split at Z
  .rename_i J
   intro S Q' E' s' k q;unfold isType loadHead;exact aa (wpAny_loadPart (k _ _ (X _ _ J)) (aj q))
  .cases Z
 ne:=λh tp dd t6 n sl X Y=>by
  obtain⟨R,Z⟩:=iz.mp L.is;refine Bool.eq_false_iff.mpr λq=>?_
  have e:C=tp:=Value.ref.inj (xn.mp q);subst e;unfold PySem.W.clsIn at Z;split at Z
  .rename_i J
   have z:=(X _ _ J).symm.trans Y;cases z
  .cases Z
 ca:=fun{_ _ _ _ _ s} X p k=>by obtain⟨h,g,d,t,u⟩:=s;obtain⟨o,U,G⟩:=p;exact atr X L U G k
def Inv.lv{X:Cx}{U:Zp}{σ:St}{H:Hp}{s:Shared}{h':Heap}{S:X1}(I:Inv X U σ H s)(l:Lv (Lf X.stack) S s.heap h')
 (hS:∀b∈S,X.s₀.heap.get? b=none/\H b=none/\(∃o vs,s.heap.get? b=some o/\o.data=.fields vs)/\∀p∈X.pn++U,p.1≠b):Inv X U σ H { s with heap:=h' }:=by
 have nS:∀b o,X.s₀.heap.get? b=some o->b∉S:=λb o e z=>by rw[(hS b z).1] at e;cases e
 have nL:∀b o,X.s₀.heap.get? b=some o->b∉X.fs->b∉Lf X.stack:=λb o e hb z=>by
  rcases dh.mp (I.O5 b z) with q|q
  .have:=az e
   rw[q] at this;exact absurd (fc this I.ok.above) (m8 _)
  .exact hb q
 have any:∀b o,s.heap.get? b=some o->b∉S->∃sl,h'.get? b=some { o with slots:=sl }:=λb o e hb=>by
  by_cases q:b∈Lf X.stack
  .exact l.slot b o e q
  .exact⟨o.slots,l.keep b o e q hb⟩
 have R:∀x c,X.env.cells.lookup x=some c->∀v,s.heap.IsCell c v->h'.IsCell c v:=λx c e v ⟨o,ho,hd⟩=>by
  have nc:c∉S:=λz=>by obtain⟨o',vs,G,Z⟩:=(hS c z).2.2.1;rw[ho] at G;cases G;rw[hd] at Z;cases Z
  obtain⟨sl,q⟩:=any c o ho nc;exact⟨_,q,hd⟩
 have qk:X.env.locals∉S:=λz=>by obtain⟨m,⟨o,es,ep,ho,hd,_⟩,_⟩:=I.loc;obtain⟨o',vs,G,Z⟩:=(hS _ z).2.2.1;rw[ho] at G;cases G;rw[hd] at Z;cases Z
 refine⟨I.ok,I.os,I.bare,⟨λb o e n hb hx=>?_,λb o e n hb hx=>?_,I.base.free,λb o e hx=>?_,I.base.O3,I.base.Rz,I.base.Uc⟩,?_,λx c e=>?_,I.free,I.Fi,λp hp=>?_,afd I.yr l I.Q0 (λb hb=>(hS b hb).2.1),I.len⟩
 .exact l.keep b o (I.base.keep b o e n hb hx) (nL b o e hb) (nS b o e)
 .obtain⟨sl,G⟩:=I.base.slot b o e n hb hx
  obtain⟨qq,Z⟩:=any b _ G (nS b o e);exact⟨qq,Z⟩
 .obtain⟨o1,G⟩:=I.base.there b o e hx
  obtain⟨qq,Z⟩:=any b _ G (nS b o e);exact⟨_,Z⟩
 .obtain⟨m,⟨o,es,ep,ho,r⟩,hl⟩:=I.loc
  obtain⟨sl,Z⟩:=any _ o ho qk;refine⟨m,⟨_,es,ep,Z,r⟩,λi x v G Z e3=>?_⟩;obtain⟨u,r,l⟩:=hl i x v G Z e3;refine⟨u,r,?_⟩;rcases l with l|⟨k,c,e,z⟩
  .exact .inl l
  .exact .inr ⟨k,c,e,R x c e _ z⟩
 .obtain⟨v,z⟩:=I.cell x c e
  exact⟨v,R x c e v z⟩
 .obtain⟨e,n,ne,nf,d⟩:=I.pin p hp
  refine⟨l.keep p.1 p.2 e (λz=>?_) (λz=>(hS p.1 z).2.2.2 p hp rfl),n,ne,nf,d⟩;rcases dh.mp (I.O5 _ z) with q|q
  .exact ne q
  .exact nf q
def Inv.track{X:Cx}{Z:Zp}{σ:St}{H:Hp}{s:Shared}{e:Addr}{C:Addr}{U:Obj}{vs:Xt}(I:Inv X Z σ H s)(he:s.heap.get? e=some U)(hc:U.cls=.ref C)(hd:U.data=.fields vs)(hn:X.s₀.heap.get? e=none)(hH:H e=none)(hp:∀p∈X.pn++Z,p.1≠e) :
 Inv X Z σ (upd H e (.ext (XAt e C))) s:=by
 have ne:∀b o,H b=some o->b≠e:=λb o q z=>by rw[z,hH] at q;cases q
 have nL:X.env.locals≠e:=λz=>by obtain⟨m,⟨o,es,ep,R,G,_⟩,_⟩:=I.loc;rw[z,he] at R;cases R;rw[hd] at G;cases G
 have nC:∀x c,X.env.cells.lookup x=some c->c≠e:=λx c q z=>by obtain⟨v,o,R,G⟩:=I.cell x c q;rw[z,he] at R;cases R;rw[hd] at G;cases G
 refine⟨I.ok,I.os,I.bare,⟨I.base.keep,I.base.slot,λb o q n hx=>?_,I.base.there,λb xs q=>?_,λb o xs q=>?_,λb ps q=>?_⟩,I.loc,I.cell,?_,λx c q=>?_,λp h=>?_,λb o q=>?_,I.len⟩
 .rw[jx (λz=>by rw[z,hn] at q;cases q)];exact I.base.free b o q n hx
 .have:=I.base.O3 b xs q;rw[jx (ne _ _ this)];exact this
 .have:=I.base.Rz b o xs q;rw[jx (ne _ _ this)];exact this
 .obtain⟨m,z⟩:=I.base.Uc b ps q;exact⟨m,by rw[jx (ne _ _ z)];exact z⟩
 .rw[jx nL];exact I.free
 .rw[jx (nC x c q)];exact I.Fi x c q
 .obtain⟨e1,n,r⟩:=I.pin p h
  exact⟨e1,by rw[jx (hp p h)];exact n,r⟩
 .by_cases hb:b=e
  .subst hb
   rw[q9] at q;cases q;exact⟨⟨U,he,hc⟩,⟨U,he⟩,λh1 h2 z k=>let ⟨o,q1,q2⟩:=z;⟨o,k o q1,q2⟩⟩
  .rw[jx hb] at q
   exact(I.yr b o q).stay (λ_ _ _ z=>z) (λc z=>by rw[jx (ne _ _ z)];exact z) λc xs z=>by rw[jx (ne _ _ z)];exact z
section
variable{M:Model}{A:Around}{E:Y1}{s:Shared}
def ao2{R:Heap}{G:Env}{Z:List Env}{L e T:Addr}{q4 a0:Value}{Q:Shared->Prop}
 (zk:A.frames=some (G::Z)) (hf:G.frame=some L) (hl:s.heap.FunFrames R (G::Z)) (F:Trc s.heap e T q4 a0)
 (hQ:∀h' U,Trc h' e U q4 a0->(U=T\/s.heap.get? U=none)->h'.FunFrames (grd s.heap (Lf (G::Z)++[e,T])) (G::Z)->Lv (Lf (G::Z)) [e,T] s.heap h'->Q { s with heap:=h' }) :
 wpAny M A (noteFrame (.ref e) G) (λ_ qq=>wpAny M A (setFlight (.ref e) none) (λ_ q2=>Q q2) E qq) E s:=by
 obtain⟨oe,vs,oT,ts,he,hc,hd,h1,z0,hT,q6,h3⟩:=F.x;have z1:=Q8 (S:=Lf (G::Z)++[e,T]) (λb hb=>ig _ hb) hl;refine wpAny_looks_onW zk hf ⟨Sq _ _,Sh (by simp),z1,oe,vs,T,oT,ts,he,hc,hd,h1,Sh (by simp),z0,hT,q6,h3⟩ λh1 qv zz=>?_
 refine wpAny_landsW (s:={ s with heap:=h1 }) qv λh' q7 zw=>?_
 have up:s.heap.UpToSlots h':=zz.trans zw;obtain⟨k1,k2,k3,z7,z5,U,z8,q3,q5,z6,z4,zv,z2,qk,q1,q0,z3⟩:=q7;refine hQ h' U ⟨z7,z5,z8,q3,q5,z6,z4,zv,qk,q1,q0,z3⟩ ?_ k3 (aor hl k1 up);rcases Wl z2 with q|q
 .rcases bx.mp q with q|q
  .exfalso
   obtain⟨o,ho,nf⟩:=Wm hl q;obtain⟨sl,e2⟩:=up U o ho nf;rw[q1] at e2;cases e2;exact nf q3 q0
  .simp at q
   rcases q with q|q
   .exact absurd q qk
   .exact .inl q
 .exact .inr q
def afg{U:Heap}{l:List Env}{e T:Addr}{qq a0:Value}{Q:Unit->Shared->Prop}(hl:s.heap.FunFrames U l)(F:Trc s.heap e T qq a0)
 (hQ:∀h',Trc h' e T qq a0->Lv (Lf l) [e,T] s.heap h'->Q () { s with heap:=h' }):wpAny M A (setFlight (.ref e) none) Q E s:=by
 obtain⟨oe,vs,oT,ts,he,hc,hd,h1,R,hT,G,h3⟩:=F.x;have qk:3<ts.size:=(jf.mp h3).1
 refine wpAny_setFlight_none he hd h1 hT G qk ?_;have Z:∀b,b≠T->(s.heap.update T (Obj.mapFields (·.setIfInBounds 3 Value.none))).get? b=s.heap.get? b:=λb hb=>Heap.get?_update_other _ _ (jy hb)
 refine hQ _ ⟨oe,vs,_,_,(Z e (jy R)).trans he,hc,hd,h1,R,lz _ hT (u6 (m6 G _)),m6 G _,by simp[qk]⟩ ⟨λb o q _ n=>(Z b (λz=>n (by simp[z]))).trans q,λb o q m=>?_⟩;refine⟨o.slots,(Z b λz=>?_).trans q⟩;obtain⟨o',e',nf⟩:=Wm hl m;rw[z,hT] at e';cases e';exact nf ts G
end
section
variable{M:Model}{A:Around}{E:Y1}{h:Heap}{g:Array GenState}{d:Drawn}{t:Nat}{os:OsState}{e C B:Addr}{K:Fg}
noncomputable def afh(K:Fg)(C B:Addr):Bool:=(PySem.W.subIn K (.ref C) (.ref B)==some true&&PySem.W.subIn K (.ref B) (.type "BaseException")==some true)&&(PySem.W.typeIn K (.ref B)==some (.type "type")&&(PySem.W.clsIn K B).isSome)
set_option tactic.hygienic true in
def acj{G:Obj}{Q:Bool->Shared->Prop}(X:K.In h)(J:afh K C B=true)(L:h.get? e=some G)(Y:G.cls=.ref C)(hq:Q true ⟨h,g,d,t,os⟩):wpAny M A (excMatches (.ref e) (.ref B)) Q E ⟨h,g,d,t,os⟩:=by
 simp only[afh,ao,xn] at J;obtain⟨⟨U,h2⟩,S,h4⟩:=J;have f1:=zr (M:=M) X U;have R:=zr (M:=M) X h2;have f3:=PySem.W.looks_typeIn (M:=M) X S;obtain⟨qq,Z⟩:=iz.mp h4;have u:PySem.W.Looks M h (isType (.ref B)) true:=by
  unfold PySem.W.clsIn at Z;split at Z
  .rename_i c' d' qk qv ho
   intro A' Q' E' s' k q;unfold isType loadHead;exact aa (wpAny_loadPart (k _ _ (X _ _ ho)) (aj q))
  .cases Z
 have f:=tc_notTuple;unfold excMatches isInstance
 repeat (first|with_reducible refine f3.at ?_|with_reducible refine u.at ?_|with_reducible refine R.at ?_|with_reducible refine f1.at ?_|(with_reducible refine qw L ?_;rw[Y])|wp_step)
 exact hq
end
structure Roo(k:Nat)(A:PySem.Around):Prop where
 un:A.units+16*k+200<PySem.cLine
def Fj.roo(r:Fj k A):Roo k A:=⟨r.un⟩
def Roo.mono{j k:Nat}(r:Roo k A)(h:j<=k):Roo j A:=⟨by have:=r.un;lia⟩
theorem Roo.in1{k:Nat}(r:Roo (k+1) A):Roo k A.in1:=⟨by have:=r.un;show A.units+1+16*k+200<_;lia⟩
def Roo.Wn{k:Nat}(r:Roo k A):A.units<PySem.cLine:=by have:=r.un;lia
def Roo.hu{k:Nat}(r:Roo k A):A.units+1<PySem.cLine:=by have:=r.un;lia
open PySem PySem.Spec PySem.Calls PyProof.Rows
noncomputable def xb(X:Cx)(Z:Zp)(G:Y1):Cx:={ X with pn:=X.pn++Z,xe:=G }
noncomputable def xh(X:Cx)(Z:Zp)(e:Addr):Cx:={ X with A:=X.A.mark (some (.ref e)),calm:=false,pn:=X.pn++Z,xe:=λ_ _=>False }
section
variable{X:Cx}{pn pins:Zp}{σ:St}{H:Hp}{s:Shared}{xe:Y1}{e:Addr}
def Inv.toB(I:Inv X (pn++pins) σ H s):Inv (xb X pn xe) pins σ H s :=
 ⟨⟨I.ok.mod,I.ok.kind,I.ok.glob,I.ok.blt,I.ok.above,I.ok.inj,I.ok.has,I.ok.cab,I.ok.hd,I.ok.frames,I.ok.stk,I.ok.exf,I.ok.bs,I.ok.bsz,I.ok.ab7,I.ok.aer,I.ok.O4,I.ok.frf⟩,I.os,I.bare,I.base,I.loc,I.cell,I.free,I.Fi,λp Z=>I.pin p (by rw[<- o8];exact Z),I.yr,I.len⟩
def Inv.ofB(I:Inv (xb X pn xe) pins σ H s):Inv X (pn++pins) σ H s :=
 ⟨⟨I.ok.mod,I.ok.kind,I.ok.glob,I.ok.blt,I.ok.above,I.ok.inj,I.ok.has,I.ok.cab,I.ok.hd,I.ok.frames,I.ok.stk,I.ok.exf,I.ok.bs,I.ok.bsz,I.ok.ab7,I.ok.aer,I.ok.O4,I.ok.frf⟩,I.os,I.bare,I.base,I.loc,I.cell,I.free,I.Fi,λp Z=>I.pin p (by rw[<- o8] at Z;exact Z),I.yr,I.len⟩
def Inv.toH(I:Inv X (pn++pins) σ H s):Inv (xh X pn e) pins σ H s :=
 ⟨⟨I.ok.mod,I.ok.kind,I.ok.glob,I.ok.blt,I.ok.above,I.ok.inj,I.ok.has,I.ok.cab,λz=>(dw z).elim,I.ok.frames,I.ok.stk,I.ok.exf,I.ok.bs,I.ok.bsz,I.ok.ab7,I.ok.aer,I.ok.O4,I.ok.frf⟩,I.os,I.bare,I.base,I.loc,I.cell,I.free,I.Fi,λp Z=>I.pin p (by rw[<- o8];exact Z),I.yr,I.len⟩
def Inv.less(I:Inv X (pn++pins) σ H s):Inv X pn σ H s :=
 ⟨I.ok,I.os,I.bare,I.base,I.loc,I.cell,I.free,I.Fi,λp Z=>I.pin p (by
  rcases bx.mp Z with q|q
  .exact ig _ q
  .exact fu _ (ig _ q)),I.yr,I.len⟩
def Inv.ofH(ok:X.Ok)(I:Inv (xh X pn e) pins σ H s):Inv X (pn++pins) σ H s :=
 ⟨ok,I.os,I.bare,I.base,I.loc,I.cell,I.free,I.Fi,λp Z=>I.pin p (by rw[<- o8] at Z;exact Z),I.yr,I.len⟩
def Inv.gone{h':Heap}{m':Zs}{t':Nat}(I:Inv X pins σ H s)(qq:h'.Ns X.env.locals m')(G:Heap.SameBut X.env.locals s.heap h'):Inv X pins (List.replicate σ.length none) H { s with heap:=h',toks:=t' }:=by
 have Z:∀b o,X.s₀.heap.get? b=some o->b≠X.env.locals:=λb o e=>gh (fc (az e) I.ok.above)
 refine⟨I.ok,I.os,I.bare,⟨λb o e n hb R=>?_,λb o e n hb R=>?_,I.base.free,λb o e R=>?_,I.base.O3,I.base.Rz,I.base.Uc⟩,⟨_,qq,λj y v' e1 e2 e3=>?_⟩,λy c e=>?_,I.free,I.Fi,λp hp=>?_,λb ob e=>?_,by simpa using I.len⟩
 .exact(G.2 b (Z b o e)).trans (I.base.keep b o e n hb R)
 .obtain⟨sl,e1⟩:=I.base.slot b o e n hb R
  exact⟨sl,(G.2 b (Z b o e)).trans e1⟩
 .obtain⟨o',e1⟩:=I.base.there b o e R
  exact⟨o',(G.2 b (Z b o e)).trans e1⟩
 .rw[ur] at e2
  split at e2<;>cases e2
 .obtain⟨w',z⟩:=I.cell y c e
  exact⟨w',z.sameBut G (I.cne y c e)⟩
 .obtain⟨e,n,Z,nf,d⟩:=I.pin p hp
  exact⟨(G.2 p.1 Z).trans e,n,Z,nf,d⟩
 .refine(I.yr b ob e).stay (λc w' U q=>(G.2 c ?_).trans q) (λ_ q=>q) λ_ _ q=>q
  rintro rfl;rcases U with U|U
  .rw[<- U,I.free] at e;cases e
  .rw[I.free] at U;cases U
end
def bd8(K:Fg)(B:Addr)(i:Nat)(R:XK->TS)(th:TS):TS:=λD G H =>
 R (λZ _ U=>∃C,Z=.ref C/\afh K C B=true/\∀e,U e=none->th ⟨λ_ _=>False,D.rt,λ_ _=>False,λ_ _=>False⟩ ((List.replicate G.length none).set i (some (.ref e))) (upd U e (.ext (XAt e C)))) D G H
def a0j{X:Cx}{qv:List Stmt}{b0:Stmt}{qq:List Stmt}{mx n:Str}{np hp zk:Pos}{B:Addr}{i:Nat}{tb:XK->TS}{th:TS}(q4:X.ex=[])(T8:X.stack=X.env::X.outer/\X.env.frame=some X.env.locals)
 (hN:X.N.Nodup) (hi:X.N[i]?=some n) (hl:X.env.scope.names.lookup n=some .local) (hg:Gl X mx) (hm:X.mg mx=some (.ref B)) (Ph:(mx==("__debug__" : Str))=false)
 (hb:∀pn xe E,XOn (xb X pn xe) E->Nx (xb X pn xe) qv (tb E)) (hh:∀pn e,Nx (xh X pn e) (b0::qq) th) :
 PS X (.Try qv [.ExceptHandler (some (.Name mx np)) (some n) (b0::qq) hp] [] [] zk) (bd8 X.K B i tb th):=by
 intro Z s σ H D I h;refine wpAny_Try_except ?_;have I':∀xe,Inv (xb X Z xe) [] σ H s:=λxe=>Inv.toB (by rw[kh];exact I)
 refine j6 (hb Z _ _ ?_ [] s σ H D (I' _) h) (λf s1 z=>?_) (λ_ _ z=>z)
 ·
  intro U q1 H1 s1 e T z9 a0 J F q2 q;obtain⟨C,rfl,z0,q⟩:=q;have J1:Inv X (Z++U) q1 H1 s1:=J.ofB;have R:∀p∈X.pn++(Z++U),p.1≠e/\p.1≠T:=λp m=>q2 p (by show p∈(X.pn++Z)++U;rw[o8];exact m)
  have fr:X.A.frames=some (X.env::X.outer):=by rw[<- T8.1];exact J1.ok.frames
  have fl:s1.heap.FunFrames X.base (X.env::X.outer):=by rw[<- T8.1];exact J1.stack
  have qk:∀{h:Heap}{T:Addr},Trc h e T (.ref C) a0->(∃o vs,h.get? e=some o/\o.data=.fields vs)/\∃o vs,h.get? T=some o/\o.data=.fields vs:=λt=>by obtain⟨oe,vs,oT,ts,he,hc,hd,h1,z4,hT,zz,h3⟩:=t.x;exact⟨⟨oe,vs,he,hd⟩,⟨oT,ts,hT,zz⟩⟩
  have n1:X.s₀.heap.get? e=none:=F.ne;have n2:X.s₀.heap.get? T=none:=F.nT;refine ao2 fr T8.2 fl F.t λh1 T1 t1 q6 ff l=>?_
  have J2:Inv X (Z++U) q1 H1 { s1 with heap:=h1 }:=J1.lv (S:=[e,T]) (by rw[T8.1];exact l) λb hb=>by
   simp at hb;rcases hb with rfl|rfl
   .exact⟨n1,F.he,(qk F.t).1,λp m=>(R p m).1⟩
   .exact⟨n2,F.hT,(qk F.t).2,λp m=>(R p m).2⟩
  have n3:X.s₀.heap.get? T1=none/\H1 T1=none/\∀p∈X.pn++(Z++U),p.1≠T1:=by
   rcases q6 with rfl|z
   .exact⟨n2,F.hT,λp m=>(R p m).2⟩
   .refine⟨?_,Q9 J1.yr z,λp m w=>?_⟩
    .cases q0:X.s₀.heap.get? T1 with
     |none=>rfl
     |some o =>
      by_cases hx:T1∈X.ex
      .rw[q4] at hx;cases hx
      .obtain⟨o',e'⟩:=J1.base.there T1 o q0 hx
       rw[z] at e';cases e'
    .have:=(J1.pin p m).1
     rw[w,z] at this;cases this
  refine wpAny_handleBy_cons (codeAny_handlers_test (Ny (X:=xh X (Z++U) e) (pins:=[]) (Inv.toH (by rw[kh];exact J2)) hg hm ?_ Ph)) (by intro z;cases z);obtain⟨z7,z5,z8,z3,q3,q5,z6,-⟩:=t1.x;refine acj (K:=X.K) (C:=C) J2.kIn z0 q3 q5.1 ?_;show codeAny _ _ _ _ _;refine codeAny_handlers_suite_as ?_;have q7:h1.FunFrames X.base (X.env::X.outer):=by rw[<- T8.1];exact J2.stack
  refine afg (s:={ s1 with heap:=h1 }) q7 t1 λh2 t2 l2=>?_
  have J3:Inv X (Z++U) q1 H1 { s1 with heap:=h2 }:=Inv.lv (s:={ s1 with heap:=h1 }) J2 (S:=[e,T1]) (by rw[T8.1];exact l2) λb hb=>by
   simp at hb;rcases hb with rfl|rfl
   .exact⟨n1,F.he,(qk t1).1,λp m=>(R p m).1⟩
   .exact⟨n3.1,n3.2.1,(qk t1).2,n3.2.2⟩
  obtain⟨oe,vs,oT,ts,he,hc,hd,-⟩:=t2.x;have J4:=J3.track he hc.1 hd n1 F.he λp m=>(R p m).1
  have J5:Inv X (Z++U) (List.replicate σ.length none) _ _:=J4.weak (by simp[I.len,J4.len]) λi v z=>by rw[ur] at z;split at z<;>cases z
  have J6:Inv (xh X (Z++U) e) [] (List.replicate σ.length none) _ _:=Inv.toH (e:=e) (pn:=Z++U) (pins:=[]) (by rw[kh];exact J5);refine ab8 (X:=xh X (Z++U) e) (v:=.ref e) (u:=.ref e) J6 hN hi (.inl hl) rfl (λs' J7=>?_) (.inr hl);refine j6 (hh (Z++U) e [] s' _ _ _ J7 (q e F.he)) (λf s2 z=>?_) (λ_ _ z=>False.elim z);cases f with
  |next=>obtain⟨_,_,_,z⟩:=z;exact z.elim
  |brk=>obtain⟨_,_,_,z⟩:=z;exact z.elim
  |cont=>obtain⟨_,_,_,z⟩:=z;exact z.elim
  |ret u =>
   obtain⟨v,z2,H2,J8,r,z⟩:=z;obtain⟨m2,zv,_⟩:=J8.loc;show wpAny _ _ _ _ _ _;refine wpAny_nameGoes (m:=m2) hl zv (by rw[J1.ok.kind];rfl) λh3 m3 zw z1=>?_
   have J9:=(J8.gone (t':=s2.toks+1) zw z1).ofH J1.ok;rw[kh] at J9;exact⟨v,_,H2,J9.less,r,z⟩
 .cases f with
  |next =>
   obtain⟨G,H',J,q⟩:=z;have J:=J.ofB;rw[kh] at J;exact ahf Z s1 G H' D J q
  |brk=>obtain⟨G,H',J,q⟩:=z;have J:=J.ofB;rw[kh] at J;exact⟨G,H',J,q⟩
  |cont=>obtain⟨G,H',J,q⟩:=z;have J:=J.ofB;rw[kh] at J;exact⟨G,H',J,q⟩
  |ret u=>obtain⟨v,G,H',J,r,q⟩:=z;have J:=J.ofB;rw[kh] at J;exact⟨v,G,H',J,r,q⟩
noncomputable def Jp(cells:Xs):List (Str×NameKind)->List (Str×Addr)->List (Str×Addr)
 |[],cs=>cs|(n,k)::r,cs=>Jp cells r (if k==.free then(n,(cells.lookup n).getD 0)::cs else cs)
theorem Tz{G Z:Type}{f:G->Z->Sem (ForInStep Z)}{g:G->Z->Z}:∀{l:List G}(c:Z),(∀x∈l,∀c,f x c=pure (.yield (g x c)))->forIn l c f=pure (l.foldl (λc x=>g x c) c)
 |[],c,_=>rfl
 |x::l,c,h=>by
  rw[List.forIn_cons,h x cz,pure_bind];exact Tz (g x c) λy U=>h y (bh _ U)
theorem T3(cells:Xs):∀(l:X0)(Z:Xs),Jp cells l Z=l.foldl (λc x=>if x.2==.free then(x.1,(cells.lookup x.1).getD 0)::c else c) Z
 |[],_=>rfl|(n,k)::r,Z=>T3 cells r _
def Wo(h:∀y∈scope.names,y.2=.free->∃c,env.cells.lookup y.1=some c):closureFor scope env=pure (Jp env.cells scope.names []):=by
 simp only[closureFor];rw[Tz (g:=λx c=>if x.2==.free then(x.1,(env.cells.lookup x.1).getD 0)::c else c) [] (λx U c=>by
  obtain⟨n,k⟩:=x
  by_cases G:k=.free
  .subst G
   obtain⟨c',Z⟩:=h (n,.free) U rfl;have Z:env.cells.lookup n=some c':=Z;simp[cellOf,Z]
  .have R:(k==NameKind.free)=false:=by simpa using G
   simp[R]),T3]
 rfl
theorem ack(cells:Xs):∀(l:X0)(Z:Xs)(x:Str)(c:Addr),(∀y∈l,y.2=.free->∃c,cells.lookup y.1=some c)->(Jp cells l Z).lookup x=some c ->
 Z.lookup x=some c\/cells.lookup x=some c
 |[],Z,x,c,_,h=>.inl h
 |(n,k)::r,Z,x,c,hy,h=>by
  rcases ack cells r _ x c (λz R=>hy z (bh _ R)) h with q|q
  .by_cases U:k=.free
   .subst U
    simp only[zm,km,nq] at q;cases e:x==n with
    |true =>
     rw[e] at q;obtain⟨c',G⟩:=hy (n,.free) cz rfl;have G:cells.lookup n=some c':=G;simp only[G,Option.getD_some,Option.some.injEq] at q;subst q;rw[eq_of_beq e];exact .inr G
    |false=>rw[e] at q;exact .inl q
   .have hb:(k==NameKind.free)=false:=by simpa using U
    simp only[hb,gm,jt] at q;exact .inl q
  .exact .inr q
theorem Wq(cells:Xs):∀(l:X0)(Z:Xs)(x:Str),(∃c,Z.lookup x=some c)->∃c,(Jp cells l Z).lookup x=some c
 |[],Z,x,h=>h
 |(n,k)::r,Z,x,h=>by
  refine Wq cells r _ x ?_
  by_cases G:(k==NameKind.free)=true
  .rw[cg G,nq]
   cases e:x==n with
   |true=>exact⟨_,rfl⟩|false=>exact h
  .rw[bz G];exact h
theorem Ss(cells:Xs):∀(l:X0)(Z:Xs)(x:Str),(x,NameKind.free)∈l->∃c,(Jp cells l Z).lookup x=some c
 |(n,k)::r,Z,x,h=>by
  rcases dh.mp h with q|q
  .obtain⟨rfl,rfl⟩:=Prod.mk.inj q
   refine Wq cells r _ x ⟨(cells.lookup x).getD 0,?_⟩;rw[cg (by simp),nq,zm]
  .exact Ss cells r _ x q
theorem Nf{Z:Env}:∀{G:X0}{x:Str},
 (G.map λ(y:Str×NameKind)=>if(y.2==NameKind.free&&Z.scope.kind==.function&&Z.kindOf y.1==some .cell) then(y.1,NameKind.cell) else(y.1,y.2)).lookup x
  = (G.lookup x).map λk=>if(k==NameKind.free&&Z.scope.kind==.function&&Z.kindOf x==some .cell) then NameKind.cell else k
 |[],_=>rfl
 |(n,k)::r,x=>by
  have R:=@Nf Z r x;rw[dq];cases hx:x==n with
  |true =>
   have e:=eq_of_beq hx;subst e;clear hx
   by_cases U:(k==NameKind.free&&Z.scope.kind==.function&&Z.kindOf x==some .cell)=true
   .simp only[U,km,nq,zm,rz]
   .have hb:(k==NameKind.free&&Z.scope.kind==.function&&Z.kindOf x==some .cell)=false:=by simpa using U
    simp only[hb,gm,jt,nq,zm,rz]
  |false =>
   by_cases U:(k==NameKind.free&&Z.scope.kind==.function&&Z.kindOf n==some .cell)=true
   .simp only[U,km,nq,hx];exact R
   .simp only[U,nq,hx];simpa[nq,hx] using R
theorem mem_of_lookup{Z G:Type}[BEq Z][LawfulBEq Z]:∀{l:List (Z×G)}{x:Z}{y:G},l.lookup x=some y->(x,y)∈l
 |(a,b)::r,x,y,h=>by
  rw[nq] at h;cases e:x==a with
  |true=>rw[e] at h;cases h;rw[eq_of_beq e];exact cz|false=>rw[e] at h;exact bh _ (mem_of_lookup h)
def Lq(X:Cx)(N:Yf)(Z:Scope)(C:Addr)(G:X1)(s:Shared)(H:Hp):Cx where
 prog:=X.prog
 w:=X.w
 K:=X.K
 mg:=X.mg
 base:=X.base
 A:=X.A
 N:=N
 s₀:=s
 H₀:=H
 env:=compEnvC Z (Jp X.env.cells Z.names []) C X.env
 outer:=X.stack
 stack:=X.stack
 ex:=G
 fn:=λ_=>false
 calm:=X.calm
 pn:=[]
 xe:=λ_ _=>False
structure G4(X:Cx)(N:Yf)(scope:Scope):Prop where
 kind:scope.kind=.function
 ao4:∀y∈scope.names,y.2≠.cell
 locs:∀y∈scope.names,y.2=.local->scope.names.lookup y.1=some .local
 frees:∀y∈scope.names,y.2=.free->X.env.kindOf y.1=some .cell\/X.env.kindOf y.1=some .free
 uniq:∀x k,(x,k)∈scope.names->scope.names.lookup x=some k
 long:X.N.length<=N.length
 vis:∀i x,i<X.N.length->N[i]?=some x->Vis (relabel scope X.env) x->X.N[i]?=some x/\scope.names.lookup x=some .free
theorem G4.cells(B:G4 X N scope)(ok:X.Ok):∀y∈scope.names,y.2=.free->∃c,X.env.cells.lookup y.1=some c:=λy G Z=>ok.has y.1 (B.frees y G Z)
def G4.clos(B:G4 X N scope)(ok:X.Ok):closureFor scope X.env=pure (Jp X.env.cells scope.names []):=Wo (B.cells ok)
def G4.inCells(B:G4 X N scope)(ok:X.Ok)(h:(Jp X.env.cells scope.names []).lookup x=some c):X.env.cells.lookup x=some c:=by
 rcases ack _ _ _ _ _ (B.cells ok) h with q|q
 .simp at q
 .exact q
def acn{X:Cx}(x:Str):(compEnvC scope cl C X.env).kindOf x=(scope.names.lookup x).map λk=>if(k==NameKind.free&&X.env.scope.kind==.function&&X.env.kindOf x==some .cell) then NameKind.cell else k:=by show(relabel scope X.env).names.lookup x=_;exact Nf
def aj7(B:G4 X N scope)(I:Inv X pins σ H s)(hf:∀b∈fp,Ud X pins H b)(q0:∀b∈fp,∃o,s.heap.get? b=some o)(q2:U.Ns (s.heap.objs.size+1) λ_=>none)(hk:∀b o,s.heap.get? b=some o->U.get? b=some o)(Xr:U.get? s.heap.objs.size=some { cls:=.type "list",data:=.seq ([]:Zl).toArray }) :
 Inv (Lq X N scope (s.heap.objs.size+1) fp s H) [] (σ++List.replicate (N.length-X.N.length) none) (upd H s.heap.objs.size (.lst [])) { s with heap:=U,toks:=t }:=by
 have ok:=I.ok;have hD:H s.heap.objs.size=none:=I.yr.fresh (bf _);have hC:H (s.heap.objs.size+1)=none:=I.yr.fresh (qg _);have qv:s.heap.objs.size+1≠s.heap.objs.size:=Nat.succ_ne_self _;have lt:∀b∈fp,b<s.heap.objs.size:=λb hb=>by obtain⟨o,e⟩:=q0 b hb;exact az e
 have qk:∀x c,X.env.cells.lookup x=some c->c<s.heap.objs.size:=λx c e=>by obtain⟨v,o,ho,_⟩:=I.cell x c e;exact az ho
 refine⟨⟨ok.mod,B.kind,ok.glob,ok.blt,qg _,?_,?_,?_,ok.hd,ok.frames,.inl rfl,?_,λb o e=>I.bs b o e,au ok.bsz I.sz,?_,?_,I.stack,I.Q0⟩,rfl,I.bare,?_,?_,?_,?_,?_,?_,?_,?_⟩
 .intro x y c R hy
  exact ok.inj x y c (B.inCells ok R) (B.inCells ok hy)
 .intro x R
  rw[show(Lq X N scope (s.heap.objs.size+1) fp s H).env.kindOf x=_ from acn x] at R;cases e:scope.names.lookup x with
  |none=>rw[e] at R;rcases R with q|q<;>simp at q
  |some k =>
   have Tq:k=.free:=by
    rw[e] at R;cases k with
    |free=>rfl|cell=>exact absurd rfl (B.ao4 _ (mem_of_lookup e))|«local»=>rcases R with q|q<;>simp at q
    |globalExplicit=>rcases R with q|q<;>simp at q
    |globalImplicit=>rcases R with q|q<;>simp at q
   subst Tq;exact Ss _ _ _ _ (mem_of_lookup e)
 .intro x c h;cases h
 .intro b hb
  refine⟨λe=>?_,λx c hc e=>?_⟩
  .have q:=lt b hb
   have e:b=s.heap.objs.size+1:=e;rw[e] at q;exact absurd q (Nat.not_lt.mpr (qg _))
  .obtain⟨_,_,_,_,f4,_⟩:=hf b hb
   exact f4 x c (B.inCells ok hc) e
 .intro b o e hb
  obtain⟨_,_,_,f3,_⟩:=hf b hb;rcases f3 with q|q
  .exact ok.ab7 b o e q
  .exact m8 _ (fc (az e) (au ok.bsz q))
 .intro b hb q
  obtain⟨_,f1,f2,_⟩:=hf b hb;rcases dh.mp (I.O5 b q) with z|z
  .exact f1 z
  .exact f2 z
 .exact Un.laid hk (bf _) hD
 .refine⟨_,q2,λi x v hN Z hv=>?_⟩
  have hi:i<X.N.length:=by
   rcases ju i σ.length with q|q
   .rw[I.len] at q;exact q
   .rw[n8 q] at Z
    rw[ur] at Z;split at Z<;>simp at Z
  rw[gw (by rw[I.len];exact hi)] at Z;obtain⟨R,Tq⟩:=B.vis i x hi hN hv;obtain⟨m,_,hl⟩:=I.loc;have qq:=B.frees _ (mem_of_lookup Tq) rfl;have q1:Vis X.env.scope x:=by
   rcases qq with q|q
   .exact .inr (.inl q)
   .exact .inr (.inr q)
  obtain⟨u,ru,lu⟩:=hl i x v R Z q1;refine⟨u,ru,.inr ⟨?_,?_⟩⟩
  .rw[show(Lq X N scope (s.heap.objs.size+1) fp s H).env.kindOf x=_ from acn x,Tq]
   simp only[rz];split
   .exact .inl rfl
   .exact .inr rfl
  .rcases lu with⟨q,_⟩|⟨_,c,hc,ic⟩
   .rcases qq with z|z<;>rw[q] at z<;>cases z
   .obtain⟨c',G⟩:=Ss X.env.cells scope.names [] x (mem_of_lookup Tq)
    have:=B.inCells ok G;rw[hc] at this;cases this;exact⟨c,G,ic.keeps hk⟩
 .intro x c hc
  obtain⟨v,iv⟩:=I.cell x c (B.inCells ok hc);exact⟨v,iv.keeps hk⟩
 .show upd H s.heap.objs.size (.lst []) (s.heap.objs.size+1)=none
  rw[jx qv];exact hC
 .intro x c hc
  have G:=B.inCells ok hc;rw[jx (gh (qk x c G))];exact I.Fi x c G
 .intro p hp;simp[Lq] at hp
 .exact M8.laid I.yr hk (bf _) ⟨ik _,[],0,.nil,Xr⟩
 .show(σ++List.replicate (N.length-X.N.length) none).length=N.length
  rw[gr,nu,I.len];have:=B.long;omega
def Ng(I:Nat->Shared->Prop)(q5:∀n s,I n s->wpAny (model prog w) A (pyNext it) (λr U=>match r with
 |none=>R (.ok .next) U
 | some v=>wpAny (model prog w) A (letOwnedTupleGo target it v) (λ_ Z=>wpAny (model prog w) A (assign target env v) (λ_ qv =>
  wpAny (model prog w) A (forIn ifs true λc r=>if r=true then do let ok <- isTrue c env (eval c env);pure (ForInStep.yield ok) else pure (ForInStep.yield r)) (λok qq =>
   if ok=true then wpAny (model prog w) A (eval elt env) (λx qk =>
    wpAny (model prog w) A (call (.builtin "list.append") [acc,x]) (λ_ q1=>∃m,m<n/\I m q1) (λ_ _=>False) qk) (λ_ _=>False) qq
   else ∃m,m<n/\I m qq) (λ_ _=>False) qv) (λ_ _=>False) Z) (λ_ _=>False) U) (λ_ _=>False) s)(n:Nat)(h:I n s) :
 codeAny (model prog w) A (.compLoop (.ListComp elt [⟨target,iter,ifs,0⟩] scope pos) 0 it acc env) R s:=by
 have nv:∀{α:Type}{t:Sem α}{Q:α->Shared->Prop}{E:Y1}{s:Shared},wpAny (model prog w) A t Q (λ_ _=>False) s->wpAny (model prog w) A t Q E s:=λh=>j6 h (λ_ _ q=>q) λ_ _ f=>f.elim
 refine codeAny_loop rfl I (λn s hI=>?_) n h;show wpAny _ A ((compTurn (.ListComp elt [⟨target,iter,ifs,0⟩] scope pos) 0 it acc env).onRaise (λx=>do noteFrame x env;theTreesLotGoes x)) _ _ s;refine wpAny_noted ?_;rw[compTurn_list];refine aa (wpAny_standAt (aa (j6 (q5 n s hI) (λr U q2=>?_) λ_ _ G=>G.elim)));cases r with
 |none=>exact aj q2
 |some v =>
  refine aa (j6 q2 (λ_ Z q3=>?_) λ_ _ G=>G.elim);refine aa (j6 q3 (λ_ qv q4=>aa (j6 q4 (λok qq q0=>?_) λ_ _ G=>G.elim)) λ_ _ G=>G.elim);cases ok with
  |false=>exact aj ⟨rfl,q0⟩
  |true =>
   exact aa (aa (j6 q0 (λx qk q6=>aa (j6 q6 (λ_ q1 q7=>aj (aj ⟨rfl,q7⟩)) λ_ _ G=>G.elim)) λ_ _ G=>G.elim))
def aco(k:Nat)(wi:TI)(g:TG)(tc:TT)(te:TE):TE:=λU H Q=>wi U H λJ H1=>∀D,H1 D=none->∃W:Nat->Nat->Hp->Prop,(∃m,W 0 m (upd H1 D (.lst [])))/\∀i m H,W i m H ->
 (J.stop i H/\Q (.ref D) H)\/(J.go i H/\∀x H',J.yld i H x H'->g x (U++List.replicate k none) H' λZ H2=>Z.length=(U++List.replicate k none).length /\
  (∀(j:Nat) v,(U++List.replicate k none)[j]?=some (some v)->Z[j]?=some (some v))/\tc Z H2 λb H3 =>
   if b=true then te Z H3 λv H4=>∃R G,H4 D=some (.lst R)/\R.length<sizeLine/\G<m/\W (i+1) G (upd H4 D (.lst (R++[v]))) else ∃G,G<m/\W (i+1) G H3)
def PTs(X:Cx)(Z:Ya)(G:TT):Prop:=(Z=[]/\G=λ_ H Q=>Q true H)\/∃c,Z=[c]/\PT X c G
def Yz(I:Inv X pins σ H s)(hf:∀b∈fp,Ud X pins H b)(J:Inv (Lq X N scope (s.heap.objs.size+1) fp s H) [] Z U s3):Inv X pins σ U s3/\∃m,s3.heap.Ns (s.heap.objs.size+1) m:=by
 refine⟨I.call' J.os J.base J.yr J.bare λb hb=>?_,?_⟩
 .obtain⟨_,f1,_,G,f4,f5⟩:=hf b hb
  exact⟨G,f1,f4,f5⟩
 .obtain⟨m,R,_⟩:=J.loc
  exact⟨m,R⟩
def aj8(I:Inv X pins σ H s)(R:Inv X pins σ G s3)(hC:G (s.heap.objs.size+1)=none)(hs:Heap.SameBut (s.heap.objs.size+1) s3.heap h'):Inv X pins σ G { s3 with heap:=h' }:=by
 have big:∀b o,s.heap.get? b=some o->b≠s.heap.objs.size+1:=λb o e z=>by have:=az e;rw[z] at this;exact absurd this (Nat.not_lt.mpr (qg _))
 refine R.turned (t':=s3.toks) (λb o U e=>hs.extBut b o U e) hC ?_ (.inr (au I.sz (qg _))) ?_ ?_
 .intro e
  obtain⟨m,⟨o,_,_,Z,_⟩,_⟩:=I.loc;exact big _ o Z e.symm
 .intro x c hc
  obtain⟨v,o,Z,_⟩:=I.cell x c hc;exact big c o Z
 .intro p hp
  exact big p.1 p.2 (I.pin p hp).1
def Wr{RR:Value->Addr->Result->Shared->Prop}(B:G4 X N scope)(Ft:X.calm=true)(I:Inv X pins σ H s)(hf:∀b∈G,Ud X pins H b)(T:Turn X.prog X.w X.K tg J G it tn)(h0:tn 0 s.heap)(hg:∀C s H,PG (Lq X N scope C G s H) tg g)(hc:∀C s H,PTs (Lq X N scope C G s H) ifs tc)(he:∀C s H,PE (Lq X N scope C G s H) elt te){Q:VK}(W:Nat->Nat->Hp->Prop)(w0:W 0 m0 (upd H s.heap.objs.size (.lst [])))(z7:∀i m H,W i m H->(J.stop i H/\Q (.ref s.heap.objs.size) H)\/(J.go i H/\∀x H',J.yld i H x H'->g x (σ++List.replicate (N.length-X.N.length) none) H' λq1 H2=>q1.length=(σ++List.replicate (N.length-X.N.length) none).length /\
 (∀(j:Nat) v,(σ++List.replicate (N.length-X.N.length) none)[j]?=some (some v)->q1[j]?=some (some v))/\tc q1 H2 λb H3 =>
  if b=true then te q1 H3 λv H4=>∃xs R,H4 s.heap.objs.size=some (.lst xs)/\xs.length<sizeLine/\R<m/\W (i+1) R (upd H4 s.heap.objs.size (.lst (xs++[v]))) else ∃R,R<m/\W (i+1) R H3))(y0:∀zw H3 s3,Inv (Lq X N scope (s.heap.objs.size+1) G s H) [] zw H3 s3->Q (.ref s.heap.objs.size) H3->RR (.ref s.heap.objs.size) (s.heap.objs.size+1) (.ok .next) s3) :
 wpAny (model X.prog X.w) X.A (newList []) (λz5 z0=>wpAny (model X.prog X.w) X.A (newFunctionEnv scope X.env.globals (Jp X.env.cells scope.names []) [] X.env.qual none .none (some X.env)) (λq3 z4 =>
  codeAny (model X.prog X.w) X.A (.compStart (.ListComp elt [⟨tg,iter,ifs,0⟩] scope pos) 0 (.ref it) z5 { q3 with scope:=relabel scope X.env }) (RR z5 q3.locals) z4) E z0) E s:=by
 refine iw (wpAny_newFunctionEnv B.ao4 (by intro y hy;simp at hy) (λqv U Z=>?_) B.kind);dsimp only at U Z ⊢;have z3:(s.heap.push { cls:=.type "list",dict:=none,data:=.seq ([]:Zl).toArray }).objs.size=s.heap.objs.size+1:=j5 _ _;rw[z3] at U Z;have q5:∀b o,s.heap.get? b=some o->qv.get? b=some o:=λb o e=>Z.extBut b o (λz=>absurd (az e) (by rw[z];exact Nat.not_lt.mpr (qg _))) (aq _ (aq _ e))
 have Xr:qv.get? s.heap.objs.size=some { cls:=.type "list",data:=.seq ([]:Zl).toArray }:=Z.extBut _ _ (gh (ud _)) (aq _ (bj _ rfl));have zz:∀b∈G,∃o,s.heap.get? b=some o:=λb hb=>let ⟨o,e,_⟩:=T.obj 0 _ h0 b hb;⟨o,e⟩
 have I0:=aj7 (t:=s.toks+([]:List (Str×Value)).length) B I hf zz U q5 Xr;have zk:∀{H':Hp},(∀b∈G,H' b=none)->∀b∈G,Ud (Lq X N scope (s.heap.objs.size+1) G s H) [] H' b:=λhn b hb=>by
  obtain⟨f0,f1,f2,f3,f4,f5⟩:=hf b hb;refine⟨hn b hb,?_,?_,.inl hb,?_,λp hp=>(by simp[Lq] at hp)⟩
  .intro z
   obtain⟨o,e⟩:=zz b hb;have:=az e;rw[show b=s.heap.objs.size+1 from z] at this;exact absurd this (Nat.not_lt.mpr (qg _))
  .intro q
   rcases dh.mp (I.O5 b q) with z|z
   .exact f1 z
   .exact f2 z
  .intro x c hc
   exact f4 x c (B.inCells I.ok hc)
 have yv:∀b∈G,upd H s.heap.objs.size (.lst []) b=none:=λb hb=>by obtain⟨o,e⟩:=zz b hb;rw[jx (gh (az e))];exact(hf b hb).1
 have q2:∀s':Shared,s'={ s with heap:=qv,toks:=s.toks+([]:List (Str×Value)).length }->codeAny (model X.prog X.w) X.A (.compLoop (.ListComp elt [⟨tg,iter,ifs,0⟩] scope pos) 0 (.ref it) (.ref s.heap.objs.size) (compEnvC scope (Jp X.env.cells scope.names []) (s.heap.objs.size+1) X.env))
  (RR (.ref s.heap.objs.size) (s.heap.objs.size+1)) s':=by
  rintro s' rfl;refine Ng (λn s'=>∃i qk H',Inv (Lq X N scope (s.heap.objs.size+1) G s H) [] qk H' s'/\(∀(j:Nat) v,(σ++List.replicate (N.length-X.N.length) none)[j]?=some (some v)->qk[j]?=some (some v))/\tn i s'.heap/\(∀b∈G,H' b=none)/\W i n H') ?_ m0
   ⟨0,_,_,I0,λ_ _ z=>z,T.keep 0 _ _ h0 (λb _ o e=>q5 b o e),yv,w0⟩
  rintro n s3 ⟨i,zw,H3,I3,k3,z2,z1,w3⟩;have z6:=I3.weak (σ':=σ++List.replicate (N.length-X.N.length) none) (by rw[I3.len];exact I0.len) k3;rcases z7 i n H3 w3 with⟨z8,qn⟩|⟨go,step⟩
  .refine Bc (T.done (Lq X N scope (s.heap.objs.size+1) G s H) rfl rfl rfl Ft i [] s3 _ H3 (λ_ _=>False) z6 (zk z1) z2 z8) λr s4 z_=>?_
   obtain⟨hr,I4⟩:=z_;subst hr;exact y0 _ _ _ I4 qn
  .refine Bc (T.item (Lq X N scope (s.heap.objs.size+1) G s H) rfl rfl rfl Ft i [] s3 _ H3 (λ_ _=>False) z6 (zk z1) z2 go) λr s4 z_=>?_
   obtain⟨u,hr,h4⟩:=z_;subst hr;refine Bc h4 λ_ s5 z_=>?_
   obtain⟨x,H5,I5,r5,y5,q4,yk⟩:=z_;have yy:=I5.pinned (zk yk) (T.obj _ _ q4);refine Bc (hg _ _ _ _ s5 _ H5 x u _ yy r5 (step x H5 y5)) λ_ s6 z_=>?_
   obtain⟨qq,H6,I6,l6,k6,q6⟩:=z_;have q0:∀{Gr:Zp}{H7:Hp}{s7:Shared}{m:Nat},Inv (Lq X N scope (s.heap.objs.size+1) G s H) ([]++R8 G s5.heap) qq H7 s7->m<n->W (i+1) m H7 ->
    ∃m,m<n/\∃i qk H',Inv (Lq X N scope (s.heap.objs.size+1) G s H) [] qk H' s7/\(∀(j:Nat) v,(σ++List.replicate (N.length-X.N.length) none)[j]?=some (some v)->qk[j]?=some (some v))/\tn i s7.heap/\(∀b∈G,H' b=none)/\W i m H':=fun{_ H7 s7 m} I7 hm w7=>by
    refine⟨m,hm,i+1,qq,H7,I7.Nb,k6,T.keep _ _ _ q4 λb hb o e=>(I7.pin (b,o) (fu _ (fu _ (Kw hb e)))).1,λb hb=>?_,w7⟩;obtain⟨o,e,d⟩:=T.obj _ _ q4 b hb;exact(I7.pin (b,o) (fu _ (fu _ (Kw hb e)))).2.1
   have zv:wpAny (model X.prog X.w) X.A (forIn ifs true λc r=>if r=true then do let ok <- isTrue c (compEnvC scope (Jp X.env.cells scope.names []) (s.heap.objs.size+1) X.env) (eval c (compEnvC scope (Jp X.env.cells scope.names []) (s.heap.objs.size+1) X.env));pure (ForInStep.yield ok) else pure (ForInStep.yield r))
    (TP (Lq X N scope (s.heap.objs.size+1) G s H) ([]++R8 G s5.heap) qq λb H3 =>
     if b=true then te qq H3 λv H4=>∃xs R,H4 s.heap.objs.size=some (.lst xs)/\xs.length<sizeLine/\R<n/\W (i+1) R (upd H4 s.heap.objs.size (.lst (xs++[v]))) else ∃R,R<n/\W (i+1) R H3) (λ_ _=>False) s6:=by
    rcases hc (s.heap.objs.size+1) s H with⟨rfl,rfl⟩|⟨c,rfl,z9⟩
    .exact wpAny_tests_nil ⟨H6,I6,q6⟩
    .exact wpAny_tests_one (z9 _ s6 qq H6 _ I6 q6)
   refine Bc zv λok s7 z_=>?_
   obtain⟨H7,I7,q7⟩:=z_;cases ok with
   |false =>
    obtain⟨R,hm,w7⟩:=(show ∃R,R<n/\W (i+1) R H7 from q7);exact q0 (Gr:=[]) I7 hm w7
   |true =>
    show wpAny _ _ _ _ _ _;refine Bc (he _ _ _ _ s7 qq H7 _ I7 q7) λx s8 z_=>?_
    obtain⟨v,H8,I8,r8,xs,R,hD,hl,hm,w8⟩:=z_;refine Bc (Yx _ s8 qq H8 (.ref s.heap.objs.size) [v] (.ref s.heap.objs.size) [x] (λ_ H'=>W (i+1) R H') I8 rfl (.cons r8 .nil) ⟨_,xs,v,rfl,rfl,hD,hl,w8⟩) λ_ s9 z_=>?_
    obtain⟨_,H9,I9,_,w9⟩:=z_;exact q0 (Gr:=[]) I9 hm w9
 rw[z3];exact codeAny_compStart_list (q2 _ rfl) (T.self _ 0 _ _ _ (T.keep 0 _ _ h0 (λb _ o e=>q5 b o e)) (q2 _ rfl))
def ahx(B:G4 X N scope)(Ft:X.calm=true)(hi:PI X tg iter wi)(hg:∀C Z s H,PG (Lq X N scope C Z s H) tg g)(hc:∀C Z s H,PTs (Lq X N scope C Z s H) ifs tc)(he:∀C Z s H,PE (Lq X N scope C Z s H) elt te)(hs:∀x,foldedSetIterable iter X.env x=pure x):PE X (.ListComp elt [⟨tg,iter,ifs,0⟩] scope pos) (aco (N.length-X.N.length) wi g tc te):=by intro G s σ H Q I h;rw[eval_ListComp];refine wpAny_comprehension_free (use:=none) rfl hs (B.clos I.ok) B.kind B.locs (Bc (hi G s σ H _ I h) λv s1 h1=>Bc h1 λq0 s2 h2=>?_);obtain⟨it,Z,tn,J,H2,rfl,R,T,qq,f2,q2⟩:=h2;obtain⟨W,⟨m0,w0⟩,U⟩:=q2 s2.heap.objs.size (R.yr.fresh (bf _));refine Wr (RR:=λqv C=>compPost (model X.prog X.w) X.A X.xe none (EP X G σ Q) qv C) B Ft R f2 T qq (λC s H=>hg C Z s H) (λC s H=>hc C Z s H) (λC s H=>he C Z s H) W w0 U ?_;intro q1 H3 s3 I3 q3;obtain⟨J3,m,hn⟩:=Yz R f2 I3;exact⟨m,hn,λh' qk=>⟨.ref s2.heap.objs.size,H3,aj8 R J3 I3.free qk,rfl,q3⟩⟩
set_option tactic.hygienic true in
def ahy(B:G4 X N scope)(Ft:X.calm=true)(hi:PI X tg iter wi)(hg:∀C G s H,PG (Lq X N scope C G s H) tg g)(hc:∀C G s H,PTs (Lq X N scope C G s H) ifs tc)(he:∀C G s H,PE (Lq X N scope C G s H) elt te)(hs:∀x,foldedSetIterable iter X.env x=pure x)(hN:X.N.Nodup)(hy:X.N[i]?=some y)(hl:X.env.scope.names.lookup y=some .local)(qv:swapsWith (.ListComp elt [⟨tg,iter,ifs,0⟩] scope pos) (some (.Name y py)) ao5.line X.env=pure true) :
 PS X (.Assign [.Name y py] (.ListComp elt [⟨tg,iter,ifs,0⟩] scope pos) ao5) (azk (aco (N.length-X.N.length) wi g tc te) (ahh i)):=by
 intro Z s σ H D I h;rw[exec_Assign_Name_used _ _ _ _ qv];refine aa (wpAny_standAt (aa ?_));show wpAny _ _ (do let _ <- comprehension (.ListComp elt [⟨tg,iter,ifs,0⟩] scope pos) scope X.env _ (newList []) false (eval iter X.env) (some (assign (.Name y py) X.env))) _ _ s;refine aa (j6 (wpAny_comprehension_free (use:=some (assign (.Name y py) X.env)) (Q:=λ_ s'=>SP X Z D .next s') rfl hs (B.clos I.ok) B.kind B.locs
  (Bc (hi Z s σ H _ I h) λv s1 h1=>Bc h1 λq7 Y h2=>?_)) (λ_ s' hq=>aj (aj hq)) λ_ _ e=>e)
 obtain⟨it,G,tn,J,H2,rfl,U,T,qq,f2,q2⟩:=h2;obtain⟨W,⟨m0,w0⟩,R⟩:=q2 Y.heap.objs.size (U.yr.fresh (bf _));refine Wr (RR:=λq0 C=>compPost (model X.prog X.w) X.A X.xe (some (assign (.Name y py) X.env)) (λ_ s'=>SP X Z D .next s') q0 C) (Q:=λx H1=>ahh i x σ H1 D.nx) B Ft U f2 T qq (λC s H=>hg C G s H) (λC s H=>hc C G s H) (λC s H=>he C G s H) W w0 R ?_;intro zz H3 s3 I3 q3;obtain⟨J3,m,hn⟩:=Yz U f2 I3;have q6:=I3.free;obtain⟨u,_,_,L,q5,_⟩:=id hn;have big:∀b o,Y.heap.get? b=some o->b≠Y.heap.objs.size+1:=λb o e z=>by have:=az e;rw[z] at this;exact absurd this (Nat.not_lt.mpr (qg _))
 have S:Y.heap.objs.size+1≠X.env.locals:=λe=>by obtain⟨m,⟨o,_,_,ho,_⟩,_⟩:=U.loc;exact big _ o ho e.symm
 have J4:Inv X (Z++[(Y.heap.objs.size+1,u)]) σ H3 s3:=J3.aad λp hp=>by
  rcases bx.mp hp with q|q
  .exact J3.pin p (fu _ q)
  .have e:p=(Y.heap.objs.size+1,u):=by simpa using q
   subst e;refine⟨L,q6,S,λhb=>?_,λv z=>by rw[q5] at z;cases z⟩;exact U.a5l (qg _) hb
 show wpAny (model X.prog X.w) X.A (assign (.Name y py) X.env (.ref Y.heap.objs.size)) _ _ s3;refine Bc (aae (pos:=py) hN hy (.inl hl) (.inr hl) (Z++[(Y.heap.objs.size+1,u)]) s3 σ H3 (.ref Y.heap.objs.size) (.ref Y.heap.objs.size) D.nx J4 rfl q3) λ_ s4 z_=>?_
 obtain⟨q1,H4,I4,q4⟩:=z_;have pC:=I4.pin (Y.heap.objs.size+1,u) (fu _ (fu _ (by simp)));refine⟨m,hn.at' λo e=>by rw[L] at e;cases e;exact pC.1,λh' qk=>⟨q1,H4,?_,q4⟩⟩;refine(I4.Nb).turned (t':=s4.toks) (λb o hb e=>qk.extBut b o hb e) pC.2.1 S (.inr (au U.sz (qg _))) ?_ ?_
 .intro x c hc
  obtain⟨v,o,ho,_⟩:=U.cell x c hc;exact big c o ho
 .intro p hp
  exact big p.1 p.2 (U.pin p hp).1
open PySem PySem.Spec PyProof.Rows HT
section
variable{prog:Program}{w:World}{A:Around}{E:Y1}{s:Shared}
def Ra{R:Addr}{U:Tok}{Q:Int×Int×Nat->Shared->Prop}(hs:s.heap.IsSliceOf R .none .none (.int (-1) U))(h:Q ((1:Int),(-1:Int),2) s):wpAny (model prog w) A (Builtin.Slice.sliceApplied (.ref R) (pure (2:Int))) Q E s:=by obtain⟨os,G,qq,Z⟩:=id hs;unfold Builtin.Slice.sliceApplied Builtin.Slice.sliceFields;refine aa (aa (d8 G Z (x:=.none) rfl (aa (d8 G Z (x:=.none) rfl (aa (d8 G Z (x:=.int (-1) U) rfl (aj ?_)))))));refine aa (Hy (.int (-1) U) ?_);show wpAny _ _ (if((-1:Int)==0)=true then _ else _) _ _ s;rw[bz (by decide)];refine aa (Hy .none (aa (Hy .none (aa (aj ?_)))));exact aj h
def O7{t sl:Addr}{x y:Value}{tk:Tok}{Q:Y1}(G:IsTup s.heap t #[x,y])(hs:s.heap.IsSliceOf sl .none .none (.int (-1) tk))(h:Q (.ref s.heap.objs.size) { s with heap:=s.heap.push { cls:=.type "tuple",data:=.seq #[y,x] } }):wpAny (model prog w) A (getItem (.ref t) (.ref sl)) Q E s:=by
 have Z:sizeOk (.seq #[y,x]):=by show 2<=sizeLine;decide
 obtain⟨os,R,U,qk⟩:=id hs;have qq:s.TypeIs (.ref sl) "slice" := ⟨os,R,U⟩;unfold getItem
 try with_reducible refine jz ?_
 first|refine aa (aj ?_)|skip
 refine aa (wpAny_sequenceKey G.typeIs (by decide) ?_);refine aa (je (name:=Str.ofString "__getitem__") G.typeIs m9
  (jo m9 G.typeIs entry_tuple_getitem ?_ (args_tuple_getitem _ _)))
 show wpAny _ _ (Builtin.Tuple.tupleItemsOf (.ref t) >>= _) _ _ s;refine aa (tupleItemsOf_ G ?_);refine aa (wpAny_typeOf qq ?_);rw[cg (by decide)];refine aa (Ra hs ?_);show wpAny _ _ (if((1:Int)==0&&(-1:Int)==1&&(2:Nat)==2)=true then _ else _) _ _ s;rw[bz (by decide)]
 first
  |exact aa (m:=Builtin.Tuple.tupleExact _) (iw (aj ⟨_,rfl,aj h⟩) Z)
  |exact aa (m:=Builtin.Tuple.tupleExact _) (iw (aa (aj (aj ⟨_,rfl,aj h⟩))) Z)
  |exact aa (aa (m:=Builtin.Tuple.tupleExact _) (iw (aj (aj ⟨_,rfl,aj h⟩)) Z))
  |exact aa (aa (m:=Builtin.Tuple.tupleExact _) (iw (aj ⟨_,rfl,aj h⟩) Z))
end
def atv{X:Cx}{e st:Expr}{te:TE}{p2 qq:Pos}(he:PE X e te)(hs:PE X st (tC (.int (-1)))):PE X (.Subscript e (.Slice none none (some st) p2) qq) (λR H Q=>te R H λv U=>∃a x y,v=.ref a/\Gu X.K U a [x,y]/\∀p,U p=none->Q (.ref p) (upd U p (.tup [y,x]))):=by
 intro Z s R H Q I h;refine Subscript_ (Bc (he Z s R H _ I h) λv s1 z_=>?_);obtain⟨v',U,I1,r1,a,x,y,rfl,ht,q⟩:=z_;cases r1;refine wpAny_Slice ?_;rw[evalPart_none];refine aj (aj ?_);have po:=aht hs Z s1 R U (λo H2=>o=some (-1)/\H2=U) I1 ⟨-1,rfl,rfl,rfl⟩;refine Bc po λu G z=>?_
 obtain⟨o,H2,I2,pt,rfl,rfl⟩:=z;cases pt with
 |int i tk =>
  have I4:Inv X Z R H2 { G with heap:=G.heap.push { cls:=.type "slice",data:=.fields #[.none,.none,.int (-1) tk] } }:=I2.kept (t':=G.toks) λb ob q=>aq _ q
  obtain⟨t6,r,tp,hz⟩:=I4.tuple ht;cases r with
  |cons ra rb=>cases rb with
   |cons rb rc =>
    cases rc;show wpAny (model X.prog X.w) X.A (subscriptTail e (.Slice none none (some st) p2) (.ref a) (.ref G.heap.objs.size)) (EP X Z R Q) X.xe { G with heap:=G.heap.push { cls:=.type "slice",data:=.fields #[.none,.none,.int (-1) tk] } };refine tail_any (ops:=[.ref a,.ref G.heap.objs.size]) tp.typeIs m9.lookup (O7 tp (Heap.IsSliceOf.new ..) ?_) (by with_unfolding_all rfl);refine⟨.ref _,_,I4.laid (t':=G.toks) (o:=.tup [y,x]) (λb ob q=>aq _ q) (bf _) ?_,rfl,q _ (I4.yr.fresh (bf _))⟩;exact⟨by show 2<=sizeLine;decide,_,.cons rb (.cons ra .nil),Ub.new _ _⟩
end L2
namespace Sm
open PySem L2
open MW (Ex Eg OEx Ox Al mj Lv Tg Res dj MO Lp Cp Op2 Blt Bm Kx)
abbrev Dv:=MW.D
abbrev En:=MW.Env
structure Io where
 l:List Addr
 δ:List Addr
noncomputable def Io.add(Z:Io)(p:Addr):Io:=⟨Z.l++[p],Z.δ⟩
noncomputable def Io.hide(Z:Io)(p:Addr):Io:=⟨Z.l,p::Z.δ⟩
def Io.off(Z:Io)(a:Addr):Prop:=a∉Z.l/\a∉Z.δ
def aan(K:Fg)(H:Hp)(a:Addr)(G:List V):Prop :=
 (∃o,H a=some (.Jg o (.lst G))) \/
  ∃(o:Obj)(Z:Xt)(n:Nat),K.lookup a=some o/\o.cls=.type "list"/\o.dict=none/\o.data=.seq Z n/\Z.size<=sizeLine/\Vals G Z.toList
def aan.sq(h:aan K H a vs):Gm K H a vs:=by
 rcases h with⟨o,h⟩|h
 .exact .inl (.inr ⟨o,h⟩)
 .exact .inr h
mutual
inductive Rep(K:Fg)(ι:Io)(H:Hp):Dv->V->Prop
 |non:Rep K ι H .non .non
 |bl (b:Bool):Rep K ι H (.bl b) (.bl b)
 |int (i:Int):Rep K ι H (.int i) (.int i)
 |str (s:Str):Rep K ι H (.str s) (.str s)
 |tup {a:Addr} {ds:List Dv} {vs:List V} (e:H a=some (.tup vs)) (r:mz K ι H ds vs):Rep K ι H (.tup ds) (.ref a)
 |vl {a:Addr} {ds:List Dv} {vs:List V} (e:H a=some (.lst vs)) (n:ι.off a) (r:mz K ι H ds vs):Rep K ι H (.vl ds) (.ref a)
 |fz {a:Addr} {ds:List Dv} {vs:List V} (e:aan K H a vs) (r:mz K ι H ds vs):Rep K ι H (.fz ds) (.ref a)
 |ref {n:Nat} {a:Addr} (e:ι.l[n]?=some a):Rep K ι H (.ref n) (.ref a)
inductive mz(K:Fg)(ι:Io)(H:Hp):List Dv->List V->Prop
 |nil:mz K ι H [] []
 |cons {d:Dv} {v:V} {ds:List Dv} {vs:List V} (h:Rep K ι H d v) (t:mz K ι H ds vs):mz K ι H (d::ds) (v::vs)
end
structure Le(ι:Io)(H:Hp)(ι':Io)(H':Hp):Prop where
 ext:∃Y,ι'.l=ι.l++Y/\∀a∈Y,H a=none
 del:ι'.δ=ι.δ
 tup:∀a vs,H a=some (.tup vs)->H' a=some (.tup vs)
 Jg:∀a o u,H a=some (.Jg o u)->H' a=some (.Jg o u)
 lst:∀a vs,a∉ι.l->H a=some (.lst vs)->H' a=some (.lst vs)
 dom:∀a,H' a=none->H a=none
def Le.refl(Z:Io)(H:Hp):Le Z H Z H:=⟨⟨[],by simp,by simp⟩,rfl,λ_ _ h=>h,λ_ _ _ h=>h,λ_ _ _ h=>h,λ_ h=>h⟩
def Hb{H H':Hp}(U:∀a u,H a=some u->∃G,H' a=some G)(h:H' a=none):H a=none:=by
 cases e:H a with
 |none=>rfl|some u=>obtain⟨G,Z⟩:=U a u e;rw[h] at Z;cases Z
def Le.get(l:Le G H Z U){n:Nat}(h:G.l[n]?=some a):Z.l[n]?=some a:=by obtain⟨Y,e,_⟩:=l.ext;rw[e,gw (ak.mp h).1];exact h
def Le.a0k(l:Le R H Z H')(h:a∉R.l)(G:H a=some o):a∉Z.l:=by
 obtain⟨Y,e,U⟩:=l.ext;rw[e];intro m;rcases bx.mp m with q|q
 .exact h q
 .rw[U a q] at G;cases G
def Le.out(l:Le U H Z R)(h:U.off a)(G:H a=some o):Z.off a:=⟨l.a0k h.1 G,by rw[l.del];exact h.2⟩
theorem Le.trans(a:Le ι H R H1)(b:Le R H1 U H2):Le ι H U H2:=by
 obtain⟨Y,e1,h1⟩:=a.ext;obtain⟨Z,e2,h2⟩:=b.ext;refine⟨⟨Y++Z,by rw[e2,e1,o8],λx m=>?_⟩,b.del.trans a.del,λx G h=>b.tup x G (a.tup x G h),λx o u h=>b.Jg x o u (a.Jg x o u h),λx G n h=>b.lst x G (a.a0k n h) (a.lst x G n h),λx h=>a.dom x (b.dom x h)⟩;rcases bx.mp m with q|q
 .exact h1 x q
 .exact a.dom x (h2 x q)
structure LeX(ι:Io)(H:Hp)(ι':Io)(H':Hp):Prop where
 ext:∃Y,ι'.l=ι.l++Y/\∀a∈Y,H a=none
 del:∀a∈ι'.δ,a∈ι.δ\/H a=none
 tup:∀a vs,H a=some (.tup vs)->H' a=some (.tup vs)
 Jg:∀a o u,H a=some (.Jg o u)->H' a=some (.Jg o u)
 lst:∀a vs,a∉ι.l->H a=some (.lst vs)->H' a=some (.lst vs)
def Le.toX(l:Le G H Z H'):LeX G H Z H':=⟨l.ext,λa h=>.inl (by rw[<- l.del];exact h),l.tup,l.Jg,l.lst⟩
def LeX.get(l:LeX G H Z U){n:Nat}(h:G.l[n]?=some a):Z.l[n]?=some a:=by obtain⟨Y,e,_⟩:=l.ext;rw[e,gw (ak.mp h).1];exact h
def LeX.out(l:LeX R H G H')(h:R.off a)(Z:H a=some o):G.off a:=by
 obtain⟨Y,e,U⟩:=l.ext;refine⟨λm=>?_,λm=>?_⟩
 .rw[e] at m
  rcases bx.mp m with q|q
  .exact h.1 q
  .rw[U a q] at Z;cases Z
 .rcases l.del a m with q|q
  .exact h.2 q
  .rw[q] at Z;cases Z
structure Tr(K:Fg)(ι:Io)(H:Hp)(ι':Io)(H':Hp):Prop where
 tup:∀a vs,H a=some (.tup vs)->H' a=some (.tup vs)
 vl:∀a vs,H a=some (.lst vs)->ι.off a->H' a=some (.lst vs)/\ι'.off a
 fz:∀a vs,aan K H a vs->aan K H' a vs
 rf:∀(n:Nat) a,ι.l[n]?=some a->ι'.l[n]?=some a
mutual
theorem Rep.tr{K:Fg}{G Z:Io}{H U:Hp}(l:Tr K G H Z U):∀{d:Dv}{v:V},Rep K G H d v->Rep K Z U d v
 |_,_,.non=>.non|_,_,.bl b=>.bl b|_,_,.int i=>.int i|_,_,.str s=>.str s|_,_,.tup e r=>.tup (l.tup _ _ e) (mz.tr l r)|_,_,.vl e n r=>.vl (l.vl _ _ e n).1 (l.vl _ _ e n).2 (mz.tr l r)|_,_,.fz e r=>.fz (l.fz _ _ e) (mz.tr l r)|_,_,.ref e=>.ref (l.rf _ _ e)
theorem mz.tr{K:Fg}{U Z:Io}{H H':Hp}(l:Tr K U H Z H'):∀{R:List Dv}{G:List V},mz K U H R G->mz K Z H' R G
 |_,_,.nil=>.nil|_,_,.cons h t=>.cons (Rep.tr l h) (mz.tr l t)
end
def LeX.tr(l:LeX U H Z H'):Tr K U H Z H':=⟨l.tup,λa G e n=>⟨l.lst _ _ n.1 e,l.out n e⟩,λa G e=>by
 rcases e with⟨o,e⟩|e
 .exact .inl ⟨o,l.Jg _ _ _ e⟩
 .exact .inr e,λ_ _ e=>l.get e⟩
def Rep.Iv(l:LeX G H Z U)(r:Rep K G H d v):Rep K Z U d v:=r.tr l.tr
def mz.Iv(l:LeX G H Z U)(r:mz K G H ds vs):mz K Z U ds vs:=r.tr l.tr
def Rep.mono(l:Le G H Z U)(r:Rep K G H d v):Rep K Z U d v:=r.Iv l.toX
def mz.mono(l:Le G H Z U)(r:mz K G H ds vs):mz K Z U ds vs:=r.Iv l.toX
theorem mz.length{K:Fg}{U:Io}{H:Hp}:∀{Z:List Dv}{G:List V},mz K U H Z G->Z.length=G.length:=by intro A B h;induction A generalizing B with|nil=>cases h;rfl|cons d A ih=>cases h with|cons _ t=>rw[gj,gj,ih t]
theorem mz.get{K:Fg}{G:Io}{H:Hp}:∀{U:List Dv}{Z:List V}{i:Nat}{d:Dv},mz K G H U Z->U[i]?=some d->∃v,Z[i]?=some v/\Rep K G H d v
 |_,_,_,_,.nil,e=>by simp at e|_,_,0,_,.cons h _,e=>by simp at e;subst e;exact⟨_,rfl,h⟩
 |_,_,i+1,d,.cons _ t,e=>by
  obtain⟨v,h1,R⟩:=mz.get (i:=i) t (by simpa using e);exact⟨v,by simpa using h1,R⟩
theorem mz.set{K:Fg}{Z:Io}{H:Hp}{d:Dv}{v:V}(r:Rep K Z H d v):∀{G:List Dv}{U:List V}(i:Nat),mz K Z H G U->mz K Z H (G.set i d) (U.set i v)
 |_,_,_,.nil=>.nil|_,_,0,.cons _ t=>.cons r t|_,_,i+1,.cons h t=>.cons h (mz.set r i t)
theorem mz.append{K:Fg}{Z:Io}{H:Hp}:∀{R U:List Dv}{G us:List V},mz K Z H R G->mz K Z H U us->mz K Z H (R++U) (G++us):=by intro A _ B _ h r;induction A generalizing B with|nil=>cases h;exact r|cons d A ih=>cases h with|cons h t=>exact .cons h (ih t)
theorem mz.drop{K:Fg}{U:Io}{H:Hp}:∀{Z:List Dv}{G:List V}(n:Nat),mz K U H Z G->mz K U H (Z.drop n) (G.drop n)
 |_,_,0,r=>r|_,_,_+1,.nil=>.nil|_,_,n+1,.cons _ t=>mz.drop n t
theorem mz.take{K:Fg}{U:Io}{H:Hp}:∀{Z:List Dv}{G:List V}(n:Nat),mz K U H Z G->mz K U H (Z.take n) (G.take n)
 |_,_,0,_=>.nil|_,_,_+1,.nil=>.nil|_,_,n+1,.cons h t=>.cons h (mz.take n t)
theorem mz.eraseIdx{K:Fg}{U:Io}{H:Hp}:∀{Z:List Dv}{G:List V}(n:Nat),mz K U H Z G->mz K U H (Z.eraseIdx n) (G.eraseIdx n)
 |_,_,_,.nil=>.nil|_,_,0,.cons _ t=>t|_,_,n+1,.cons h t=>.cons h (mz.eraseIdx n t)
theorem mz.ints{K:Fg}{G:Io}{H:Hp}:∀(Z:X9),mz K G H (Z.map MW.D.int) (Z.map V.int)
 |[]=>.nil|n::r=>.cons (.int n) (mz.ints r)
structure Nm where
 cls:Nat->Option Addr
 xc:Nat->Option Addr
 fld:Nat->Str
 inj:∀i j,fld i=fld j->i=j
inductive qb{κ κ':Type}(K:Fg)(ι:Io)(H:Hp)(f:κ->κ'->Prop):List (κ×Dv)->List (κ'×V)->Prop
 |nil:qb K ι H f [] []
 |cons {k:κ} {k':κ'} {d:Dv} {v:V} {l:List (κ×Dv)} {l':List (κ'×V)} (hk:f k k') (h:Rep K ι H d v) (t:qb K ι H f l l'):qb K ι H f ((k,d)::l) ((k',v)::l')
theorem qb.tr{U Z:Type}{f:U->Z->Prop}(t:Tr K R H G H'){l:List (U×Dv)}{l':List (Z×V)}(h:qb K R H f l l'):qb K G H' f l l':=by
 induction h with
 |nil=>exact .nil|cons k h _ ih=>exact .cons k (h.tr t) ih
def qb.mono(le:Le G H Z U)(h:qb K G H f l l'):qb K Z U f l l':=h.tr le.toX.tr
def Gy(U:Nm)(K:Fg)(G:Io)(H:Hp)(o:MO)(a:Addr):Prop :=
 match o with
 |.lst ds=>∃R,H a=some (.lst R)/\mz K G H ds R|.dT ou=>∃l,H a=some (.dT l)/\qb K G H (λk Z=>k=Z) ou l
 |.ins c fs=>∃C dx l,U.cls c=some C/\H a=some (.ins C dx l)/\qb K G H (λk Z=>Z=U.fld k) fs l
 |.exc c=>∃C,H a=some (.ext (XAt a C))/\U.xc c=some C|.dF ou=>∃l o,H a=some (.Jg o (.dT l))/\qb K G H (λk Z=>k=Z) ou l
structure mq(nm:Nm)(K:Fg)(ι:Io)(H:Hp)(M:dj):Prop where
 len:ι.l.length=M.length
 nd:ι.l.Nodup
 del:∀a∈ι.δ,a∉ι.l/\∃vs,H a=some (.lst vs)
 obj:∀(n:Nat)(o:MO)(a:Addr),M[n]?=some o->ι.l[n]?=some a->Gy nm K ι H o a
def Mu:Option HO->Prop
 |some (.Jg _ (.dT _))=>True|u=>Mut u
theorem Gy.some(h:Gy nm K U H o a):∃u,H a=some u/\Mu (H a):=by
 cases o with
 |lst ds=>obtain⟨Z,e,_⟩:=h;exact⟨_,e,by rw[e];trivial⟩
 |dT G=>obtain⟨Z,e,_⟩:=h;exact⟨_,e,by rw[e];trivial⟩
 |ins c fs=>obtain⟨C,dx,l,_,e,_⟩:=h;exact⟨_,e,by rw[e];trivial⟩
 |exc c=>obtain⟨C,e,_⟩:=h;exact⟨_,e,by rw[e];trivial⟩
 |dF G=>obtain⟨Z,R,e,_⟩:=h;exact⟨_,e,by rw[e];trivial⟩
def mq.addr(S:mq nm K Z H M){n:Nat}(h:M[n]?=some o):∃a,Z.l[n]?=some a/\Gy nm K Z H o a:=by
 have G:n < Z.l.length:=by rw[S.len];exact MW.tu h
 exact⟨Z.l[n],by simp[G],S.obj n o _ h (by simp[G])⟩
def mq.mem(S:mq nm K Z H M)(h:a∈Z.l):∃u,H a=some u/\Mu (H a):=by
 obtain⟨n,G,rfl⟩:=xq h;have U:n<M.length:=by rw[<- S.len];exact G
 exact(S.obj n M[n] Z.l[n] (by simp[U]) (by simp[G])).some
def mq.fresh(S:mq nm K Z H M)(h:H a=none):Z.off a:=by
 refine⟨λm=>?_,λm=>?_⟩
 .obtain⟨u,e,_⟩:=S.mem m
  rw[h] at e;cases e
 .obtain⟨_,G,e⟩:=S.del a m
  rw[h] at e;cases e
theorem Gy.tr(h:Gy nm K R H o a)(t:Tr K R H G U)(e:U a=H a):Gy nm K G U o a:=by
 cases o with
 |lst ds=>obtain⟨Z,q,r⟩:=h;exact⟨Z,e.trans q,r.tr t⟩
 |dT ou=>obtain⟨Z,q,r⟩:=h;exact⟨Z,e.trans q,r.tr t⟩
 |ins c fs=>obtain⟨C,dx,l,hc,q,r⟩:=h;exact⟨C,dx,l,hc,e.trans q,r.tr t⟩
 |exc c=>obtain⟨C,q,r⟩:=h;exact⟨C,e.trans q,r⟩
 |dF ou=>obtain⟨Z,ob,q,r⟩:=h;exact⟨Z,ob,e.trans q,r.tr t⟩
def Gy.move(h:Gy nm K U H o a)(le:Le U H Z G)(e:G a=H a):Gy nm K Z G o a:=h.tr le.toX.tr e
def mq.laid(S:mq nm K Z H M)(h:H p=none)(o:HO):mq nm K Z (upd H p o) M/\Le Z H Z (upd H p o):=by
 have G:∀a u,H a=some u->a≠p:=λa u e=>ni e h
 have le:Le Z H Z (upd H p o):=⟨⟨[],by simp,by simp⟩,rfl,λa U e=>by rw[jx (G a _ e)];exact e,λa _ u e=>by rw[jx (G a _ e)];exact e,λa U _ e=>by rw[jx (G a _ e)];exact e,
  λa h'=>Hb (λb u e=>⟨u,by rw[jx (G b _ e)];exact e⟩) h'⟩
 refine⟨⟨S.len,S.nd,λa R=>?_,λn o' a hn R=>?_⟩,le⟩
 .obtain⟨h1,U,h2⟩:=S.del a R
  exact⟨h1,U,le.lst a U h1 h2⟩
 .have q:=S.obj n o' a hn R
  obtain⟨u,e,_⟩:=q.some;exact q.move le (by rw[jx (G a u e)])
def Bx{Z:Type}{l:List Z}{x y:Z}(h:(l++[x])[n]?=some y):(l[n]?=some y)\/(n=l.length/\y=x):=by
 rcases ju n l.length with q|q
 .rw[gw q] at h;exact .inl h
 .rw[n8 q] at h
  have:n-l.length=0:=by
   rcases Nat.eq_zero_or_pos (n-l.length) with z|z
   .exact z
   .rw[yu (by simp;exact z)] at h;cases h
  rw[this] at h;simp at h;exact .inr ⟨by lia,h.symm⟩
def mq.new(S:mq nm K Z H M)(h:H p=none)(G:∀a u,H a=some u->H' a=some u)(ho:Le Z H (Z.add p) H'->Gy nm K (Z.add p) H' o p):mq nm K (Z.add p) H' (M++[o])/\Le Z H (Z.add p) H':=by
 have le:Le Z H (Z.add p) H':=⟨⟨[p],rfl,by simpa using h⟩,rfl,λa R e=>G _ _ e,λa _ u e=>G _ _ e,λa R _ e=>G _ _ e,λa h'=>Hb (H:=H) (H':=H') (λb u e=>⟨u,G b u e⟩) h'⟩;refine⟨⟨by simp[Io.add,S.len],?_,λa U=>?_,λn o' a hn U=>?_⟩,le⟩
 .exact oh.mpr ⟨S.nd,by simp,by
   intro x hx y hy;have:y=p:=by simpa using hy
   subst this;intro e;subst e;exact(S.fresh h).1 hx⟩
 .obtain⟨h1,R,h2⟩:=S.del a U
  exact⟨le.a0k h1 h2,R,G _ _ h2⟩
 .rcases Bx hn with q|⟨q,rfl⟩
  .rcases Bx U with r|⟨r,_⟩
   .have z:=S.obj n o' a q r
    obtain⟨u,e,_⟩:=z.some;exact z.move le ((G a u e).trans e.symm)
   .exact absurd (MW.tu q) (by rw[r,S.len];exact m8 _)
  .rcases Bx U with r|⟨_,rfl⟩
   .exact absurd (ak.mp r).1 (by rw[q,S.len];exact m8 _)
   .exact ho le
def mq.put(S:mq nm K U H M)(hn:M[n]?=some G)(ha:U.l[n]?=some a)(ho:Le U H U (upd H a u)->Gy nm K U (upd H a u) o a)(hd:∀k,G≠.dF k:=by nofun):mq nm K U (upd H a u) (M.set n o)/\Le U H U (upd H a u):=by
 have Z:Mut (H a):=by
  have z:=S.obj n G a hn ha;cases G with
  |dF k=>exact absurd rfl (hd k)|ins c fs=>obtain⟨C,dx,l,_,e,_⟩:=z;rw[e];trivial
  |_=>obtain⟨vs,e,_⟩:=z;rw[e];trivial
 have hm:a∈U.l:=bc ha;have le:Le U H U (upd H a u):=⟨⟨[],by simp,by simp⟩,rfl,λb vs e=>by rw[jx (λz=>by subst z;rw[e] at Z;exact Z)];exact e,
  λb _ _ e=>by rw[jx (λz=>by subst z;rw[e] at Z;exact Z)];exact e,λb vs nb e=>by rw[jx (λz=>by subst z;exact nb hm)];exact e,λb h'=>Hb (λc w e=>by
   by_cases z:c=a
   .exact⟨u,by rw[z,q9]⟩
   .exact⟨w,by rw[jx z];exact e⟩) h'⟩
 refine⟨⟨by rw[Ae];exact S.len,S.nd,λb hb=>?_,λm o' b R hb=>?_⟩,le⟩
 .obtain⟨h1,vs,h2⟩:=S.del b hb
  exact⟨h1,vs,le.lst b vs h1 h2⟩
 by_cases q:m=n
 .subst q
  rw[MW.o6 hn] at R;cases R;rw[ha] at hb;cases hb;exact ho le
 .rw[MW.jq (jy q)] at R
  have z:=S.obj m o' b R hb;have nb:b≠a:=λe=>by subst e;obtain⟨l1,e1⟩:=ak.mp hb;obtain⟨l2,e2⟩:=ak.mp ha;exact q ((zf S.nd).mp (e1.trans e2.symm))
  exact z.move le (by rw[jx nb])
def atw(Z:H D=none):Tr K G H (G.hide D) (upd H D o) :=
 have k:∀{a u},H a=some u->upd H D o a=some u:=λe=>by rw[jx (ni e Z)];exact e
 ⟨λ_ _ e=>k e,λa U e n=>⟨k e,n.1,λm=>by
  rcases dh.mp m with q|q
  .exact ni e Z q
  .exact n.2 q⟩,λ_ _ e=>e.imp (λ⟨q,e⟩=>⟨q,k e⟩) id,λ_ _ e=>e⟩
def ah0(G:H D=some (.lst U))(hm:D∈Z.δ):Tr K Z H Z (upd H D (.lst R)) :=
 have k:∀{a u},a≠D->H a=some u->upd H D (.lst R) a=some u:=λn e=>by rw[jx n];exact e
 ⟨λ_ _ e=>k (ab6 e G (by intro z;cases z)) e,λa U e n=>⟨k (λz=>by subst z;exact n.2 hm) e,n⟩,λ_ _ e=>e.imp (λ⟨q,e⟩=>⟨q,k (ab6 e G (by intro z;cases z)) e⟩) id,λ_ _ e=>e⟩
def Io.show(Z:Io)(H:Hp)(D:Addr):Tr K (Z.hide D) H Z H:=⟨λ_ _ e=>e,λ_ _ e n=>⟨e,n.1,λm=>n.2 (bh _ m)⟩,λ_ _ e=>e,λ_ _ e=>e⟩
theorem Rep.show(r:Rep K (Z.hide D) H d v):Rep K Z H d v:=r.tr (Z.show H D)
theorem mz.show(r:mz K (Z.hide D) H d v):mz K Z H d v:=r.tr (Z.show H D)
theorem mq.hide(S:mq nm K ι H M)(Z:H D=none):mq nm K (ι.hide D) (upd H D (.lst [])) M:=by
 refine⟨S.len,S.nd,λa G=>?_,λn o a hn G=>?_⟩
 .rcases dh.mp G with q|q
  .subst q;exact⟨(S.fresh Z).1,[],q9⟩
  .obtain⟨h1,R,U⟩:=S.del a q
   exact⟨h1,R,by rw[jx (ni U Z)];exact U⟩
 .have z:=S.obj n o a hn G
  obtain⟨u,e,_⟩:=z.some;exact z.tr (atw Z) (by rw[jx (ni e Z)])
def mq.grow(S:mq nm K G H M)(hD:H D=some (.lst vs))(U:D∈G.δ):mq nm K G (upd H D (.lst ws)) M:=by
 refine⟨S.len,S.nd,λa Z=>?_,λn o a hn Z=>?_⟩
 .obtain⟨R,us,h2⟩:=S.del a Z
  by_cases z:a=D
  .subst z;exact⟨R,ws,q9⟩
  .exact⟨R,us,by rw[jx z];exact h2⟩
 .have z:=S.obj n o a hn Z
  have ne:a≠D:=λe=>by subst e;exact(S.del a U).1 (bc Z)
  exact z.tr (ah0 hD U) (by rw[jx ne])
theorem mq.show(S:mq nm K (G.hide D) H M):mq nm K G H M :=
 ⟨S.len,S.nd,λa Z=>S.del a (bh _ Z),λn o a U Z=>(S.obj n o a U Z).tr (G.show H D) rfl⟩
structure LeD(D:Addr)(ι:Io)(H:Hp)(ι':Io)(H':Hp):Prop where
 ext:∃Y,ι'.l=ι.l++Y/\∀a∈Y,H a=none
 del:ι'.δ=D::ι.δ
 tup:∀a vs,H a=some (.tup vs)->H' a=some (.tup vs)
 Jg:∀a o u,H a=some (.Jg o u)->H' a=some (.Jg o u)
 lst:∀a vs,a∉ι.l->H a=some (.lst vs)->H' a=some (.lst vs)
 dom:∀a,H' a=none->H a=none
def LeD.toX(l:LeD D G H Z H')(U:H D=none):LeX G H Z H':=⟨l.ext,λa h=>by
 rw[l.del] at h;rcases dh.mp h with q|q
 .exact .inr (by rw[q];exact U)
 .exact .inl q,l.tup,l.Jg,l.lst⟩
def LeD.start(Z:H D=none)(o:HO):LeD D U H (U.hide D) (upd H D o) :=
 ⟨⟨[],by simp[Io.hide],by simp⟩,rfl,λa G e=>by rw[jx (ni e Z)];exact e,λa _ _ e=>by rw[jx (ni e Z)];exact e,λa G _ e=>by rw[jx (ni e Z)];exact e,
  λa R=>Hb (λb u e=>⟨u,by rw[jx (ni e Z)];exact e⟩) R⟩
def LeD.go(a:LeD D ι H U H1)(b:Le U H1 R H2):LeD D ι H R H2:=by
 obtain⟨Y,e1,h1⟩:=a.ext;obtain⟨Z,e2,h2⟩:=b.ext;have out:∀x o,x∉ι.l->H x=some o->x∉U.l:=λx o n h m=>by
  rw[e1] at m;rcases bx.mp m with q|q
  .exact n q
  .rw[h1 x q] at h;cases h
 refine⟨⟨Y++Z,by rw[e2,e1,o8],λx m=>?_⟩,b.del.trans a.del,λx G h=>b.tup x G (a.tup x G h),λx o u h=>b.Jg x o u (a.Jg x o u h),λx G n h=>b.lst x G (out x _ n h) (a.lst x G n h),λx h=>a.dom x (b.dom x h)⟩;rcases bx.mp m with q|q
 .exact h1 x q
 .exact a.dom x (h2 x q)
def LeD.grow(a:LeD D ι H Z R)(U:H D=none)(hD:R D=some (.lst vs)):LeD D ι H Z (upd R D (.lst ws)) :=
 ⟨a.ext,a.del,λx G h=>by rw[jx (ni h U)];exact a.tup x G h,λx o u h=>by rw[jx (ni h U)];exact a.Jg x o u h,λx G n h=>by rw[jx (ni h U)];exact a.lst x G n h,
  λx h=>a.dom x (by
   by_cases z:x=D
   .rw[z,q9] at h;cases h
   .rw[jx z] at h;exact h)⟩
def LeD.done(a:LeD D G H ⟨Z.l,D::Z.δ⟩ H1):Le G H Z H1 :=
 ⟨a.ext,(Ab a.del).2,a.tup,a.Jg,a.lst,a.dom⟩
inductive qm(K:Fg)(ι:Io)(H:Hp):En->St->Prop
 |nil:qm K ι H [] []
 |skp {y:Option V} {ρ:En} {σ:St} (t:qm K ι H ρ σ):qm K ι H (none::ρ) (y::σ)
 |has {d:Dv} {v:V} {ρ:En} {σ:St} (h:Rep K ι H d v) (t:qm K ι H ρ σ):qm K ι H (some d::ρ) (some v::σ)
theorem qm.Iv{K:Fg}{G Z:Io}{H H':Hp}(le:LeX G H Z H'):∀{R:En}{U:St},qm K G H R U->qm K Z H' R U:=by intro _ _ h;induction h with|nil=>exact .nil|skp t ih=>exact .skp ih|has h t ih=>exact .has (h.Iv le) ih
theorem qm.mono{K:Fg}{G Z:Io}{H H':Hp}(le:Le G H Z H'):∀{R:En}{U:St},qm K G H R U->qm K Z H' R U:=by intro _ _ h;induction h with|nil=>exact .nil|skp t ih=>exact .skp ih|has h t ih=>exact .has (h.mono le) ih
theorem qm.get{K:Fg}{U:Io}{H:Hp}:∀{ρ:En}{R:St}{i:Nat}{d:Dv},qm K U H ρ R->ρ[i]?=some (some d)->∃v,R[i]?=some (some v)/\Rep K U H d v
 |_,_,_,_,.nil,e=>by simp at e|_,_,0,_,.skp _,e=>by simp at e|_,_,0,_,.has h _,e=>by simp at e;subst e;exact⟨_,rfl,h⟩
 |_,_,i+1,d,.skp t,e=>by
  obtain⟨v,G,Z⟩:=qm.get (i:=i) t (by simpa using e);exact⟨v,by simpa using G,Z⟩
 |_,_,i+1,d,.has _ t,e=>by
  obtain⟨v,G,Z⟩:=qm.get (i:=i) t (by simpa using e);exact⟨v,by simpa using G,Z⟩
theorem qm.set{K:Fg}{Z:Io}{H:Hp}{d:Dv}{v:V}(r:Rep K Z H d v):∀{U:En}{G:St}(i:Nat),qm K Z H U G->qm K Z H (U.set i (some d)) (G.set i (some v))
 |_,_,_,.nil=>.nil|_,_,0,.skp t=>.has r t|_,_,0,.has _ t=>.has r t|_,_,i+1,.skp t=>.skp (qm.set r i t)|_,_,i+1,.has h t=>.has h (qm.set r i t)
theorem qm.length{K:Fg}{U:Io}{H:Hp}:∀{G:En}{Z:St},qm K U H G Z->G.length=Z.length:=by intro _ _ h;induction h with|nil=>rfl|skp _ ih=>rw[gj,gj,ih]|has _ _ ih=>rw[gj,gj,ih]
theorem qm.append{K:Fg}{U:Io}{H:Hp}:∀{ρ G:En}{R Z:St},qm K U H ρ R->qm K U H G Z->qm K U H (ρ++G) (R++Z):=by intro _ _ _ _ h r;induction h with|nil=>exact r|skp t ih=>exact .skp ih|has h t ih=>exact .has h ih
theorem qm.acp{K:Fg}{G:Io}{H:Hp}:∀(k:Nat){Z:St},Z.length=k->qm K G H (List.replicate k none) Z
 |0,[],_=>.nil|k+1,_::r,h=>.skp (qm.acp k (by simpa using h))
theorem qm.ao6{K:Fg}{U:Io}{H:Hp}:∀{Z:List Dv}{G:List V},mz K U H Z G->qm K U H (Z.map some) (G.map some)
 |_,_,.nil=>.nil|_,_,.cons h t=>.has h (qm.ao6 t)
def dz{r:Res α}(h:r.bind f=.ok b M):∃a Z,r=.ok a Z/\f a Z=.ok b M:=by
 cases r with
 |ok a Z=>exact⟨a,Z,rfl,h⟩|bad=>cases h
def uo(h:Res.q8 o M=.ok a Z):o=some a/\Z=M:=by
 cases o with
 |none=>cases h|some x=>cases h;exact⟨rfl,rfl⟩
def PE.weak(h:PE X e t)(w:∀G H Q,t' G H Q->t G H Q):PE X e t':=λZ s G H Q I q=>h Z s G H Q I (w G H Q q)
def PT.weak(h:PT X e t)(w:∀G H Q,t' G H Q->t G H Q):PT X e t':=λZ s G H Q I q=>h Z s G H Q I (w G H Q q)
def PA.weak(h:PA X es t)(w:∀G H Q,t' G H Q->t G H Q):PA X es t':=λU Z s G H Q I q=>h U Z s G H Q I (w G H Q q)
def PS.weak(h:PS X e t)(w:∀D G H,t' D G H->t D G H):PS X e t':=λZ s G H D I q=>h Z s G H D I (w D G H q)
def Nx.weak(h:Nx X e t)(w:∀D G H,t' D G H->t D G H):Nx X e t':=λZ s G H D I q=>h Z s G H D I (w D G H q)
def Dd.weak(h:Dd X f r)(w:∀x y H Q,r' x y H Q->r x y H Q):Dd X f r':=λZ s U H x y v u Q I R G q=>h Z s U H x y v u Q I R G (w x y H Q q)
section
variable(nm:Nm)(W:Lp)(K:Fg)
def tE(e:Ex):TE:=fun σ H Q=>∃U R M d M',mq nm K U H M/\qm K U H R σ/\e.den W R M=.ok d M'/\∀Z G v,Le U H Z G->mq nm K Z G M'->Rep K Z G d v->Q v G
def tQ(e:Ex):TT:=fun σ H Q=>∃G R M b M',mq nm K G H M/\qm K G H R σ/\e.den W R M=.ok (.bl b) M'/\∀Z U,Le G H Z U->mq nm K Z U M'->Q b U
def tEs(es:Eg):TA:=fun σ H Q=>∃U ρ M ds M',mq nm K U H M/\qm K U H ρ σ/\es.den W ρ M=.ok ds M'/\∀Z G R,Le U H Z G->mq nm K Z G M'->mz K Z G ds R->Q R G
def Ws(E:XK)(D:Ends)(ι:Io)(H:Hp)(R:MW.Flow)(ρ:En)(M:dj):Prop :=
 ∀Z U G,Le ι H Z U->mq nm K Z U M->qm K Z U ρ G ->
  match R with
  |.next=>D.nx G U|.brk=>D.bk G U|.cont=>D.ct G U|.ret d=>∀v,Rep K Z U d v->D.rt v U|.err c=>∀C,nm.xc c=some C->E (.ref C) none U
def tS(E:XK)(st:Al):TS:=λD σ H=>∃G R M U Z M',mq nm K G H M/\qm K G H R σ/\st.den W R M=.ok (U,Z) M'/\Ws nm K E D G H U Z M'
def tSs(E:XK)(st:mj):TS:=λD σ H=>∃G R M U Z M',mq nm K G H M/\qm K G H R σ/\st.den W R M=.ok (U,Z) M'/\Ws nm K E D G H U Z M'
end
def PE.of(h:PE X a t)(w:∀U H Q G ρ M d M',mq nm X.K G H M->qm X.K G H ρ U->e'.den W ρ M=.ok d M'->(∀Z H' v,Le G H Z H'->mq nm X.K Z H' M'->Rep X.K Z H' d v->Q v H')->t U H Q):PE X a (tE nm W X.K e'):=PE.weak h λU H Q z_=>by obtain⟨G,ρ,M,d,M',S,R,e,q⟩:=z_;exact w U H Q G ρ M d M' S R e q
def PT.of(h:PT X a t)(w:∀U H Q Z ρ M b M',mq nm X.K Z H M->qm X.K Z H ρ U->e'.den W ρ M=.ok (.bl b) M'->(∀G H',Le Z H G H'->mq nm X.K G H' M'->Q b H')->t U H Q):PT X a (tQ nm W X.K e'):=PT.weak h λU H Q z_=>by obtain⟨Z,ρ,M,d,M',S,R,e,q⟩:=z_;exact w U H Q Z ρ M d M' S R e q
def PA.of(h:PA X es t)(w:∀U H Q G ρ M ds M',mq nm X.K G H M->qm X.K G H ρ U->qq.den W ρ M=.ok ds M'->(∀Z H' vs,Le G H Z H'->mq nm X.K Z H' M'->mz X.K Z H' ds vs->Q vs H')->t U H Q):PA X es (tEs nm W X.K qq):=PA.weak h λU H Q z_=>by obtain⟨G,ρ,M,d,M',S,R,e,q⟩:=z_;exact w U H Q G ρ M d M' S R e q
def PS.of(h:PS X st t)(w:∀D σ H G ρ M U Z M',mq nm X.K G H M->qm X.K G H ρ σ->s'.den W ρ M=.ok (U,Z) M'->Ws nm X.K EX D G H U Z M'->t D σ H):PS X st (tS nm W X.K EX s'):=PS.weak h λD σ H z_=>by obtain⟨G,ρ,M,U,Z,M',S,R,e,q⟩:=z_;exact w D σ H G ρ M U Z M' S R e q
def Nx.of(h:Nx X st t)(w:∀D σ H G ρ M U Z M',mq nm X.K G H M->qm X.K G H ρ σ->s'.den W ρ M=.ok (U,Z) M'->Ws nm X.K EX D G H U Z M'->t D σ H):Nx X st (tSs nm W X.K EX s'):=Nx.weak h λD σ H z_=>by obtain⟨G,ρ,M,U,Z,M',S,R,e,q⟩:=z_;exact w D σ H G ρ M U Z M' S R e q
def one{X:Cx}{M1:dj}(S:mq nm X.K ι H M)(R:qm X.K ι H ρ σ)(ha:a'.den W ρ M=.ok x M1)(h:∀Z U v,Le ι H Z U->mq nm X.K Z U M1->qm X.K Z U ρ σ->Rep X.K Z U x v->G v U):tE nm W X.K a' σ H G :=
 ⟨ι,ρ,M,x,M1,S,R,ha,λqq H' v le S' r=>h qq H' v le S' (R.mono le) r⟩
theorem two{X:Cx}{M1 M2:dj}{G:V->V->Hp->Prop}(S:mq nm X.K ι H M)(R:qm X.K ι H U σ)(ha:a'.den W U M=.ok x M1)(hb:b'.den W U M1=.ok y M2)(h:∀Z H2 v u,Le ι H Z H2->mq nm X.K Z H2 M2->qm X.K Z H2 U σ->Rep X.K Z H2 x v->Rep X.K Z H2 y u->G v u H2) :
 tE nm W X.K a' σ H λv H1=>tE nm W X.K b' σ H1 λu H2=>G v u H2 :=
 one S R ha λqk H1 v qq S1 R1 r1=>one S1 R1 hb λZ H2 u zb S2 R2 r2=>h Z H2 v u (qq.trans zb) S2 R2 (r1.mono zb) r2
set_option tactic.hygienic true in
def a7m(L:X.N[i]?=some n)(J:Vis X.env.scope n)(Z:(n==("__debug__" : Str))=false)(Y:(n==("__classdict__" : Str))=false):PE X (.Name n pos) (tE nm W X.K (.var i)) :=
 PE.of (ay8 L J Z Y) fun σ H Q U ρ M d M' S R e q=>by
  rw[MW.arf] at e;split at e
  .rename_i u Z
   cases e;obtain⟨v,C,G⟩:=R.get Z;exact⟨v,C,q U H v (Le.refl _ _) S G⟩
  .cases e
def a7n:PE X (.Constant (.int i) j pos) (tE nm W X.K (.cst (.int i))) :=
 PE.of ane λU H Q Z ρ M d G S R e q=>by rw[MW.Ju] at e;cases e;exact q Z H _ (Le.refl _ _) S (.int i)
def beb:PE X (.Constant (.bool i) j pos) (tE nm W X.K (.cst (.bl i))) :=
 PE.of a5n λU H Q Z ρ M d G S R e q=>by rw[MW.Ju] at e;cases e;exact q Z H _ (Le.refl _ _) S (.bl i)
def a7o:PE X (.Constant .none j pos) (tE nm W X.K (.cst .non)) :=
 PE.of ay9 λU H Q Z ρ M d G S R e q=>by rw[MW.Ju] at e;cases e;exact q Z H _ (Le.refl _ _) S .non
def a7p:PE X (.Constant (.str i) j pos) (tE nm W X.K (.cst (.str i))) :=
 PE.of anf λU H Q Z ρ M d G S R e q=>by rw[MW.Ju] at e;cases e;exact q Z H _ (Le.refl _ _) S (.str i)
def a0l(Z:Gl X n)(hm:X.mg n=some (.int i t))(U:(n==("__debug__" : Str))=false):PE X (.Name n pos) (tE nm W X.K (.cst (.int i))) :=
 PE.of (asu (v:=.int i) Z hm ⟨t,rfl⟩ U) fun σ H Q G ρ M d M' S R e q=>by rw[MW.Ju] at e;cases e;exact q G H _ (Le.refl _ _) S (.int i)
def rOp(R:Nm)(K:Fg)(f:Dv->Dv->dj->Res Dv):R2:=λv u H Q=>∃G M x y d M',mq R K G H M/\Rep K G H x v/\Rep K G H y u/\f x y M=.ok d M' /\
 ∀Z U w,Le G H Z U->mq R K Z U M'->Rep K Z U d w->Q w U
def Dd.of(h:Dd X f r)(w:∀v u H Q G M x y d U,mq nm X.K G H M->Rep X.K G H x v->Rep X.K G H y u->g x y M=.ok d U->(∀Z R w,Le G H Z R->mq nm X.K Z R U->Rep X.K Z R d w->Q w R)->r v u H Q):Dd X f (rOp nm X.K g) :=
 Dd.weak h λv u H Q z_=>by obtain⟨G,M,x,y,d,U,S,rv,ru,e,q⟩:=z_;exact w v u H Q G M x y d U S rv ru e q
def a7q(ho:Dd X (binaryOp op) (rOp nm X.K (MW.Ax U)))(ha:PE X a (tE nm W X.K a'))(hb:PE X b (tE nm W X.K b')):PE X (.BinOp a op b pos) (tE nm W X.K (.bin U a' b')) :=
 PE.of (a6c ho ha hb) fun σ H Q ι ρ M d M' S R e q=>by rw[MW.arh] at e;obtain⟨x,M1,e1,e⟩:=dz e;obtain⟨y,M2,e2,e⟩:=dz e;exact two S R e1 e2 λZ H2 v u le S2 _ rv ru=>⟨Z,M2,x,y,d,M',S2,rv,ru,e,λG H' w Wt S' r=>q G H' w (le.trans Wt) S' r⟩
def a7r:Dd X (binaryOp .Sub) (rOp nm X.K (MW.Ax .sub)) :=
 Dd.of azq λv u H Q G M x y d M' S Z R e q=>by obtain⟨i,j,rfl,rfl,U⟩:=MW.Zj e (by intro z;cases z);cases Z;cases R;cases U;exact⟨_,_,rfl,rfl,q G H _ (Le.refl _ _) S (.int _)⟩
def a0m{g:Int->Int->Int}{P:Int->Int->Prop}[∀i j,Decidable (P i j)](h:Dd X (binaryOp op) r)(hb:∀x y M,MW.Ax G x y M=MW.ii x y (λi j=>if P i j then .ok (.int (g i j)) M else .bad) .bad)(w:∀i j H Q,P i j->Q (.int (g i j)) H->r (.int i) (.int j) H Q):Dd X (binaryOp op) (rOp nm X.K (MW.Ax G)) :=
 Dd.of h λv u H Q ι M x y d M' S R ru e q=>by
  rw[hb] at e;obtain⟨i,j,rfl,rfl,Z⟩:=MW.Zj e (by intro z;cases z)
  by_cases U:P i j
  .rw[cg U] at Z
   cases R;cases ru;cases Z;exact w i j H Q U (q ι H _ (Le.refl _ _) S (.int _))
  .rw[bz U] at Z;cases Z
def a7s:Dd X (binaryOp .Mod) (rOp nm X.K (MW.Ax .mod)):=a0m azs (λ_ _ _=>rfl) λi j H Q h q=>⟨_,_,rfl,rfl,h,q⟩
def a0n:Dd X (binaryOp .FloorDiv) (rOp nm X.K (MW.Ax .fdiv)):=a0m as3 (λ_ _ _=>rfl) λi j H Q h q=>⟨_,_,rfl,rfl,h,q⟩
def a7t:Dd X (binaryOp .Pow) (rOp nm X.K (MW.Ax .pow)):=a0m azt (λ_ _ _=>rfl) λi j H Q h q=>⟨_,_,rfl,rfl,⟨h.1,by omega,h.2.2⟩,q⟩
set_option tactic.hygienic true in
def ue{X:Cx}(S:mq nm X.K Z H M)(r:Rep X.K Z H d v)(h:MW.fj M d=some ds):∃p vs,v=.ref p/\H p=some (.lst vs)/\mz X.K Z H ds vs:=by
 cases r with
 |vl e n r=>simp[MW.fj] at h;subst h;exact⟨_,_,rfl,e,r⟩
 |ref e =>
  rename_i n p;simp only[MW.fj] at h;split at h<;>simp at h;rename_i G J;subst h;obtain⟨vs,U,Y⟩:=S.obj n _ p J e;exact⟨p,vs,rfl,U,Y⟩
 |_=>simp[MW.fj] at h
def Hf{X:Cx}(S:mq nm X.K R H M)(r:Rep X.K R H d v)(h:MW.j7 M d=some ds):∃p vs,v=.ref p/\(H p=some (.lst vs)\/H p=some (.tup vs))/\mz X.K R H ds vs:=by
 cases r with
 |tup e r=>simp[MW.j7] at h;subst h;exact⟨_,_,rfl,.inr e,r⟩
 |vl e n r =>
  obtain⟨p,vs,U,Z,G⟩:=ue S (.vl e n r) (show MW.fj M _=_ from h);exact⟨p,vs,U,.inl Z,G⟩
 |ref e =>
  obtain⟨p,vs,U,Z,G⟩:=ue S (.ref e) (show MW.fj M _=_ from h);exact⟨p,vs,U,.inl Z,G⟩
 |_=>simp[MW.j7,MW.fj] at h
def Wv{X:Cx}(S:mq nm X.K Z H M)(U:H p=none)(r:mz X.K Z H ds G):mq nm X.K Z (upd H p (.lst G)) M/\Le Z H Z (upd H p (.lst G))/\Rep X.K Z (upd H p (.lst G)) (.vl ds) (.ref p):=by obtain⟨R,le⟩:=S.laid U (.lst G);exact⟨R,le,.vl q9 (S.fresh U) (r.mono le)⟩
def Hc{X:Cx}(S:mq nm X.K Z H M)(U:H p=none)(r:mz X.K Z H ds G):mq nm X.K Z (upd H p (.tup G)) M/\Le Z H Z (upd H p (.tup G))/\Rep X.K Z (upd H p (.tup G)) (.tup ds) (.ref p):=by obtain⟨R,le⟩:=S.laid U (.tup G);exact⟨R,le,.tup q9 (r.mono le)⟩
def ah1{X:Cx}(S:mq nm X.K Z H M)(U:H p=none)(r:mz X.K Z H ds G):mq nm X.K (Z.add p) (upd H p (.lst G)) (M++[.lst ds])/\Le Z H (Z.add p) (upd H p (.lst G))/\Rep X.K (Z.add p) (upd H p (.lst G)) (.ref M.length) (.ref p):=by
 obtain⟨R,le⟩:=S.new (H':=upd H p (.lst G)) (o:=.lst ds) U (λa u e=>by rw[jx (ni e U)];exact e) λle=>⟨G,q9,r.mono le⟩
 exact⟨R,le,.ref (by show(Z.l++[p])[M.length]?=some p;rw[<- S.len];simp)⟩
def Wx:(100000:Nat)<=sizeLine:=by decide
set_option tactic.hygienic true in
def atx(h:MW.Ax .add x y M=.ok d M'):(∃i j,x=.int i/\y=.int j/\d=.int (i+j)/\M'=M) \/
 (∃Z Y,x=.tup Z/\y=.tup Y/\Z.length+Y.length<=100000/\d=.tup (Z++Y)/\M'=M) \/
 ∃Z Y,MW.fj M x=some Z/\MW.fj M y=some Y/\Z.length+Y.length<=100000/\d=.vl (Z++Y)/\M'=M:=by
 have h:MW.X6 x y M=.ok d M':=h;unfold MW.X6 at h;split at h<;>try cases h
 .exact .inl ⟨_,_,rfl,rfl,rfl,rfl⟩
 .split at h<;>cases h
  rename_i C;exact .inr (.inl ⟨_,_,rfl,rfl,C,rfl,rfl⟩)
 .split at h
  .split at h<;>cases h
   rename_i J G U;exact .inr (.inr ⟨_,_,J,G,U,rfl,rfl⟩)
  .cases h
set_option tactic.hygienic true in
def aty(h:MW.abg x y M=.ok d Z):(∃i j,x=.int i/\y=.int j/\asz i j/\d=.int (i*j)/\Z=M)\/(∃z,∃k:Nat,x=.tup [z]/\y=.int k/\k<=100000/\d=.tup (List.replicate k z)/\Z=M)\/∃z,∃k:Nat,x=.vl [z]/\y=.int k/\k<=100000/\d=.vl (List.replicate k z)/\Z=M:=by
 unfold MW.abg at h;split at h
 .split at h
  .rename_i n
   split at h
   .rename_i G
    cases h;exact .inr (.inr ⟨_,n.toNat,rfl,by rw[Int.toNat_of_nonneg G.1],by omega,rfl,rfl⟩)
   .cases h
  .cases h
 .split at h
  .rename_i n
   split at h
   .rename_i G
    cases h;exact .inr (.inl ⟨_,n.toNat,rfl,by rw[Int.toNat_of_nonneg G.1],by omega,rfl,rfl⟩)
   .cases h
  .cases h
 .obtain⟨i,j,rfl,rfl,Y⟩:=MW.Zj h (by intro z;cases z)
  split at Y
  .rename_i J
   cases Y;exact .inl ⟨i,j,rfl,rfl,J,rfl,rfl⟩
  .cases Y
theorem Wy(r:Rep K Z H d v):∀k:Nat,mz K Z H (List.replicate k d) (List.replicate k v)
 |0=>.nil|k+1=>.cons r (Wy r k)
def a7u:Dd X (binaryOp .Mult) (rOp nm X.K (MW.Ax .mul)) :=
 Dd.of (azr.or (atj.or atk)) λv u H Q G M x y d M' S R ru e q=>by
  rcases aty e with⟨i,j,rfl,rfl,hc,rfl,rfl⟩|⟨z,k,rfl,rfl,hk,rfl,rfl⟩|⟨z,k,rfl,rfl,hk,rfl,rfl⟩
  .cases R;cases ru
   exact .inl ⟨_,_,rfl,rfl,hc,q G H _ (Le.refl _ _) S (.int _)⟩
  .cases ru
   cases R with
   |tup U Z =>
    cases Z with
    |cons Z r2 =>
     cases r2;refine .inr (.inl ⟨_,_,k,rfl,rfl,Gu.of U,hk,λh1=>?_,λp hp=>?_⟩)
     .subst h1
      exact q G H _ (Le.refl _ _) S (.tup U (.cons Z .nil))
     .obtain⟨a,b,c⟩:=Hc S hp (Wy Z k)
      exact q G _ _ b a c
  .cases ru
   cases R with
   |vl U no Z =>
    cases Z with
    |cons Z r2 =>
     cases r2;refine .inr (.inr ⟨_,_,k,rfl,rfl,Gm.of U,hk,λp hp=>?_⟩);obtain⟨a,b,c⟩:=Wv S hp (Wy Z k);exact q G _ _ b a c
def a7v:Dd X (binaryOp .Add) (rOp nm X.K (MW.Ax .add)) :=
 Dd.of (azp.or (az8.or atf)) λv u H Q ι M x y d M' S rv ru e q=>by
  have U:∀R ys,MW.fj M x=some R->MW.fj M y=some ys->R.length+ys.length<=100000->d=.vl (R++ys)->M'=M->a69 v u H Q:=λR ys h1 h2 hl hd hm=>by
   subst hd hm;obtain⟨p,vs,rfl,e1,Z⟩:=ue S rv h1;obtain⟨p2,qq,rfl,e2,G⟩:=ue S ru h2;refine⟨p,p2,vs,qq,rfl,rfl,e1,e2,?_,λp3 h3=>?_⟩
   .rw[<- Z.length,<- G.length];exact au hl Wx
   .obtain⟨a,b,c⟩:=Wv S h3 (Z.append G)
    exact q ι _ _ b a c
  rcases atx e with⟨i,j,rfl,rfl,rfl,rfl⟩|⟨R,ys,rfl,rfl,hl,rfl,rfl⟩|⟨R,ys,h1,h2,hl,h3,h4⟩
  .cases rv;cases ru
   exact .inl ⟨_,_,rfl,rfl,q ι H _ (Le.refl _ _) S (.int _)⟩
  .cases rv with
   |tup e1 Z =>
    cases ru with
    |tup e2 G =>
     refine .inr (.inr ⟨_,_,_,_,rfl,rfl,Gu.of e1,Gu.of e2,?_,λhn=>?_,λhn=>?_,λp hp=>?_⟩)
     .rw[<- Z.length,<- G.length];exact au hl Wx
     .have:=Z.length
      rw[hn] at this;rw[xu.mp this,List.nil_append] at q;exact q ι H _ (Le.refl _ _) S (.tup e2 G)
     .have:=G.length
      rw[hn] at this;rw[xu.mp this,kh] at q;exact q ι H _ (Le.refl _ _) S (.tup e1 Z)
     .obtain⟨a,b,c⟩:=Hc S hp (Z.append G)
      exact q ι _ _ b a c
  .exact .inr (.inl (U _ _ h1 h2 hl h3 h4))
def a0o{t:TE}(h:PT X a (λZ H Q=>t Z H λx H1=>∃c,x=.bl c/\Q c H1))(w:∀Z H Q,tE nm W X.K a' Z H Q->t Z H Q):PT X a (tQ nm W X.K a') :=
 PT.of h λZ H Q ι ρ M b M' S R e q=>w Z H _ ⟨ι,ρ,M,_,M',S,R,e,λG H' v le U r=>by cases r;exact⟨b,rfl,q G H' le U⟩⟩
def a7x(h:PE X a (tE nm W X.K G))(U:∀Z,isTrue a X.env Z=(do let v <- Z;standAt a.pos;holding [v] (truthy v))):PT X a (tQ nm W X.K G) :=
 a0o (aza h U) λ_ _ _ q=>q
def Xj(G:Nm)(K:Fg)(U:Cp):R2:=λv u H Q=>∃Z M x y b,mq G K Z H M/\Rep K Z H x v/\Rep K Z H y u/\MW.Lr U x y M=some b/\Q (.bl b) H
def acq{X:Cx}:∀U H Q,tE nm W X.K (.cmp G a' b') U H Q->tOp (Xj nm X.K G) (tE nm W X.K a') (tE nm W X.K b') U H Q:=λU H Q hh=>by obtain⟨ι,ρ,M,d,M',S,R,e,q⟩:=hh;rw[MW.Uk] at e;obtain⟨x,M1,e1,e⟩:=dz e;obtain⟨y,M2,e2,e⟩:=dz e;obtain⟨e,rfl⟩:=uo e;obtain⟨b,e3,rfl⟩:=bw.mp e;exact two S R e1 e2 λZ H2 v u le S2 _ rv ru=>⟨Z,M',x,y,b,S2,rv,ru,e3,q Z H2 _ le S2 (.bl b)⟩
def a7y(U:Dd X (compareOp op) (Xj nm X.K Z))(ha:PE X a (tE nm W X.K G))(hb:PE X b (tE nm W X.K b'))(R:behindInMarks op b=false):PE X (.Compare a [op] [b] pos) (tE nm W X.K (.cmp Z G b')) :=
 PE.weak (as4 U ha hb R) acq
def a7z(R:Dd X (compareOp op) (Xj nm X.K Z))(ha:PE X a (tE nm W X.K G))(hb:PE X b (tE nm W X.K U))(hm:behindInMarks op b=false):PT X (.Compare a [op] [b] pos) (tQ nm W X.K (.cmp Z G U)) :=
 a0o (t:=tOp (Xj nm X.K Z) (tE nm W X.K G) (tE nm W X.K U)) (as5 R ha hb hm) acq
def Wz{X:Cx}:∀σ H Q,tE nm W X.K (.chain op1 op2 a' b' c') σ H Q->aaf (Xj nm X.K op1) (Xj nm X.K op2) (tE nm W X.K a') (tE nm W X.K b') (tE nm W X.K c') σ H Q:=fun σ H Q hh=>by
 obtain⟨ι,ρ,M,d,M',S,R,e,q⟩:=hh;rw[MW.ai7] at e;obtain⟨x,M1,e1,e⟩:=dz e;obtain⟨y,M2,e2,e⟩:=dz e;obtain⟨k,Z,e3,e⟩:=dz e;obtain⟨e3,rfl⟩:=uo e3;refine two S R e1 e2 λU H2 v u le S2 R2 rv ru=>⟨U,Z,x,y,k,S2,rv,ru,e3,k,rfl,?_⟩
 cases k with
 |false =>
  have e:Res.ok (MW.D.bl false) Z=.ok d M':=e;cases e;exact q U H2 _ le S2 (.bl false)
 |true =>
  have e:((c'.den W ρ Z).bind λz M3=>Res.q8 ((MW.Lr op2 y z M3).map MW.D.bl) M3)=.ok d M':=e;obtain⟨z,M3,e4,e⟩:=dz e;obtain⟨e,rfl⟩:=uo e;obtain⟨b,e5,rfl⟩:=bw.mp e;show tE nm W X.K c' σ H2 _;exact one S2 R2 e4 λG H3 w T4 S3 _ rw=>⟨G,M',y,z,b,S3,ru.mono T4,rw,e5,q G H3 _ (le.trans T4) S3 (.bl b)⟩
def atz(h1:Dd X (compareOp G) (Xj nm X.K op1))(R:Dd X (compareOp Z) (Xj nm X.K op2))(ha:PE X a (tE nm W X.K a'))(hb:PE X b (tE nm W X.K b'))(hc:PE X c (tE nm W X.K U))(hm:lastMarks [G,Z] [b,c]=false) :
 PE X (.Compare a [G,Z] [b,c] pos) (tE nm W X.K (.chain op1 op2 a' b' U)):=PE.weak (anp h1 R ha hb hc hm) Wz
def at3(h1:Dd X (compareOp R) (Xj nm X.K op1))(h2:Dd X (compareOp G) (Xj nm X.K op2))(ha:PE X a (tE nm W X.K U))(hb:PE X b (tE nm W X.K b'))(hc:PE X c (tE nm W X.K Z))(hm:lastMarks [R,G] [b,c]=false) :
 PT X (.Compare a [R,G] [b,c] pos) (tQ nm W X.K (.chain op1 op2 U b' Z)):=a0o (t:=aaf (Xj nm X.K op1) (Xj nm X.K op2) (tE nm W X.K U) (tE nm W X.K b') (tE nm W X.K Z)) (anq h1 h2 ha hb hc hm) Wz
def aaq(h:Dd X (compareOp op) (rI0 λi j=>.bl (f i j)))(e:∀x y M,MW.Lr Z x y M=MW.abh f x y):Dd X (compareOp op) (Xj nm X.K Z) :=
 Dd.weak h λv u H Q R=>by obtain⟨ι,M,x,y,b,S,U,ru,G,q⟩:=R;rw[e] at G;obtain⟨i,j,rfl,rfl,e2⟩:=MW.Zj G (by intro z;cases z);cases U;cases ru;cases e2;exact⟨_,_,rfl,rfl,q⟩
def bed:Dd X (compareOp .Lt) (Xj nm X.K .lt):=aaq a6g λ_ _ _=>rfl
def bee:Dd X (compareOp .LtE) (Xj nm X.K .le):=aaq a6h λ_ _ _=>rfl
def bef:Dd X (compareOp .Gt) (Xj nm X.K .gt):=aaq a6i λ_ _ _=>rfl
def beh:Dd X (compareOp .GtE) (Xj nm X.K .ge):=aaq a6j λ_ _ _=>rfl
set_option tactic.hygienic true in
def awu{Z:Ya}(C:PE X a (tE nm W X.K a'))(hb:PE X (.BoolOp .And (b::Z) pos) (tE nm W X.K b')):PE X (.BoolOp .And (a::b::Z) pos) (tE nm W X.K (.and a' b')) :=
 PE.of (azd C hb) fun σ H Q ι ρ M d M' S R e q=>by
  rw[MW.P0] at e;obtain⟨x,M1,U,e⟩:=dz e;refine one S R U λY L v le J u r=>?_
  cases r<;>try cases e
  rename_i k;refine⟨k,rfl,?_⟩;cases k with
  |false=>cases e;exact q Y L _ le J (.bl false)|true=>exact one J u e λG H2 w zb S2 _ r2=>q G H2 w (le.trans zb) S2 r2
set_option tactic.hygienic true in
def a70{Z:Ya}(C:PE X a (tE nm W X.K a'))(hb:PE X (.BoolOp .Or (b::Z) pos) (tE nm W X.K b')):PE X (.BoolOp .Or (a::b::Z) pos) (tE nm W X.K (.or a' b')) :=
 PE.of (a5r C hb) fun σ H Q ι ρ M d M' S R e q=>by
  rw[MW.Jv] at e;obtain⟨x,M1,U,e⟩:=dz e;refine one S R U λY L v le J u r=>?_
  cases r<;>try cases e
  rename_i k;refine⟨k,rfl,?_⟩;cases k with
  |true=>cases e;exact q Y L _ le J (.bl true)|false=>exact one J u e λG H2 w zb S2 _ r2=>q G H2 w (le.trans zb) S2 r2
def a71(ha:PE X a (tE nm W X.K G)):PE X (.UnaryOp .Not a pos) (tE nm W X.K (.not G)) :=
 PE.of (aze ha) fun σ H Q ι ρ M d M' S R e q=>by
  rw[MW.af1] at e;obtain⟨x,M1,U,e⟩:=dz e;refine one S R U λZ H1 v le S1 R1 r=>?_
  cases r<;>try cases e
  exact⟨_,rfl,q Z H1 _ le S1 (.bl _)⟩
def aar{X:Cx}{M1:dj}(S:mq nm X.K ι H M)(R:qm X.K ι H ρ σ)(ha:a'.den W ρ M=.ok (.bl k) M1)(h:∀Z U,Le ι H Z U->mq nm X.K Z U M1->qm X.K Z U ρ σ->G k U):tQ nm W X.K a' σ H G :=
 ⟨ι,ρ,M,k,M1,S,R,ha,λqq H' le S'=>h qq H' le S' (R.mono le)⟩
set_option tactic.hygienic true in
def awv{rest:Ya}(ha:PT X a (tQ nm W X.K C))(hb:PW X (.BoolOp .And (b::rest) pos) (tQ nm W X.K b')):PW X (.BoolOp .And (a::b::rest) pos) (tQ nm W X.K (.and C b')) :=
 λZ Y s σ H Q I ⟨ι,ρ,M,d,M',S,R,e,q⟩=>azc ha hb Z Y s σ H Q I (by
  rw[MW.P0] at e;obtain⟨x,M1,e1,e⟩:=dz e;cases x<;>try cases e
  rename_i k;refine aar S R e1 λJ H1 le U u=>?_
  cases k with
  | false=>cases e;exact q J H1 le U|true=>exact aar U u e λG H2 L S2 _=>q G H2 (le.trans L) S2)
set_option tactic.hygienic true in
def a72{rest:Ya}(ha:PT X a (tQ nm W X.K C))(hb:PW X (.BoolOp .Or (b::rest) pos) (tQ nm W X.K b')):PW X (.BoolOp .Or (a::b::rest) pos) (tQ nm W X.K (.or C b')) :=
 λZ Y s σ H Q I ⟨ι,ρ,M,d,M',S,R,e,q⟩=>a5o ha hb Z Y s σ H Q I (by
  rw[MW.Jv] at e;obtain⟨x,M1,e1,e⟩:=dz e;cases x<;>try cases e
  rename_i k;refine aar S R e1 λJ H1 le U u=>?_
  cases k with
  | true=>cases e;exact q J H1 le U|false=>exact aar U u e λG H2 L S2 _=>q G H2 (le.trans L) S2)
def a73(ha:PT X a (tQ nm W X.K G)):PT X (.UnaryOp .Not a pos) (tQ nm W X.K (.not G)) :=
 PT.of (ang ha) fun σ H Q ι ρ M d M' S R e q=>by
  rw[MW.af1] at e;obtain⟨x,M1,U,e⟩:=dz e;cases x<;>try cases e
  exact aar S R U λZ H1 le S1 R1=>q Z H1 le S1
def ah2:PA X [] (tEs nm W X.K .nil):=PA.of anw λG H Q Z U M ds M' S R e q=>by rw[MW.Ek] at e;cases e;exact q Z H _ (Le.refl _ _) S .nil
def W0{X:Cx}{M1:dj}(S:mq nm X.K ι H M)(R:qm X.K ι H ρ σ)(ha:es'.den W ρ M=.ok ds M1)(h:∀Z U vs,Le ι H Z U->mq nm X.K Z U M1->qm X.K Z U ρ σ->mz X.K Z U ds vs->G vs U):tEs nm W X.K es' σ H G :=
 ⟨ι,ρ,M,ds,M1,S,R,ha,λqq H' v le S' r=>h qq H' v le S' (R.mono le) r⟩
def aas(ha:PE X a (tE nm W X.K a'))(hr:PA X es (tEs nm W X.K Z))(hs:starEach (a::es) X.env=(false,eval a X.env)::starEach es X.env):PA X (a::es) (tEs nm W X.K (.cons a' Z)) :=
 PA.of (ahm ha hr hs) fun σ H Q ι ρ M ds M' S R e q=>by rw[MW.Cr] at e;obtain⟨x,M1,e1,e⟩:=dz e;obtain⟨xs,M2,e2,e⟩:=dz e;cases e;exact one S R e1 λqq H1 v le S1 R1 r1=>W0 S1 R1 e2 λG H2 vs U S2 R2 r2=>q G H2 _ (le.trans U) S2 (.cons (r1.mono U) r2)
noncomputable def Eg.len:Eg->Nat
 |.nil=>0|.cons _ r=>Eg.len r+1
theorem Hz{W:Lp}:∀{Z:Eg}{ρ:En}{M G:dj}{U:List Dv},Z.den W ρ M=.ok U G->U.length=Eg.len Z
 |.nil,_,_,_,_,e=>by rw[MW.Ek] at e;cases e;rfl
 |.cons _ r,_,_,_,_,e=>by
  rw[MW.Cr] at e;obtain⟨x,G,e1,e⟩:=dz e;obtain⟨xs,M2,R,e⟩:=dz e;cases e;rw[gj,Hz R];rfl
def a74(h:PA X es (tEs nm W X.K Z))(hl:Eg.len Z<=1000):PE X (.Tuple es k pos) (tE nm W X.K (.tup Z)) :=
 PE.of (azx h) fun σ H Q ι ρ M d M' S R e q=>by
  rw[MW.arj] at e;obtain⟨ds,M1,U,e⟩:=dz e;cases e;refine W0 S R U λG H1 vs le S1 R1 r=>⟨?_,λp hp=>?_⟩
  .rw[<- r.length,Hz U];exact au hl (by decide)
  .obtain⟨S2,zb,r2⟩:=Hc S1 hp r
   exact q G _ _ (le.trans zb) S2 r2
def a0q(h:PA X es (tEs nm W X.K Z))(hl:Eg.len Z<=1000):PE X (.List es pos) (tE nm W X.K (.Bg Z)) :=
 PE.of (anx h) fun σ H Q ι ρ M d M' S R e q=>by
  rw[MW.Ve] at e;obtain⟨ds,M1,U,e⟩:=dz e;cases e;refine W0 S R U λG H1 vs le S1 R1 r=>⟨?_,λp hp=>?_⟩
  .rw[<- r.length,Hz U];exact au hl (by decide)
  .obtain⟨S2,zb,r2⟩:=Wv S1 hp r
   exact q G _ _ (le.trans zb) S2 r2
def a75(h:PA X es (tEs nm W X.K Z))(hl:Eg.len Z<=1000):PE X (.List es pos) (tE nm W X.K (.lst Z)) :=
 PE.of (anx h) fun σ H Q ι ρ M d M' S R e q=>by
  rw[MW.af2] at e;obtain⟨ds,M1,G,e⟩:=dz e;cases e;refine W0 S R G λqq H1 vs le S1 R1 r=>⟨?_,λp hp=>?_⟩
  .rw[<- r.length,Hz G];exact au hl (by decide)
  .obtain⟨S2,U,r2⟩:=ah1 S1 hp r
   exact q _ _ _ (le.trans U) S2 r2
def a76(ha:PE X a (tE nm W X.K G)):PE X (.UnaryOp .USub a pos) (tE nm W X.K (.neg G)) :=
 PE.of (awm anm ha) fun σ H Q ι ρ M d M' S R e q=>by
  rw[MW.ari] at e;obtain⟨x,M1,U,e⟩:=dz e;refine one S R U λZ H1 v le S1 R1 r=>?_
  cases r<;>try cases e
  exact⟨_,rfl,q Z H1 _ le S1 (.int _)⟩
open PyProof.Rows (subscriptTail)
section
variable{κ:Type}[DecidableEq κ]{K:Fg}{ι:Io}{H:Hp}
theorem qb.length{κ Z:Type}{f:κ->Z->Prop}:∀{l:List (κ×Dv)}{G:List (Z×V)},qb K ι H f l G->l.length=G.length:=by intro _ _ h;induction h with|nil=>rfl|cons _ _ _ ih=>rw[gj,gj,ih]
theorem qb.look{k:κ}:∀{G:List (κ×Dv)}{l:List (κ×V)},qb K ι H (λk U=>k=U) G l->(∀d,MW.Eh G k=some d->∃v,Sd l k=some v/\Rep K ι H d v)/\(MW.Eh G k=none->Sd l k=none)
 |_,_,.nil=>⟨λd h=>by simp[MW.Eh] at h,λ_=>rfl⟩
 |_,_,.cons (k:=q) (k':=q') hk h t=>by
  subst hk;obtain⟨a,b⟩:=qb.look (k:=k) t
  by_cases e:q=k
  .refine⟨λd Z=>?_,λZ=>?_⟩
   .simp[MW.Eh,m7,e] at Z
    subst Z;exact⟨_,Q4 e,h⟩
   .simp[MW.Eh,m7,e] at Z
  .have z:∀(d:Dv) r,MW.Eh ((q,d)::r) k=MW.Eh r k:=λd r=>by simp[MW.Eh,m7,e]
   rw[z,Q5 (by exact e)];exact⟨a,b⟩
theorem qb.any{k:κ}:∀{Z:List (κ×Dv)}{l:List (κ×V)},qb K ι H (λk G=>k=G) Z l->(Z.any λkv=>decide (kv.1=k))=(l.any λkv=>decide (kv.1=k))
 |_,_,.nil=>rfl|_,_,.cons hk h t=>by subst hk;simp only[Aa,qb.any t]
theorem qb.ae6{k:κ}{d:Dv}{v:V}(r:Rep K ι H d v):∀{G:List (κ×Dv)}{l:List (κ×V)},qb K ι H (λk Z=>k=Z) G l ->
 qb K ι H (λk Z=>k=Z) (G.map λkv=>if kv.1=k then(kv.1,d) else kv) (l.map λkv=>if kv.1=k then(kv.1,v) else kv)
 |_,_,.nil=>.nil
 |_,_,.cons (k:=q) hk h t=>by
  subst hk;simp only[dq]
  by_cases e:q=k
  .simp only[e,km];exact .cons rfl r (qb.ae6 r t)
  .simp only[e,jt];exact .cons rfl h (qb.ae6 r t)
theorem qb.snoc{κ Z:Type}{f:κ->Z->Prop}{k:κ}{U:Z}{d:Dv}{v:V}(G:f k U)(r:Rep K ι H d v):∀{l:List (κ×Dv)}{R:List (Z×V)},qb K ι H f l R->qb K ι H f (l++[(k,d)]) (R++[(U,v)])
 |_,_,.nil=>.cons G r .nil|_,_,.cons q h t=>.cons q h (qb.snoc G r t)
def qb.put{k:κ}(r:Rep K ι H d v)(t:qb K ι H (λk Z=>k=Z) G l):qb K ι H (λk Z=>k=Z) (MW.U9 G k d) (putK l k v):=by
 unfold MW.U9 putK;rw[t.any (k:=k)]
 by_cases e:(l.any λkv=>decide (kv.1=k))=true
 .rw[cg e,cg e];exact t.ae6 r
 .rw[bz e,bz e];exact t.snoc rfl r
theorem qb.fld{nm:Nm}{f:Nat}:∀{fs:List (Nat×Dv)}{l:List (Str×V)},qb K ι H (λk G=>G=nm.fld k) fs l->(∀d,fs.lookup f=some d->∃v,l.lookup (nm.fld f)=some v/\Rep K ι H d v)/\(fs.lookup f=none->l.lookup (nm.fld f)=none)
 |_,_,.nil=>⟨λd h=>by simp at h,λ_=>rfl⟩
 |_,_,.cons (k:=q) (k':=q') hk h t=>by
  subst hk;obtain⟨a,b⟩:=qb.fld (nm:=nm) (f:=f) t;rw[nq,nq]
  by_cases e:f=q
  .subst e
   simp only[zm];exact⟨λd Z=>by cases Z;exact⟨_,rfl,h⟩,λZ=>by cases Z⟩
  .have R:(f==q)=false:=by simpa using e
   have U:(nm.fld f==nm.fld q)=false:=by
    cases z:nm.fld f==nm.fld q with
    |false=>rfl|true=>exact absurd (nm.inj _ _ (eq_of_beq z)) e
   rw[R,U];exact⟨a,b⟩
theorem qb.Ie{Z:Nm}{f:Nat}{d:Dv}{v:V}(r:Rep K ι H d v):∀{fs:List (Nat×Dv)}{l:List (Str×V)},qb K ι H (λk G=>G=Z.fld k) fs l->qb K ι H (λk G=>G=Z.fld k) (MW.Vb f d fs) (L2.Ie (Z.fld f) v l)
 |_,_,.nil=>.cons rfl r .nil
 |_,_,.cons (k:=q) (k':=q') hk h t=>by
  subst hk;unfold MW.Vb L2.Ie
  by_cases e:q=f
  .subst e
   simp only[km];exact .cons rfl r t
  .have U:¬Z.fld q=Z.fld f:=λz=>e (Z.inj _ _ z)
   rw[bz e,bz U];exact .cons rfl h (qb.Ie r t)
def a0r(r:Rep K ι H d v)(h:MW.axj d=some k):v=kV k:=by cases r<;>simp[MW.axj] at h<;>subst h<;>rfl
set_option tactic.hygienic true in
theorem ao7:∀{Y:List Dv}{Z:List V}{ks:List Kx},mz K ι H Y Z->MW.ad9 Y=some ks->Z=ks.map kV
 |_,_,_,.nil,h=>by simp[MW.ad9] at h;subst h;rfl
 |_,_,_,.cons r t,h=>by
  simp only[MW.ad9] at h;split at h
  .rename_i k J U G
   cases h;rw[a0r r U,ao7 t G];rfl
  .cases h
def aat(r:Rep K ι H d v)(h:MW.Px d=some ks):∃b,v=.ref b/\H b=some (.tup (ks.map kV)):=by
 cases r with
 |tup e r=>exact⟨_,rfl,by rw[<- ao7 r h];exact e⟩|_=>simp[MW.Px] at h
end
def a0s(hu:X.A.units+1<cLine):IxR X (λx y H Q=>∃a v,x=.ref a/\ae7 H a y (some v)/\Q v H):=by intro G Z U s σ H x y v u Q I rx ry h hs;obtain⟨p,z,rfl,g,q⟩:=h;cases rx;exact PyProof.Rows.tail_any (acd I g) PySem.F.slot_dict_getitem.lookup (ajy hu I g ry λw' s' R r=>⟨z,H,R,r,q⟩) hs
def bei(G:Nm)(K:Fg):R2:=λv u H Q=>∃Z M x y d,mq G K Z H M/\Rep K Z H x v/\Rep K Z H y u/\MW.vh x y M=some d/\∀w,Rep K Z H d w->Q w H
set_option tactic.hygienic true in
def a0t(hu:X.A.units+1<cLine):IxR X (bei nm X.K):=by
 intro Y Z G s σ H v u v' u' Q I rv ru ⟨ι,M,x,y,d,S,rx,ry,e,q⟩ hs;have U:∀(p:Addr)(C:List V)(ds:List Dv),v=.ref p->(Gm X.K H p C\/Gu X.K H p C)->mz X.K ι H ds C->(match y with|.int i=>(MW.Pz ds.length i).bind λj=>ds[j]?|_=>none)=some d ->
  wpAny (model X.prog X.w) X.A (subscriptTail Y Z v' u') (EP X G σ Q) X.xe s:=λp C ds hv hq r e=>by
  subst hv;obtain⟨i,qq⟩:∃i,y=.int i:=by cases y<;>first|exact⟨_,rfl⟩|cases e
  subst qq;cases ry;obtain⟨j,J,e2⟩:=jc.mp e;obtain⟨z,h1,L⟩:=r.get e2;have R:Gw C i=some z:=by unfold Gw;rw[show ixN C.length i=some j from by rw[<- r.length];exact J];exact h1
  rcases hq with hq|hq
  .exact L2.zu Y Z G s σ H _ _ v' u' Q I rv ru ⟨p,C,i,z,rfl,rfl,hq,R,q z L⟩ hs
  .exact L2.Jw Y Z G s σ H _ _ v' u' Q I rv ru ⟨p,C,i,z,rfl,rfl,hq,R,q z L⟩ hs
 cases rx with
 |tup J r1=>exact U _ _ _ rfl (.inr (Gu.of J)) r1 (by cases ry<;>first|exact e|(simp[MW.vh,MW.ixL,MW.j7] at e))
 |vl J n1 r1=>exact U _ _ _ rfl (.inl (Gm.of J)) r1 (by cases ry<;>first|exact e|(simp[MW.vh,MW.ixL,MW.j7,MW.fj] at e))
 |fz J r1=>exact U _ _ _ rfl (.inl J.sq) r1 (by cases ry<;>first|exact e|(simp[MW.vh,MW.ixL] at e))
 |ref J =>
  rename_i n p;simp only[MW.vh] at e;split at e
  .rename_i ou hn
   obtain⟨l,h1,L⟩:=S.obj n _ p hn J;obtain⟨k,e2,e3⟩:=jc.mp e;obtain⟨z,h3,h4⟩:=(L.look (k:=k)).1 d e3;obtain⟨b,rfl,hb⟩:=aat ry e2;exact a0s hu Y Z G s σ H _ _ v' u' Q I rv ru ⟨p,z,rfl,.inr ⟨l,k,b,.inl h1,rfl,hb,h3.symm⟩,q z h4⟩ hs
  .cases hl:MW.fj M (.ref n) with
   |none=>rw[hl] at e;cases e
   |some ds =>
    obtain⟨p',C,hp,h1,L⟩:=ue S (.ref J) hl;cases hp;rw[hl] at e;exact U _ _ _ rfl (.inl (Gm.of h1)) L (by cases ry<;>first|exact e|cases e)
 |_=>simp[MW.vh,MW.ixL,MW.j7,MW.fj] at e
def bej(hu:X.A.units+1<cLine)(ha:PE X a (tE nm W X.K a'))(hb:PE X b (tE nm W X.K b'))(hs:aah b):PE X (.Subscript a b pos) (tE nm W X.K (.ix a' b')) :=
 PE.of (a6x (a0t (nm:=nm) hu) ha hb hs) fun σ H Q ι ρ M d M' S R e q=>by rw[MW.aea] at e;obtain⟨x,M1,e1,e⟩:=dz e;obtain⟨y,M2,e2,e⟩:=dz e;obtain⟨e,rfl⟩:=uo e;exact two S R e1 e2 λZ H2 v u le G _ U ru=>⟨Z,M',x,y,d,G,U,ru,e,λw r=>q Z H2 w le G r⟩
set_option tactic.hygienic true in
def a77(hn:n=nm.fld f)(G:∀c C,nm.cls c=some C->Cls X.K C/\Hx X.K C n)(u:PE X a (tE nm W X.K a'))(hb:attributeBase a n X.env (eval a X.env)=eval a X.env):PE X (.Attribute a n pos) (tE nm W X.K (.fld a' f)) :=
 PE.of (azv u hb) fun σ H Q ι ρ M d M' S R e q=>by
  rw[MW.ark] at e;obtain⟨x,M1,L,e⟩:=dz e;obtain⟨e,rfl⟩:=uo e;refine one S R L λZ H1 v le J R1 r=>?_
  obtain⟨m,Y⟩:∃m,x=.ref m:=by cases x<;>first|exact⟨_,rfl⟩|cases e
  subst Y;obtain⟨p,rfl,hp⟩:∃p,v=.ref p/\Z.l[m]?=some p:=by cases r with|ref z=>exact⟨_,rfl,z⟩
  simp only[MW.Jj] at e;split at e
  .rename_i c fs hm
   obtain⟨C,dx,l,h1,h2,h3⟩:=J.obj m _ p hm hp;obtain⟨z,h4,U⟩:=(h3.fld (nm:=nm) (f:=f)).1 d e;subst hn;obtain⟨g1,g2⟩:=G c C h1;exact⟨p,C,dx,l,z,rfl,h2,g1,g2,h4,q Z H1 z le J U⟩
  .cases e
open MW (Ex Eg OEx Ox Al mj Lv Tg Res dj MO Lp Cp Op2 Blt Bm Kx Src)
noncomputable def O8:Expr->Bool
 |.ListComp ..=>false|.SetComp ..=>false|.DictComp ..=>false|_=>true
def Iw(h:O8 e=true)(t:Option Expr)(l:Nat)(Z:Env):swapsWith e t l Z=pure false:=by cases e<;>first|rfl|(cases h)
noncomputable def Ig:Expr->Bool
 |.Set ..=>false|_=>true
def Fo(h:Ig e=true)(Z:Env)(x:Value):foldedSetIterable e Z x=pure x:=by cases e<;>first|rfl|(cases h)
def T5(h:Ig e=true)(Z:CmpOp):behindInMarks Z e=false:=by cases e<;>first|rfl|(cases h)
noncomputable def aww:Expr->Bool
 |.Tuple ..=>false|_=>true
noncomputable def noStar:Expr->Bool
 |.Starred ..=>false|_=>true
def p6(h:noStar e=true)(Z:Ya)(env:Env):starEach (e::Z) env=(false,eval e env)::starEach Z env:=by cases e<;>first|rfl|(cases h)
noncomputable def aau:Expr->Bool
 |.Slice ..=>false|_=>true
def ao8(h:aau e=true):aah e:=by intro o i;cases e<;>first|rfl|(cases h)
noncomputable def Bp:Tg->List Nat
 |.name i=>[i]|.names is=>is
def tGt(nm:Nm)(K:Fg)(t:Tg):TG:=λv R H Q=>∃U ρ M d G,mq nm K U H M/\qm K U H ρ R/\Rep K U H d v/\t.put d ρ=some G/\∀Z,qm K U H G Z->Z.length=R.length->(∀j,j∉Bp t->Z[j]?=R[j]?)->Q Z H
def PG.weak(h:PG X tg t)(w:∀v G H Q,t' v G H Q->t v G H Q):PG X tg t':=λZ s G H v u Q I r q=>h Z s G H v u Q I r (w v G H Q q)
def PG.of(h:PG X tg t)(w:∀v σ H Q U ρ M d G,mq nm X.K U H M->qm X.K U H ρ σ->Rep X.K U H d v->tt.put d ρ=some G->(∀Z,qm X.K U H G Z->Z.length=σ.length->(∀j,j∉Bp tt->Z[j]?=σ[j]?)->Q Z H)->t v σ H Q):PG X tg (tGt nm X.K tt) :=
 PG.weak h λv σ H Q z_=>by obtain⟨U,ρ,M,d,G,S,R,r,e,q⟩:=z_;exact w v σ H Q U ρ M d G S R r e q
def a0u(G:X.N.Nodup)(hi:X.N[i]?=some n)(hx:Loc X.env.scope n)(U:X.fn n=true\/X.env.scope.names.lookup n=some .local):PG X (.Name n pos) (tGt nm X.K (.name i)) :=
 PG.of (aae G hi hx U) λv σ H Q ι ρ M d qq S R r e q=>by cases e;exact q _ (R.set r i) (by simp) λj Z=>uh (λz=>Z (by simp[Bp,z]))
noncomputable def Ky:List Nat->List V->St->St
 |i::is,v::vs,σ=>Ky is vs (σ.set i (some v))|_,_,σ=>σ
theorem W3{Z:Io}{H:Hp}{K:Fg}:∀{is:Y3}{ds:List Dv}{G:List V}{ρ:En}{U:St},qm K Z H ρ U->mz K Z H ds G->qm K Z H (MW.Ei is ds ρ) (Ky is G U)
 |[],_,_,_,_,R,r=>by cases r<;>exact R|_::_,_,_,_,_,R,.nil=>R|i::is,_,_,_,_,R,.cons h t=>W3 (is:=is) (R.set h i) t
theorem Rb:∀{is:Y3}{G:List V}{Z:St}{j:Nat},j∉is->(Ky is G Z)[j]?=Z[j]?
 |[],G,Z,j,_=>by cases G<;>rfl|i::is,[],Z,j,_=>rfl
 |i::is,v::G,Z,j,h=>by
  show(Ky is G (Z.set i (some v)))[j]?=_;rw[Rb (λz=>h (bh _ z)),uh (λz=>h (by rw[z];exact cz))]
theorem T6:∀{is:Y3}{G:List V}{Z:St},(Ky is G Z).length=Z.length
 |[],G,Z=>by cases G<;>rfl|_::_,[],Z=>rfl|i::is,v::G,Z=>by show(Ky is G (Z.set i (some v))).length=_;rw[T6,Ae]
inductive Kz(X:Cx):List Expr->List Nat->Prop
 |nil:Kz X [] []
 |cons {n:Str} {p:Pos} {i:Nat} {ts:Ya} {is:Y3} (hi:X.N[i]?=some n) (hx:Loc X.env.scope n) (hf:X.fn n=true\/X.env.scope.names.lookup n=some .local) (t:Kz X ts is):Kz X (.Name n p::ts) (i::is)
theorem acr{X:Cx}(hN:X.N.Nodup):∀{ts:Ya}{is:Y3},Kz X ts is->PGs X ts (λG U H Q=>G.length=is.length/\Q (Ky is G U) H)
 |_,_,.nil=>λZ s U H G us Q I r q=>by
  obtain⟨R,h2⟩:=q;have hv:G=[]:=xu.mp R;subst hv;exact asw Z s U H [] us Q I r ⟨rfl,h2⟩
 |_,_,.cons hi hx hf t=>λZ s U H G us Q I r q=>by
  obtain⟨R,h2⟩:=q;cases G with
  |nil=>simp at R|cons v G=>exact ani (aae hN hi hx hf) (acr hN t) (by rfl) Z s U H (v::G) us Q I r ⟨v,G,rfl,by simpa using R,h2⟩
theorem Gh{X:Cx}{env:Env}:∀{Z:Ya}{is:Y3},Kz X Z is->(assignEach Z env).length=is.length/\(assignEach Z env).findIdx? (·.1)=none
 |_,_,.nil=>⟨rfl,rfl⟩
 |_,_,.cons hi hx hf t=>by
  obtain⟨U,G⟩:=Gh (env:=env) t;refine⟨by simp[assignEach,U],?_⟩;simp[assignEach,List.findIdx?_cons];simpa using G
set_option tactic.hygienic true in
def at4(u:X.calm=true)(C:X.N.Nodup)(h:Kz X G is):PG X (.Tuple G k pos) (tGt nm X.K (.names is)) :=
 PG.of (azi u (acr C h) (Gh h).1 (Gh h).2) λv σ H Q ι ρ M d L S R r e q=>by
  cases r with
  |tup U Z =>
   simp only[Tg.put] at e;split at e<;>cases e;rename_i Y;exact⟨_,_,rfl,Gu.of U,by rw[<- Z.length];exact Y,by rw[<- Z.length];exact Y,q _ (W3 R Z) T6 λj J=>Rb J⟩
  |_=>simp[Tg.put] at e
def ao9(he:PE X a (tE nm W X.K a'))(hg:PG X tg (tGt nm X.K t))(hs:swapsWithSole [tg] a pos.line X.env=pure false)(hw:swappedStores [tg] a X.env=pure none)(h1:(assignEach [tg] X.env).map (·.2)=[assign tg X.env]) :
 PS X (.Assign [tg] a pos) (tS nm W X.K EX (.asg (.tg t) a')) :=
 PS.of (anj he hg hs hw h1) λD σ H ι ρ M fl U M' S R e q=>by rw[MW.Rp] at e;obtain⟨x,M1,e1,e⟩:=dz e;obtain⟨qq,M2,e2,e⟩:=dz e;cases e;rw[MW.aeb] at e2;obtain⟨e3,e4⟩:=uo e2;subst e4;exact one S R e1 λZ H1 v le S1 R1 r=>⟨Z,ρ,_,x,U,S1,R1,r,e3,λG R' _ _=>q Z H1 G le S1 R'⟩
def apa(he:PE X a (tE nm W X.K G))(hs:swapsWith a none pos.line X.env=pure false):PS X (.Expr a pos) (tS nm W X.K EX (.expr G)) :=
 PS.of (ahg he hs) λD σ H ι ρ M fl qq M' S R e q=>by rw[MW.Zn] at e;obtain⟨x,M1,e1,e⟩:=dz e;cases e;exact one S R e1 λZ H1 v le S1 U r=>q Z H1 σ le S1 U
def a79(he:PE X a (tE nm W X.K G)):PS X (.Return (some a) pos) (tS nm W X.K EX (.ret G)) :=
 PS.of (azf he) λD σ H ι ρ M fl qq M' S R e q=>by rw[MW.axs] at e;obtain⟨x,M1,e1,e⟩:=dz e;cases e;exact one S R e1 λZ H1 v le S1 U r=>q Z H1 σ le S1 U v r
def Ws.mono{X:Cx}(le:Le ι H U H')(q:Ws nm X.K EX D ι H fl ρ M):Ws nm X.K EX D U H' fl ρ M:=λZ H2 G R S2 R2=>q Z H2 G (le.trans R) S2 R2
set_option tactic.hygienic true in
def a8a(hc:PT X c (tQ nm W X.K c'))(ht:Nx X ts (tSs nm W X.K EX J))(hf:Nx X fs (tSs nm W X.K EX G)):PS X (.If c ts fs pos) (tS nm W X.K EX (.iff c' J G)) :=
 PS.of (a5v hc ht hf) λD σ H ι U M C Z M' S R e q=>by
  rw[MW.axr] at e;obtain⟨x,M1,e1,e⟩:=dz e;cases x<;>try cases e
  rename_i k;refine aar S R e1 λY H1 le u L=>?_
  cases k with
  |true=>exact⟨Y,U,M1,C,Z,M',u,L,e,q.mono le⟩|false=>exact⟨Y,U,M1,C,Z,M',u,L,e,q.mono le⟩
def a0v:Nx X [] (tSs nm W X.K EX .nil):=Nx.of ahf λD G H Z ρ M fl U M' S R e q=>by rw[MW.arl] at e;cases e;exact q Z H G (Le.refl _ _) S R
def at5{U:List Stmt}(h1:PS X st (tS nm W X.K EX q0))(h2:Nx X U (tSs nm W X.K EX rest')):Nx X (st::U) (tSs nm W X.K EX (.cons q0 rest')) :=
 Nx.of (anh h1 h2) λD σ H ι ρ M fl qv M' S R e q=>by
  rw[MW.Vi] at e;obtain⟨⟨qq,qk⟩,M1,e1,e⟩:=dz e;refine⟨ι,ρ,M,qq,qk,M1,S,R,e1,λZ H1 G le S1 R1=>?_⟩;cases qq with
  |next=>exact⟨Z,qk,M1,fl,qv,M',S1,R1,e,q.mono le⟩|brk=>cases e;exact q Z H1 G le S1 R1|cont=>cases e;exact q Z H1 G le S1 R1|ret d=>cases e;exact q Z H1 G le S1 R1|err c=>cases e;exact q Z H1 G le S1 R1
set_option tactic.hygienic true in
def awx(hp:PassesOwn (model X.prog X.w) X.A X.env X.xe)(hc:PT X c (tQ nm W X.K c'))(hb:Nx X body (tSs nm W X.K EX W4)):PS X (.While c body [] pos) (tS nm W X.K EX (.whl c' W4)) :=
 PS.of (ank hp hc hb) λD σ H ι ρ M fl qv M' S R e q=>by
  rw[MW.Ls] at e;refine⟨λm qq H1=>∃L C M1,Le ι H L H1/\mq nm X.K L H1 M1/\qm X.K L H1 C qq/\MW.Ej (c'.den W) (W4.den W) m C M1=.ok (fl,qv) M',⟨MW.Vd,ι,ρ,M,Le.refl _ _,S,R,e⟩,?_⟩;rintro m qq H1 ⟨L,C,M1,G,S1,R1,Y⟩;cases m with
  |zero=>cases Y
  |succ m =>
   simp only[MW.Ej] at Y;obtain⟨x,M2,e2,Y⟩:=dz Y;cases x<;>try cases Y
   rename_i k;refine aar S1 R1 e2 λq1 H2 zb S2 R2=>?_
   cases k with
   |false=>cases Y;exact q q1 H2 qq (G.trans zb) S2 R2
   |true =>
    obtain⟨⟨q2,qk⟩,M3,e3,Y⟩:=dz Y;refine⟨λJ u=>∃Z q0 M4,Le ι H Z u/\mq nm X.K Z u M4/\qm X.K Z u q0 J/\MW.Ej (c'.den W) (W4.den W) m q0 M4=.ok (fl,qv) M',λJ u h4=>⟨m,ud _,h4⟩,q1,C,M2,q2,qk,M3,S2,R2,e3,λZ u J U S4 R4=>?_⟩;cases q2 with
    |next=>exact⟨Z,qk,M3,(G.trans zb).trans U,S4,R4,Y⟩|cont=>exact⟨Z,qk,M3,(G.trans zb).trans U,S4,R4,Y⟩|brk=>cases Y;exact q Z u J ((G.trans zb).trans U) S4 R4|ret d=>cases Y;exact q Z u J ((G.trans zb).trans U) S4 R4|err c=>cases Y;exact q Z u J ((G.trans zb).trans U) S4 R4
def aka(nm:Nm)(K:Fg)(ι:Io)(H:Hp)(s:Src)(J:It):Prop:=∀Z G R,LeX ι H Z G->mq nm K Z G R ->
 (∀i d,i<s.len->s.item i R=some d->J.go i G/\∀v U,J.yld i G v U->Le Z G Z U/\mq nm K Z U R/\Rep K Z U d v)/\(s.fin R=true->J.stop s.len G)
def tI(nm:Nm)(W:Lp)(K:Fg)(it:Ox):TI:=fun σ H R=>∃U ρ M s M',mq nm K U H M/\qm K U H ρ σ/\it.den W ρ M=.ok s M'/\∀Z G J,Le U H Z G->mq nm K Z G M'->aka nm K Z G s J->R J G
set_option tactic.hygienic true in
def a8c(hp:PassesOwn (model X.prog X.w) X.A X.env X.xe)(hc:X.calm=true)(hi:PI X tg iter (tI nm W X.K it))(hg:PG X tg (tGt nm X.K t))(hb:Nx X body (tSs nm W X.K EX W4))(hs:Ig iter=true):PS X (.For tg iter body [] pos) (tS nm W X.K EX (.for_ t it W4)) :=
 PS.of (azm hp hc hi hg hb (Fo hs X.env)) λD σ H ι ρ M fl G M' S R e q=>by
  rw[MW.Vh] at e;obtain⟨s,M1,e1,e⟩:=dz e;refine⟨ι,ρ,M,s,M1,S,R,e1,λq0 H1 J u S1 sj=>?_⟩;refine⟨λi m qv H2=>m=s.len-i/\i<=s.len/\∃Y qk M2,Le q0 H1 Y H2/\mq nm X.K Y H2 M2/\qm X.K Y H2 qk qv/\MW.Br s.fin s.item (λd ρ M=>match t.put d ρ with|some G=>W4.den W G M|none=>.bad) m i qk M2=.ok (fl,G) M',
   ⟨s.len,rfl,ik _,q0,ρ,M1,Le.refl _ _,S1,R.mono u,e⟩,?_⟩
  rintro i m qv H2 ⟨hm,q7,Y,qk,M2,zb,S2,R2,C⟩;obtain⟨go,q3⟩:=sj Y H2 M2 zb.toX S2;cases m with
  |zero =>
   simp only[MW.Br] at C;split at C<;>cases C;rename_i Vj;have hi:i=s.len:=by lia
   subst hi;exact .inl ⟨q3 Vj,q Y H2 qv (u.trans zb) S2 R2⟩
  |succ m =>
   simp only[MW.Br] at C;split at C
   .cases C
   .rename_i d hd
    obtain⟨⟨q4,q1⟩,M3,e3,C⟩:=dz C;obtain⟨g1,g2⟩:=go i d (by omega) hd;refine .inr ⟨g1,λU H4=>∃Z qq M4,Le q0 H1 Z H4/\mq nm X.K Z H4 M4/\qm X.K Z H4 qq U/\MW.Br s.fin s.item (λd ρ M=>match t.put d ρ with|some G=>W4.den W G M|none=>.bad) m (i+1) qq M4=.ok (fl,G) M',
     λU H4 ⟨Z,qq,M4,h4⟩=>⟨m,ud _,by omega,by omega,Z,qq,M4,h4⟩,λv H3 yv=>?_⟩
    obtain⟨T4,S3,r3⟩:=g2 v H3 yv;split at e3
    .rename_i q2 q5
     refine⟨Y,qk,M2,d,q2,S3,R2.mono T4,r3,q5,λzz R5 _ _=>⟨Y,q2,M2,q4,q1,M3,S3,R5,e3,λZ H4 U q6 S4 R4=>?_⟩⟩;have L:=(zb.trans T4).trans q6;cases q4 with
     |next=>exact⟨Z,q1,M3,L,S4,R4,C⟩|cont=>exact⟨Z,q1,M3,L,S4,R4,C⟩|brk=>cases C;exact q Z H4 U (u.trans L) S4 R4|ret d=>cases C;exact q Z H4 U (u.trans L) S4 R4|err c=>cases C;exact q Z H4 U (u.trans L) S4 R4
    .cases e3
section
variable{nm:Nm}{W:Lp}{X:Cx}{a b c:Expr}{a' b' c':Ex}{pos pos':Pos}{ι:Io}{H:Hp}{σ:St}{ρ:En}{M M1 M2:dj}{x y:Dv}{es:Ya}{es':Eg}{tg iter elt:Expr}
def PI.weak(h:PI X tg iter G)(w:∀σ H R,wi' σ H R->G σ H R):PI X tg iter wi':=λZ s σ H R I q=>h Z s σ H R I (w σ H R q)
def PI.of(h:PI X tg iter wi)(w:∀σ H G ι ρ M s U,mq nm X.K ι H M->qm X.K ι H ρ σ->it.den W ρ M=.ok s U->(∀Z H' J,Le ι H Z H'->mq nm X.K Z H' U->aka nm X.K Z H' s J->G J H')->wi σ H G):PI X tg iter (tI nm W X.K it) :=
 PI.weak h fun σ H G z_=>by obtain⟨ι,ρ,M,s,U,S,R,e,q⟩:=z_;exact w σ H G ι ρ M s U S R e q
def a0w(hl:PE X l tl):PI X tg l (fun σ H R=>tl σ H λx U=>∃a,x=.ref a/\((∃xs,Gm X.K U a xs)/\R (Itl X.K a) U\/(∃xs,Gu X.K U a xs)/\R (Itt X.K a) U)):=by
 intro qq s σ H R I h;refine Bc (hl qq s σ H _ I h) λv Z z_=>?_
 obtain⟨x,U,G,r1,q1⟩:=z_;obtain⟨a,e,⟨⟨xs,hq⟩,q⟩|⟨⟨xs,hq⟩,q⟩⟩:=q1
 .subst e
  cases r1;obtain⟨t6,rv,p,hz⟩:=G.list hq;refine wpAny_pyIter_list p.isList ?_;refine⟨Z.heap.objs.size,[Z.heap.objs.size],_,_,U,rfl,G.kept (t':=Z.toks) λb o e=>aq _ e,ajn a _,⟨_,bj _ rfl,rfl,rfl⟩,λb hb=>?_,q⟩;have e:b=Z.heap.objs.size:=by simpa using hb
  subst e;exact G.ajm (bf _) (G.yr.fresh (bf _))
 .subst e
  cases r1;obtain⟨t6,rv,p,hz⟩:=G.tuple hq;refine o5 (show Z.heap.IsTuple a t6.toArray from p) ?_;refine⟨Z.heap.objs.size,[Z.heap.objs.size],_,_,U,rfl,G.kept (t':=Z.toks) λb o e=>aq _ e,aeu a _,⟨_,bj _ rfl,rfl,rfl⟩,λb hb=>?_,q⟩;have e:b=Z.heap.objs.size:=by simpa using hb
  subst e;exact G.ajm (bf _) (G.yr.fresh (bf _))
def Y0{p:Addr}{ds:List Dv}{s:Src}(hs:∀Z U M1,LeX ι H Z U->mq nm X.K Z U M1->(∀i d,s.item i M1=some d->∃G v,U p=some (.lst G)/\G[i]?=some v/\Rep X.K Z U d v)/\(s.fin M1=true->∃G,U p=some (.lst G)/\G.length<=s.len)) :
 aka nm X.K ι H s (Itl X.K p):=λZ U M1 le S1=>by
 obtain⟨a,b⟩:=hs Z U M1 le S1;refine⟨λi d hi hd=>?_,λhf=>?_⟩
 .obtain⟨G,v,h1,R,h3⟩:=a i d hd
  refine⟨⟨G,v,Gm.of h1,R⟩,λu H2 ⟨e,y⟩=>?_⟩;subst e;have:=y G (Gm.of h1);rw[R] at this;cases this;exact⟨Le.refl _ _,S1,h3⟩
 .obtain⟨G,h1,R⟩:=b hf
  exact⟨G,Gm.of h1,R⟩
set_option tactic.hygienic true in
def a8e(ha:PE X a (tE nm W X.K a')):PI X tg a (tI nm W X.K (.val a')) :=
 PI.of (a0w ha) fun σ H R' ι ρ M s M' S R e q=>by
  rw[MW.G6] at e;obtain⟨x,M1,e1,e⟩:=dz e;obtain⟨e,rfl⟩:=uo e;refine one S R e1 λU H1 v le S1 R1 r=>?_
  cases r with
  |@tup p Z J h1 r1 =>
   simp only[MW.srcOf] at e;cases e;refine⟨p,rfl,.inr ⟨⟨J,Gu.of h1⟩,q U H1 _ le S1 λqq H2 M2 G S2=>⟨λi d hi Y=>?_,λ_=>⟨J,Gu.of (G.tup _ _ h1),by rw[<- r1.length];exact bf _⟩⟩⟩⟩;have Y:Z[i]?=some d:=Y;obtain⟨v,g1,g2⟩:=(r1.Iv G).get Y;refine⟨⟨J,v,Gu.of (G.tup _ _ h1),g1⟩,λu H3 ⟨ee,yy⟩=>?_⟩;subst ee;have:=yy J (Gu.of (G.tup _ _ h1));rw[g1] at this;cases this;exact⟨Le.refl _ _,S2,g2⟩
  |@vl p Z J h1 n1 r1 =>
   simp only[MW.srcOf] at e;cases e;refine⟨p,rfl,.inl ⟨⟨J,Gm.of h1⟩,q U H1 _ le S1 (Y0 (ds:=Z) λqq H2 M2 G S2=>⟨λi d Y=>?_,λ_=>⟨J,G.lst _ _ n1.1 h1,by rw[<- r1.length];exact bf _⟩⟩)⟩⟩;have Y:Z[i]?=some d:=Y;obtain⟨v,g1,g2⟩:=(r1.Iv G).get Y;exact⟨J,v,G.lst _ _ n1.1 h1,g1,g2⟩
  |@ref n p h1 =>
   simp only[MW.srcOf] at e;obtain⟨Z,hn,rfl⟩:∃Z,M'[n]?=some (.lst Z)/\s=.live n Z.length:=by
    split at e
    .rename_i Z hn;cases e;exact⟨Z,hn,rfl⟩
    .cases e
   obtain⟨J,g1,g2⟩:=S1.obj n _ p hn h1;refine⟨p,rfl,.inl ⟨⟨J,Gm.of g1⟩,q U H1 _ le S1 (Y0 (ds:=Z) λqq H2 M2 G S2=>⟨λi d Y=>?_,λhf=>?_⟩)⟩⟩
   .simp only[Src.item] at Y
    split at Y
    .rename_i qk C
     split at Y
     .obtain⟨L,k1,k2⟩:=S2.obj n _ p C (G.get h1)
      obtain⟨v,k3,k4⟩:=k2.get Y;exact⟨L,v,k1,k3,k4⟩
     .cases Y
    .cases Y
   .simp only[Src.fin] at hf
    split at hf
    .rename_i qk C
     obtain⟨L,k1,k2⟩:=S2.obj n _ p C (G.get h1);refine⟨L,k1,?_⟩;rw[<- k2.length];have:qk.length=Z.length:=by simpa using hf
     rw[this];exact bf _
    .cases hf
  |_=>simp[MW.srcOf] at e
set_option tactic.hygienic true in
def a8f(hg:Gl X "range")(hm:X.mg "range" = none)(C:PE X a (tE nm W X.K a'))(J:noStar a=true):PI X tg (.Call (.Name "range" pr) [a] [] pos) (tI nm W X.K (.Pu a')) :=
 PI.of (ajo hg hm (aas C ah2 (p6 J _ _)) (p6 J _ _)) fun σ H R' ι ρ M s M' S R e q=>by
  rw[MW.Ul] at e;obtain⟨x,M1,U,e⟩:=dz e;refine W0 (es':=.cons a' .nil) (ds:=[x]) (M1:=M1) S R (by rw[MW.Cr,U];simp) λY L vs le S1 R1 r=>?_
  obtain⟨i,hx⟩:∃i,x=.int i:=by cases x<;>first|exact⟨_,rfl⟩|cases e
  subst hx;have e:(if i.natAbs<=100000 then Res.ok (Src.con ((List.range i.toNat).map λ(k:Nat)=>MW.D.int (k:Int))) M1 else .bad)=.ok s M':=e;split at e<;>cases e;rename_i hi;cases r with
  |cons r1 r2 =>
   cases r1;cases r2;refine⟨i,rfl,by lia,by omega,q Y L _ le S1 λqq H2 M2 zb S2=>⟨λj d hj Z=>?_,λ_=>?_⟩⟩
   .have G:j<i.toNat:=by simpa[Src.len] using hj
    have Z:((List.range i.toNat).map λ(k:Nat)=>MW.D.int (k:Int))[j]?=some d:=Z;rw[ie,List.getElem?_range G] at Z;have Z:MW.D.int (j:Int)=d:=by simpa using Z
    subst Z;refine⟨G,λu H3 ⟨ee,yy⟩=>?_⟩;subst ee yy;exact⟨Le.refl _ _,S2,by rw[Int.zero_add];exact .int _⟩
   .show i.toNat<=_
    simp[Src.len]
def akb(R:qm K ι H ρ σ):qm K ι H (ρ++List.replicate k none) (σ++List.replicate k none):=R.append (qm.acp k (by simp))
def apc{Z:St}(R:σ.length=n)(U:∀i∈Bp t,n<=i)(h:∀j,j∉Bp t->Z[j]?=(σ++List.replicate k none)[j]?):∀(j:Nat) v,(σ++List.replicate k none)[j]?=some (some v)->Z[j]?=some (some v):=λj v e=>by
 by_cases G:j∈Bp t
 .have:=U j G
  rw[n8 (a_ (f_ R) this),ur] at e;split at e<;>simp at e
 .rw[h j G];exact e
noncomputable def awy(o:Option Dv):List Dv:=match o with|some x=>[x]|none=>[]
set_option tactic.hygienic true in
def acs(h:MW.Cg fin item body (k+1) i M=.ok ds G) :
 ∃d o M1 rest,item i M=some d/\body d M=.ok o M1/\MW.Cg fin item body k (i+1) M1=.ok rest G/\ds=awy o++rest:=by
 simp only[MW.Cg] at h;split at h
 .cases h
 .rename_i d Z
  obtain⟨o,M1,J,h⟩:=dz h;obtain⟨rest,M2,Y,h⟩:=dz h;cases h;exact⟨d,o,M1,rest,Z,J,Y,by cases o<;>rfl⟩
def mz.snoc(r:mz K ι H ds Z)(h:Rep K ι H d v):mz K ι H (ds++[d]) (Z++[v]):=r.append (.cons h .nil)
set_option tactic.hygienic true in
def Uz(e:MW.Az s body M1=.ok ds M2):s.len<=100000/\MW.Cg s.fin s.item body s.len 0 M1=.ok ds M2:=by
 unfold MW.Az at e;split at e
 .rename_i Z
  exact⟨Z,e⟩
 .cases e
def keptAs(v:Bool)(Z:List Dv)(M:dj):Res Dv:=if v=true then .ok (.vl Z) M else MW.new (.lst Z) M
def akc(h:(Ex.comp v k t it R).den W ρ M=.ok d M'):∃s M1 Z M2,it.den W ρ M=.ok s M1/\s.len<=100000 /\
 MW.Cg s.fin s.item (λd M=>match t.put d (ρ++List.replicate k none) with|some G=>(R.den W G M).bind λx M'=>.ok (some x) M'|none=>.bad) s.len 0 M1=.ok Z M2/\keptAs v Z M2=.ok d M':=by
 rw[MW.abi] at h;obtain⟨s,M1,e1,h⟩:=dz h;obtain⟨Z,M2,U,h⟩:=dz h;exact⟨s,M1,Z,M2,e1,(Uz U).1,(Uz U).2,h⟩
def Io.adopt(ι:Io)(H:Hp)(D:Addr):Tr K (ι.hide D) H (ι.add D) H:=⟨λ_ _ e=>e,λ_ _ e n=>⟨e,λm=>(bx.mp m).elim n.1 λz=>n.2 (by rw[jm.mp z];exact cz),λm=>n.2 (bh _ m)⟩,λ_ _ e=>e,λn a e=>by
 have e:ι.l[n]?=some a:=e;show(ι.l++[D])[n]?=_;rw[gw (ak.mp e).1];exact e⟩
theorem Rep.adopt(r:Rep K (ι.hide D) H d v):Rep K (ι.add D) H d v:=r.tr (ι.adopt H D)
theorem mz.adopt(r:mz K (ι.hide D) H d v):mz K (ι.add D) H d v:=r.tr (ι.adopt H D)
theorem mq.adopt(S:mq nm K (ι.hide D) H M)(hd:H D=some (.lst U))(r:mz K (ι.hide D) H ds U)(Z:ι.off D):mq nm K (ι.add D) H (M++[.lst ds]):=by
 refine⟨by have:=S.len;simp only[Io.hide] at this;simp[Io.add,this],?_,λa G=>?_,λn o a hn G=>?_⟩
 .exact oh.mpr ⟨S.nd,by simp,by
   intro x hx y hy;have:y=D:=by simpa using hy
   subst this;intro e;subst e;exact Z.1 hx⟩
 .obtain⟨h1,U,R⟩:=S.del a (bh _ G)
  exact⟨λm=>(bx.mp m).elim h1 λz=>Z.2 (by rw[<- jm.mp z];exact G),U,R⟩
 .rcases Bx hn with q|⟨q,rfl⟩
  .rcases Bx G with z|⟨z,_⟩
   .exact(S.obj n o a q z).tr (ι.adopt H D) rfl
   .exact absurd (MW.tu q) (by rw[z,<- S.len];exact m8 _)
  .rcases Bx G with z|⟨_,rfl⟩
   .exact absurd (ak.mp z).1 (by rw[q,<- S.len];exact m8 _)
   .exact⟨U,hd,r.adopt⟩
def apd(S:mq nm K (ι.hide D) H M)(R:H D=some (.lst vs))(r:mz K (ι.hide D) H ds vs)(G:ι.off D)(le:Le U H0 ι H)(h0:H0 D=none)(h:keptAs v ds M=.ok d M') :
 ∃Z,Le U H0 Z H/\mq nm K Z H M'/\Rep K Z H d (.ref D):=by
 unfold keptAs at h;split at h
 .cases h
  exact⟨ι,le,S.show,.vl R G r.show⟩
 .cases h
  refine⟨ι.add D,⟨?_,le.del,le.tup,le.Jg,le.lst,le.dom⟩,S.adopt R r G,.ref ?_⟩
  .obtain⟨Y,e,hY⟩:=le.ext
   exact⟨Y++[D],by show ι.l++[D]=_;rw[e,o8],λa ha=>(bx.mp ha).elim (hY a) λz=>by rw[jm.mp z];exact h0⟩
  .show(ι.l++[D])[M.length]?=some D
   rw[<- S.len];simp[Io.hide]
def BodyOk(nm:Nm)(K:Fg)(Z:St)(tc:TT)(te:TE)(R:En)(M:dj)(o:Option Dv)(M':dj):Prop:=∀ι H (G1:V->Hp->Prop) (G0:Hp->Prop),mq nm K ι H M->qm K ι H R Z ->
 (∀G U v,Le ι H G U->mq nm K G U M'->(match o with|some x=>Rep K G U x v->G1 v U|none=>G0 U))->tc Z H λb H3=>if b=true then te Z H3 λv H4=>G1 v H4 else G0 H3
set_option tactic.hygienic true in
def Y4{N:Yf}(hk:N.length-X.N.length=k)(ho:∀i∈Bp t,X.N.length<=i)(z0:σ.length=X.N.length)(S:mq nm X.K ι H M)(R:qm X.K ι H ρ σ)(e1:it.den W ρ M=.ok s M1)(q7:s.len<=100000)(e2:MW.Cg s.fin s.item body s.len 0 M1=.ok ds M')(ek:keptAs v0 ds M'=.ok d0 M0)(q:∀q3 H' v,Le ι H q3 H'->mq nm X.K q3 H' M0->Rep X.K q3 H' d0 v->Q v H')(hb:∀d M2 o M3,body d M2=.ok o M3->∃qk,t.put d (ρ++List.replicate k none)=some qk/\∀q4,BodyOk nm X.K q4 tc te qk M2 o M3):aco (N.length-X.N.length) (tI nm W X.K it) (tGt nm X.K t) tc te σ H Q:=by
 refine⟨ι,ρ,M,s,M1,S,R,e1,λL H1 J q6 S1 sj D hD=>?_⟩;rw[hk];refine⟨λi m H2=>m=s.len-i/\i<=s.len/\∃Z M2 G vs qq,LeD D L H1 (Io.hide Z D) H2/\mq nm X.K (Io.hide Z D) H2 M2/\H2 D=some (.lst vs)/\mz X.K (Io.hide Z D) H2 G vs/\G.length<=i /\
  MW.Cg s.fin s.item body m i M2=.ok qq M'/\ds=G++qq,?_,?_⟩
 .exact⟨s.len,rfl,ik _,L,M1,[],[],ds,LeD.start hD _,S1.hide hD,q9,.nil,bf _,e2,rfl⟩
 .rintro i m H2 ⟨hm,z2,Z,M2,G,vs,qq,zb,S2,q5,q2,Xr,e3,q0⟩
  have zk:Le L H1 Z H2:=LeD.done zb;have z4:Z.δ=L.δ:=zk.del;have z6:Z.off D:=⟨(S2.del D cz).1,λz=>by rw[z4] at z;exact(S1.fresh hD).2 z⟩;obtain⟨go,zv⟩:=sj (Io.hide Z D) H2 M2 (zb.toX hD) S2;cases m with
  |zero =>
   simp only[MW.Cg] at e3;split at e3<;>cases e3;rename_i Vj;refine hG λ_ _k=>?_
   have hi:i=s.len:=by lia
   subst hi;rw[kh] at q0;subst q0;obtain⟨z3,z7,S9,r9⟩:=apd S2 q5 q2 z6 zk hD ek;apply _k;exact .inl ⟨zv Vj,q z3 H2 _ (q6.trans z7) S9 r9⟩
  |succ m =>
   refine hG λ_ _k=>?_
   obtain⟨d,o,M3,U,h1,h2,h3,h4⟩:=acs e3;obtain⟨g1,g2⟩:=go i d (by lia) h1;apply _k;refine .inr ⟨g1,λv H3 yv=>?_⟩;refine hG λ_ _k=>?_
   obtain⟨T4,S3,r3⟩:=g2 v H3 yv;obtain⟨qk,z1,zw⟩:=hb d M2 o M3 h2;have R3:qm X.K (Io.hide Z D) H3 ρ σ:=((R.mono q6).Iv (zb.toX hD)).mono T4;apply _k;refine⟨Io.hide Z D,ρ++List.replicate k none,M2,d,qk,S3,akb R3,r3,z1,λq4 R5 l5 k5=>⟨l5,apc z0 ho k5,?_⟩⟩;have z5:=T4.lst D vs (S2.del D cz).1 q5;refine zw q4 (Io.hide Z D) H3 _ _ S3 R5 (λY H6 u qv S6=>by
    have C:=qv.lst D vs (S2.del D cz).1 z5;have q1:LeD D L H1 Y H6:=(zb.go T4).go qv;have ei:Y=Io.hide ⟨Y.l,Z.δ⟩ D:=by have:=qv.del;obtain⟨l6,z8⟩:=Y;simp only[Io.hide] at this ⊢;rw[this]
    rw[ei] at q1 S6;have zz:mz X.K (Io.hide ⟨Y.l,Z.δ⟩ D) H6 G vs:=by rw[<- ei];exact(q2.mono T4).mono qv
    cases o with
    |none =>
     refine⟨m,ud _,by lia,by lia,⟨Y.l,Z.δ⟩,M3,G,vs,U,q1,S6,C,zz,a_ Xr x_,h3,?_⟩;rw[q0,h4];rfl
    |some x =>
     intro r6;rw[ei] at r6;have Zh:D∈(Io.hide ⟨Y.l,Z.δ⟩ D).δ:=cz;refine⟨vs,m,C,?_,ud _,by lia,by lia,⟨Y.l,Z.δ⟩,M3,G++[x],vs++[u],U,q1.grow hD C,S6.grow C Zh,q9,(zz.snoc r6).tr (ah0 C Zh),by simp;exact Xr,h3,?_⟩
     .rw[<- q2.length]
      exact Nat.lt_of_le_of_lt (au Xr (au z2 q7)) (by decide)
     .rw[q0,h4];simp[awy])
set_option tactic.hygienic true in
def Y5{N:Yf}(hk:N.length-X.N.length=k)(ho:∀i∈Bp t,X.N.length<=i):∀σ H Q,σ.length=X.N.length->tE nm W X.K (.comp v0 k t it e') σ H Q ->
 aco (N.length-X.N.length) (tI nm W X.K it) (tGt nm X.K t) (λ_ H Q=>Q true H) (tE nm W X.K e') σ H Q:=fun σ H Q C hh=>by
 obtain⟨ι,ρ,M,d,M',S,R,e,q⟩:=hh;obtain⟨s,M1,ds,M2,e1,Y,e2,ek⟩:=akc e;refine Y4 hk ho C S R e1 Y e2 ek q λd M2 o M3 Z=>?_
 split at Z
 .rename_i L J
  obtain⟨x,M4,e5,Z⟩:=dz Z;cases Z;refine⟨L,J,λqk qq H5 G1 G0 S5 R5 g=>?_⟩;show if true=true then _ else _
  rw[cg rfl];exact one (X:=X) S5 R5 e5 λG H6 u U S6 R6 r6=>g G H6 u U S6 r6
 .cases Z
def acu(h:(Ex.Av v k t it c' e').den W ρ M=.ok d M'):∃s M1 G M2,it.den W ρ M=.ok s M1/\s.len<=100000 /\
 MW.Cg s.fin s.item (λd M=>match t.put d (ρ++List.replicate k none) with|some Z=>(c'.den W Z M).bind λb M'=>(match b with|.bl true=>(e'.den W Z M').bind λx U=>.ok (some x) U|.bl false=>.ok none M'|_=>.bad)|none=>.bad) s.len 0 M1=.ok G M2/\keptAs v G M2=.ok d M':=by
 rw[MW.Vg] at h;obtain⟨s,M1,e1,h⟩:=dz h;obtain⟨G,M2,R,h⟩:=dz h;exact⟨s,M1,G,M2,e1,(Uz R).1,(Uz R).2,h⟩
set_option tactic.hygienic true in
def T7{N:Yf}(hk:N.length-X.N.length=k)(ho:∀i∈Bp t,X.N.length<=i):∀σ H Q,σ.length=X.N.length->tE nm W X.K (.Av v0 k t it c' e') σ H Q ->
 aco (N.length-X.N.length) (tI nm W X.K it) (tGt nm X.K t) (tQ nm W X.K c') (tE nm W X.K e') σ H Q:=fun σ H Q C hh=>by
 obtain⟨ι,ρ,M,d,M',S,R,e,q⟩:=hh;obtain⟨s,M1,ds,M2,e1,J,e2,ek⟩:=acu e;refine Y4 hk ho C S R e1 J e2 ek q λd M2 o M3 Z=>?_
 split at Z
 .rename_i qq U
  obtain⟨x,M4,e5,Z⟩:=dz Z;refine⟨qq,U,λq0 qv H5 G1 G0 S5 R5 g=>?_⟩;split at Z
  .obtain⟨y,M6,e6,Z⟩:=dz Z
   cases Z;refine aar (X:=X) S5 R5 e5 λG H6 Y S6 R6=>?_
   rw[cg rfl];exact one (X:=X) S6 R6 e6 λqk H7 u L S7 R7 r7=>g qk H7 u (Y.trans L) S7 r7
  .cases Z
   refine aar (X:=X) S5 R5 e5 λG H6 Y S6 R6=>?_
   rw[bz (by simp)];exact g G H6 .non Y S6
  .cases Z
 .cases Z
def PE.acv(h:PE X e t)(w:∀σ H Q,σ.length=X.N.length->t' σ H Q->t σ H Q):PE X e t':=λZ s σ H Q I q=>h Z s σ H Q I (w σ H Q I.len q)
def PS.acv(h:PS X st t)(w:∀D σ H,σ.length=X.N.length->t' D σ H->t D σ H):PS X st t':=λZ s σ H D I q=>h Z s σ H D I (w D σ H I.len q)
def a0z(B:G4 X N scope)(Ft:X.calm=true)(hi:PI X tg iter (tI nm W X.K it))(R:∀C Z s H,PG (Lq X N scope C Z s H) tg (tGt nm X.K t))(he:∀C Z s H,PE (Lq X N scope C Z s H) elt (tE nm W X.K G))(hs:Ig iter=true)(hk:N.length-X.N.length=k)(U:∀i∈Bp t,X.N.length<=i):PE X (.ListComp elt [⟨tg,iter,[],0⟩] scope pos) (tE nm W X.K (.comp v0 k t it G)) :=
 PE.acv (ahx B Ft hi R (λ_ _ _ _=>.inl ⟨rfl,rfl⟩) he (Fo hs X.env)) (Y5 hk U)
def ape(B:G4 X N scope)(Ft:X.calm=true)(hi:PI X tg iter (tI nm W X.K it))(U:∀C Z s H,PG (Lq X N scope C Z s H) tg (tGt nm X.K t))(hc:∀C Z s H,PT (Lq X N scope C Z s H) c (tQ nm W X.K c'))(he:∀C Z s H,PE (Lq X N scope C Z s H) elt (tE nm W X.K G))(hs:Ig iter=true)(hk:N.length-X.N.length=k)(R:∀i∈Bp t,X.N.length<=i):PE X (.ListComp elt [⟨tg,iter,[c],0⟩] scope pos) (tE nm W X.K (.Av v0 k t it c' G)) :=
 PE.acv (ahx B Ft hi U (λ_ _ _ _=>.inr ⟨c,rfl,hc _ _ _ _⟩) he (Fo hs X.env)) (T7 hk R)
def acw(h:∀σ H Q,σ.length=X.N.length->tE nm W X.K e' σ H Q->tt σ H Q):∀D σ H,σ.length=X.N.length->tS nm W X.K EX (.asg (.tg (.name i)) e') D σ H->azk tt (ahh i) D σ H:=λD σ H G hh=>by obtain⟨ι,ρ,M,fl,qq,M',S,R,e,q⟩:=hh;rw[MW.Rp] at e;obtain⟨x,M1,e1,e⟩:=dz e;obtain⟨qk,M2,U,e⟩:=dz e;cases e;rw[MW.aeb] at U;obtain⟨e3,e4⟩:=uo U;subst e4;cases e3;exact h σ H _ G (one S R e1 λZ H1 v le S1 R1 r=>q Z H1 _ le S1 (R1.set r i))
def akd{y:Str}(B:G4 X N scope)(Ft:X.calm=true)(hi:PI X tg iter (tI nm W X.K it))(hg:∀C G s H,PG (Lq X N scope C G s H) tg (tGt nm X.K t))(he:∀C G s H,PE (Lq X N scope C G s H) elt (tE nm W X.K U))(hs:Ig iter=true)(hk:N.length-X.N.length=k)(R:∀i∈Bp t,X.N.length<=i)(hN:X.N.Nodup)(hy:X.N[i]?=some y)(hl:X.env.scope.names.lookup y=some .local)(Z:swapsWith (.ListComp elt [⟨tg,iter,[],0⟩] scope pos) (some (.Name y py)) ao5.line X.env=pure true):PS X (.Assign [.Name y py] (.ListComp elt [⟨tg,iter,[],0⟩] scope pos) ao5) (tS nm W X.K EX (.asg (.tg (.name i)) (.comp v0 k t it U))) :=
 PS.acv (ahy B Ft hi hg (λ_ _ _ _=>.inl ⟨rfl,rfl⟩) he (Fo hs X.env) hN hy hl Z) (acw (Y5 hk R))
def acx{y:Str}(B:G4 X N scope)(Ft:X.calm=true)(hi:PI X tg iter (tI nm W X.K it))(R:∀C Z s H,PG (Lq X N scope C Z s H) tg (tGt nm X.K t))(hc:∀C Z s H,PT (Lq X N scope C Z s H) c (tQ nm W X.K c'))(he:∀C Z s H,PE (Lq X N scope C Z s H) elt (tE nm W X.K U))(hs:Ig iter=true)(hk:N.length-X.N.length=k)(ho:∀i∈Bp t,X.N.length<=i)(hN:X.N.Nodup)(hy:X.N[i]?=some y)(hl:X.env.scope.names.lookup y=some .local)(G:swapsWith (.ListComp elt [⟨tg,iter,[c],0⟩] scope pos) (some (.Name y py)) ao5.line X.env=pure true):PS X (.Assign [.Name y py] (.ListComp elt [⟨tg,iter,[c],0⟩] scope pos) ao5) (tS nm W X.K EX (.asg (.tg (.name i)) (.Av v0 k t it c' U))) :=
 PS.acv (ahy B Ft hi R (λ_ _ _ _=>.inr ⟨c,rfl,hc _ _ _ _⟩) he (Fo hs X.env) hN hy hl G) (acw (T7 hk ho))
end
def spF(nm:Nm)(W:Lp)(K:Fg)(n f:Nat):Sp:=λvs H Q _=>∃U M R d M',mq nm K U H M/\mz K U H R vs/\R.length=n/\W.call f R M=.ok d M'/\∀Z G v,Le U H Z G->mq nm K Z G M'->Rep K Z G d v->Q v G
def s_call(F:Dp X.prog X.w X.K X.mg X.base CX0 k fa fd ps (spF nm W X.K n f))(hr:Fj k X.A)(hg:Gl X x)(hm:X.mg x=some (.ref fa))(hk:PySem.W.keepIn X.K (.ref fa)=true)(hb:Binds X.K fd ps [])(G:Eg.len Z=n)(ha:PA X (a::es) (tEs nm W X.K Z))(Ph:(x==("__debug__" : Str))=false)(he:starEach (a::es) X.env=(false,eval a X.env)::starEach es X.env)(K5:(backTo pos (starEach es X.env)).any (·.1)=false) :
 PE X (.Call (.Name x p) (a::es) [] pos) (tE nm W X.K (.call f Z)) :=
 PE.of (ahn (E:=E0) F hr hg hm hk hb .nil aoo ha Ph he K5) fun σ H Q ι ρ M d M' S R e q=>by
  rw[MW.Vf] at e;obtain⟨ds,M1,e1,e⟩:=dz e;refine W0 S R e1 λU H1 vs le S1 R1 r=>?_
  rw[kh];exact⟨U,M1,ds,d,M',S1,r,(Hz e1).trans G,e,λqq H' v Wt S' r'=>q qq H' v (le.trans Wt) S' r'⟩
def a00(q1:Mk X.K C fa)(F:Dp X.prog X.w X.K X.mg X.base CX0 k fa fd ps (spF nm W X.K 1 f))(hr:Fj (k+1) X.A)(hg:Gl X x)(hm:X.mg x=some (.ref C))(hb:Binds X.K fd ps [])(qq:W.cls[Z]?=some cl)(qv:cl.init=f)(qk:nm.cls Z=some C)(Ph:(x==("__debug__" : Str))=false) :
 PE X (.Call (.Name x p) [] [] pos) (tE nm W X.K (.make Z)) :=
 PE.of (aob (E:=E0) q1 F hr hg hm hb .nil aoo Ph) fun σ H Q ι ρ M d M' S R e q=>by
  rw[MW.alh,qq] at e;have e:((W.call cl.init [.ref M.length] (M++[.ins Z []])).bind λr M2=>match r with|.non=>.ok (.ref M.length) M2|_=>.bad)=.ok d M':=e;obtain⟨r0,M2,e2,e⟩:=dz e;intro p U hp q2 Pb;have G:∀a u,H a=some u->upd (upd H U (.own p)) p (.ins C U []) a=some u:=λa u e=>by rw[jx (ni e hp),jx (ni e q2)];exact e
  obtain⟨S2,zb⟩:=S.new (o:=.ins Z []) hp G λ_=>⟨C,U,[],qk,q9,.nil⟩
  have rp:Rep X.K (ι.add p) (upd (upd H U (.own p)) p (.ins C U [])) (.ref M.length) (.ref p):=.ref (by show(ι.l++[p])[M.length]?=some p;rw[<- S.len];simp);refine⟨ι.add p,M++[.ins Z []],[.ref M.length],r0,M2,S2,.cons rp .nil,rfl,by rw[<- qv];exact e2,λq0 H' v Wt S' r'=>?_⟩;cases r'<;>try cases e
  exact⟨rfl,q q0 H' _ (zb.trans Wt) S' (rp.mono Wt)⟩
theorem acy{G:Nm}{R:Io}{H:Hp}{m:Str}{K:Fg}(Z:∀i,G.fld i≠m):∀{fs:List (Nat×Dv)}{l:List (Str×V)},qb K R H (λk U=>U=G.fld k) fs l->l.lookup m=none
 |_,_,.nil=>rfl
 |_,_,.cons (k:=kk) (k':=kk') hk h t=>by
  subst hk;rw[nq];have z:(m==G.fld kk)=false:=by
   cases z:m==G.fld kk with
   |false=>rfl|true=>exact absurd (eq_of_beq z).symm (Z kk)
  rw[z];exact acy Z t
def a01{nm:Nm}{W:Lp}{X:Cx}{a o:Expr}{o':Ex}{Z G:Pos}{es:Ya}{qq:Eg}{k n f:Nat}{fa C:Addr}{fd:FuncData}{ps:Yf}{m:Str}{mi ci:Nat}{cl:MW.Cl}{pl:Sem Bool}(ho:PE X o (tE nm W X.K o'))(c0:Cls X.K C)(q2:Meth X.K C m fa)(F:Dp X.prog X.w X.K X.mg X.base CX0 k fa fd ps (spF nm W X.K (n+1) f))(hr:Fj k X.A)(hb:Binds X.K fd ps [])
 (q5:∀c' U,W.cls[c']?=some U->∀g,U.meths.lookup mi=some g->nm.cls c'=some C/\g=f) (q0:∀i,nm.fld i≠m)
 (qk:Eg.len qq=n) (ha:PA X (a::es) (tEs nm W X.K qq)) (he:starEach (a::es) X.env=(false,eval a X.env)::starEach es X.env) (K5:(backTo Z (starEach es X.env)).any (·.1)=false)
 (ht:eval (.Call (.Attribute o m G) (a::es) [] Z) X.env=(do
  let ov <- eval o X.env
  standAt G.atName
  let (f,first) <- holding [ov] (getMethod ov m pl)
  callWith Z f first (backTo Z (starEach (a::es) X.env)) (backToKw Z (keywordEach [] X.env)))) :
 PE X (.Call (.Attribute o m G) (a::es) [] Z) (tE nm W X.K (.meth o' mi qq)) :=
 PE.of (as9 (E:=E0) ho c0 q2 F hr hb .nil aoo ha he K5 ht) fun σ H Q ι ρ M d M' S R e q=>by
  rw[MW.ali] at e;obtain⟨x,M1,e1,e⟩:=dz e;obtain⟨ds,M2,e2,e⟩:=dz e;refine one S R e1 λq1 H1 v le S1 R1 r=>?_
  obtain⟨j,hx⟩:∃j,x=.ref j:=by cases x<;>first|exact⟨_,rfl⟩|cases e
  subst hx;obtain⟨p,rfl,hp⟩:∃p,v=.ref p/\q1.l[j]?=some p:=by cases r with|ref z=>exact⟨_,rfl,z⟩
  have e:(match M1[j]? with
   | some (.ins c _)=>(match(W.cls[c]?).bind λC=>C.meths.lookup mi with
    | some f=>W.call f (.ref j::ds) M2|none=>.bad)
   | _=>.bad)=Res.ok d M':=e
  cases hM:M1[j]? with
  |none=>rw[hM] at e;cases e
  |some ob =>
   rw[hM] at e;cases ob with
   |ins ci fs =>
    have e:(match(W.cls[ci]?).bind λC=>C.meths.lookup mi with|some f=>W.call f (.ref j::ds) M2|none=>.bad)=Res.ok d M':=e;cases hL:(W.cls[ci]?).bind λC=>C.meths.lookup mi with
    |none=>rw[hL] at e;cases e
    |some g =>
     rw[hL] at e;have e:W.call g (.ref j::ds) M2=.ok d M':=e;obtain⟨U,h1,h2⟩:=jc.mp hL;obtain⟨h3,rfl⟩:=q5 ci U h1 g h2;obtain⟨C',dx,l,g1,g2,g3⟩:=S1.obj j _ p hM hp;rw[h3] at g1;cases g1;have qv:l.lookup m=none:=acy q0 g3;refine⟨p,dx,l,rfl,g2,qv,W0 S1 R1 e2 λq3 H2 vs zb S2 R2 r2=>?_⟩;rw[kh];exact⟨q3,M2,.ref j::ds,d,M',S2,.cons (r.mono zb) r2,by rw[gj,Hz e2,qk],e,λq4 H' v Wt S' r'=>q q4 H' v ((le.trans zb).trans Wt) S' r'⟩
   |_=>cases e
def a02:PE X (.Dict [] [] pos) (tE nm W X.K .abf):=PE.of aof fun σ H Q U ρ M d M' S R e q=>by
 rw[MW.alg] at e;cases e;intro p Z;obtain⟨S2,G⟩:=S.new (o:=.dT []) (H':=upd H p (.dT [])) Z (λa u e=>by rw[jx (ni e Z)];exact e) λ_=>⟨[],q9,.nil⟩
 exact q _ _ _ G S2 (.ref (by show(U.l++[p])[M.length]?=some p;rw[<- S.len];simp))
def beo(U:Nm)(K:Fg):azg:=λo i v H Q=>∃Z M x y d R,mq U K Z H M/\Rep K Z H x o/\Rep K Z H y i/\Rep K Z H d v/\MW.setOp x y d M=some R/\∀G,Le Z H Z G->mq U K Z G R->Q G
def Rc(h:n<100000):n<sizeLine:=fc h Wx
set_option tactic.hygienic true in
def at6(hu:X.A.units+1<cLine):azh X (beo nm X.K):=by
 intro G s σ H o i v ov iv u Q I ro ri rv hh;obtain⟨ι,M,x,y,d,M',S,rx,ry,rd,e,q⟩:=hh;obtain⟨j,hx⟩:∃j,x=.ref j:=by cases x<;>first|exact⟨_,rfl⟩|cases e
 subst hx;obtain⟨p,rfl,U⟩:∃p,o=.ref p/\ι.l[j]?=some p:=by cases rx with|ref z=>exact⟨_,rfl,z⟩
 simp only[MW.setOp] at e;split at e
 .rename_i xs Z
  split at e
  .rename_i k
   obtain⟨J,L,e2⟩:=bw.mp e;subst e2;cases ry;obtain⟨vs,C,Y⟩:=S.obj j _ p Z U;refine set_list G s σ H _ _ v ov iv u Q I ro ri rv ⟨p,vs,k,J,rfl,rfl,C,by rw[<- Y.length];exact L,?_⟩;obtain⟨S2,R⟩:=S.put (u:=.lst (vs.set J v)) (o:=.lst (xs.set J d)) Z U λle=>⟨_,q9,(Y.mono le).set (rd.mono le) J⟩
   exact q _ R S2
  .cases e
 .rename_i ou Z
  obtain⟨k,L,e⟩:=jc.mp e;split at e<;>cases e;rename_i hl;obtain⟨l,C,Y⟩:=S.obj j _ p Z U;obtain⟨b,rfl,hb⟩:=aat ry L;cases ro;refine ajz (H':=upd H p (.dT (putK l k v))) (y:=.ref b) (v:=v) hu I (ata.t C hb (by rw[<- Y.length];exact Rc hl)) ri rv λs' I'=>⟨_,I',?_⟩
  obtain⟨S2,R⟩:=S.put (u:=.dT (putK l k v)) (o:=.dT (MW.U9 ou k d)) Z U λle=>⟨_,q9,(Y.mono le).put (rd.mono le)⟩
  exact q _ R S2
 .cases e
def W6(h:O8 e=true)(t:Expr)(l:Nat)(Z:Env):swapsWithSole [t] e l Z=pure false:=by unfold swapsWithSole;exact Iw h _ _ _
def apf(e o b:Expr)(p:Pos)(l:Nat)(Z:Env):swapsWithSole [.Subscript o b p] e l Z=pure false:=by cases e<;>rfl
def apg(hu:X.A.units+1<cLine)(he:PE X a (tE nm W X.K a'))(ho:PE X o (tE nm W X.K o'))(hi:PE X b (tE nm W X.K b'))(ha:∀v,assign (.Subscript o b pos') X.env v=(do
 let U <- holding [v] (eval o X.env)
 let iv <- holding [v,U] (eval b X.env)
 standAt pos'
 holding [v,U,iv] (setItem U iv v)
 release [v,U,iv] [])):PS X (.Assign [.Subscript o b pos'] a pos) (tS nm W X.K EX (.asg (.sub o' b') a')) :=
 PS.of (anj he (azj ho hi (at6 (nm:=nm) hu) ha) (apf _ _ _ _ _ _) (by rfl) (by rfl)) λD σ H ι ρ M fl qq M' S R e q=>by
  rw[MW.Rp] at e;obtain⟨x,M1,e1,e⟩:=dz e;obtain⟨q0,M2,Z,e⟩:=dz e;cases e;rw[MW.aro] at Z;obtain⟨y,M3,e3,Z⟩:=dz Z;obtain⟨z,M4,e4,Z⟩:=dz Z;obtain⟨M5,M6,e5,e6⟩:=dz Z;obtain⟨e7,e8⟩:=uo e5;subst e8;cases e6;refine one S R e1 λqk H1 v le S1 R1 r=>?_
  refine one S1 R1 e3 λqv H2 v2 zb S2 R2 r2=>one S2 R2 e4 λG H3 v3 T4 S3 R3 r3=>?_
  exact⟨G,_,y,z,x,_,S3,r2.mono T4,r3,(r.mono zb).mono T4,e7,λH' Wt S'=>q G H' σ (((le.trans zb).trans T4).trans Wt) S' (R3.mono Wt)⟩
set_option tactic.hygienic true in
def aph(hn:n=nm.fld f)(J:∀c C,nm.cls c=some C->Cls X.K C/\Hx X.K C n)(he:PE X a (tE nm W X.K a'))(ho:PE X o (tE nm W X.K o'))(K5:O8 a=true) :
 PS X (.Assign [.Attribute o n pos'] a pos) (tS nm W X.K EX (.asg (.fld o' f) a')) :=
 PS.of (azw ho he (Iw K5 _ _ _)) λD σ H ι ρ M fl qq M' S R e q=>by
  rw[MW.Rp] at e;obtain⟨x,M1,e1,e⟩:=dz e;obtain⟨qv,M2,G,e⟩:=dz e;cases e;rw[MW.arp] at G;obtain⟨y,M3,e3,G⟩:=dz G;obtain⟨M5,M6,e5,e6⟩:=dz G;obtain⟨Z,e8⟩:=uo e5;subst e8;cases e6;refine one S R e1 λqk H1 v le S1 R1 r=>one S1 R1 e3 λY H2 v2 zb S2 R2 r2=>?_
  obtain⟨j,hx⟩:∃j,y=.ref j:=by cases y<;>first|exact⟨_,rfl⟩|cases Z
  subst hx;obtain⟨p,rfl,hp⟩:∃p,v2=.ref p/\Y.l[j]?=some p:=by cases r2 with|ref z=>exact⟨_,rfl,z⟩
  simp only[MW.Vc] at Z;split at Z
  .rename_i c fs hM
   have hl:fs.length<1000:=by
    by_cases z:fs.length<1000
    .exact z
    .rw[bz z] at Z;cases Z
   rw[cg hl] at Z;cases Z;obtain⟨C,U,l,L,h2,h3⟩:=S2.obj j _ p hM hp;subst hn;obtain⟨g1,g2⟩:=J c C L;refine⟨p,C,U,l,rfl,h2,g1,g2,by rw[<- h3.length];exact hl,?_⟩;obtain⟨S3,T4⟩:=S2.put (u:=.ins C U (Ie (nm.fld f) v l)) (o:=.ins c (MW.Vb f x fs)) hM hp λWt=>⟨C,U,_,L,q9,(h3.mono Wt).Ie ((r.mono zb).mono Wt)⟩
   exact q Y _ σ ((le.trans zb).trans T4) S3 (R2.mono T4)
  .cases Z
def Bw.weak(h:Bw X f r)(w:∀Z H Q,r' Z H Q->r Z H Q):Bw X f r':=λG s R H Z us Q I U q=>h G s R H Z us Q I U (w Z H Q q)
def rB(R:Nm)(K:Fg)(b:Blt):List V->Hp->VK->Prop:=λvs H Q=>∃U M ds d M',mq R K U H M/\mz K U H ds vs/\MW.ph b ds M=.ok d M'/\∀Z G v,Le U H Z G->mq R K Z G M'->Rep K Z G d v->Q v G
def Bw.of(h:Bw X f r)(w:∀U H Q G M R d M',mq nm X.K G H M->mz X.K G H R U->MW.ph bb R M=.ok d M'->(∀Z H' v,Le G H Z H'->mq nm X.K Z H' M'->Rep X.K Z H' d v->Q v H')->r U H Q):Bw X f (rB nm X.K bb) :=
 Bw.weak h λU H Q z_=>by obtain⟨G,M,R,d,M',S,r,e,q⟩:=z_;exact w U H Q G M R d M' S r e q
def acz{X:Cx}:∀σ H Q,tE nm W X.K (.blt t Z) σ H Q->tCB (rB nm X.K t) (tEs nm W X.K Z) σ H Q:=fun σ H Q hh=>by obtain⟨ι,ρ,M,d,M',S,R,e,q⟩:=hh;rw[MW.Qa] at e;obtain⟨ds,M1,e1,e⟩:=dz e;exact W0 S R e1 λG H1 vs le S1 R1 r=>⟨G,M1,ds,d,M',S1,r,e,λU H' v Wt S' r'=>q U H' v (le.trans Wt) S' r'⟩
def ah4{id:String}(hc:Bw X (.builtin id) (rB nm X.K t))(G:Gl X x)(hm:X.mg x=none)(hv:bootBuiltins x=some (.builtin id))(ha:PA X (a::es) (tEs nm W X.K Z))(hn:x≠"__name__")(R:(x==("__debug__" : Str))=false)(he:starEach (a::es) X.env=(false,eval a X.env)::starEach es X.env)(U:(backTo pos (starEach es X.env)).any (·.1)=false):PE X (.Call (.Name x p) (a::es) [] pos) (tE nm W X.K (.blt t Z)):=PE.weak (aod hc G hm hv ha hn R he U) acz
def afj(hc:Bw X (.type T) (rB nm X.K t))(G:Gl X x)(hm:X.mg x=none)(hv:bootBuiltins x=some (.type T))(ha:PA X (a::es) (tEs nm W X.K Z))(hn:x≠"__name__")(R:(x==("__debug__" : Str))=false)(he:starEach (a::es) X.env=(false,eval a X.env)::starEach es X.env)(U:(backTo pos (starEach es X.env)).any (·.1)=false):PE X (.Call (.Name x p) (a::es) [] pos) (tE nm W X.K (.blt t Z)):=PE.weak (ajw hc G hm hv ha hn R he U) acz
def Nz(r:mz K G H ds Z)(h:ds=[d]):∃v,Z=[v]/\Rep K G H d v:=by subst h;cases r with|cons h t=>cases t;exact⟨_,rfl,h⟩
def at7:Bw X (.type "tuple") (rB nm X.K .tuple):=Bw.of Xq λvs H Q G M ds d M' S r e q=>by
 cases r with
 |nil=>simp[MW.ph] at e
 |@cons x v _ _ h t =>
  cases t with
  |cons h2 t2=>simp[MW.ph] at e
  |nil =>
   have e:Res.q8 ((MW.j7 M x).map MW.D.tup) M=.ok d M':=e;obtain⟨e1,e2⟩:=uo e;subst e2;obtain⟨xs,e3,rfl⟩:=bw.mp e1;obtain⟨p,R,rfl,Z,U⟩:=Hf S h e3;rcases Z with Z|Z
   .refine⟨p,R,rfl,.inl ⟨Gm.of Z,λl hl=>?_⟩⟩
    obtain⟨S2,zb,r2⟩:=Hc S hl U;exact q G _ _ zb S2 r2
   .exact⟨p,R,rfl,.inr ⟨Gu.of Z,q G H _ (Le.refl _ _) S (.tup Z U)⟩⟩
set_option tactic.hygienic true in
def a8i:Bw X (.builtin "len") (rB nm X.K .len):=Bw.of aaj λvs H Q C M Y d M' S r e q=>by
 cases r with
 |nil=>simp[MW.ph] at e
 |@cons x v _ _ h t =>
  cases t with
  |cons h2 t2=>simp[MW.ph] at e
  |nil =>
   have fin:∀G,(MW.j7 M x=some G)->d=.int G.length->M'=M->∃p J,[v]=[V.ref p]/\(Gm X.K H p J\/Gu X.K H p J)/\Q (.int J.length) H:=λG L Z R=>by subst Z R;obtain⟨p,us,rfl,hp,u⟩:=Hf S h L;exact⟨p,us,rfl,hp.imp Gm.of Gu.of,by rw[<- u.length];exact q C H _ (Le.refl _ _) S (.int _)⟩
   cases h with
   |fz Z U =>
    cases e;exact⟨_,_,rfl,.inl Z.sq,by rw[<- U.length];exact q C H _ (Le.refl _ _) S (.int _)⟩
   |@ref n p Z =>
    have e:(match M[n]? with|some (.lst Y)=>Res.ok (MW.D.int Y.length) M|_=>.bad)=Res.ok d M':=e;split at e
    .rename_i Y hM
     cases e;exact fin Y (by simp[MW.j7,MW.fj,hM]) rfl rfl
    .cases e
   |tup Z U=>cases e;exact fin _ rfl rfl rfl|vl Z n1 U=>cases e;exact fin _ rfl rfl rfl|_=>cases e
noncomputable def G5(f:Dv->Dv->Option Bool)(Z bs:List Dv)(j:Nat):Bool:=match Z[j]?,bs[j]? with
 |some a,some b=>(f a b).getD false|_,_=>false
set_option tactic.hygienic true in
theorem Ia{f:Dv->Dv->Option Bool}:∀{Z bs:List Dv}{r:Bool},MW.Xh f Z bs=some r->(∀(j:Nat) a b,Z[j]?=some a->bs[j]?=some b->∃c,f a b=some c) /\
 r=((List.range (min Z.length bs.length)).all (G5 f Z bs)&&Z.length==bs.length)
 |[],[],r,h=>by cases h;exact⟨λj a b e=>by simp at e,by simp⟩
 |[],b::bs,r,h=>by cases h;exact⟨λj a b e=>by simp at e,by simp⟩
 |a::Z,[],r,h=>by cases h;exact⟨λj a b _ e=>by simp at e,by simp⟩
 |a::Z,b::bs,r,h=>by
  simp only[MW.Xh] at h;split at h
  .rename_i x y J U
   cases h;obtain⟨S,R⟩:=Ia U;refine⟨λj C b' Y G=>?_,?_⟩
   .cases j with
    |zero=>simp at Y G;subst Y G;exact⟨x,J⟩|succ j=>exact S j C b' (by simpa using Y) (by simpa using G)
   .rw[gj,gj,Nat.succ_min_succ,List.range_succ_eq_map,List.all_cons,List.all_map]
    have z:G5 f (a::Z) (b::bs) 0=x:=by simp[G5,J]
    have u:(G5 f (a::Z) (b::bs) ∘ Nat.succ)=G5 f Z bs:=by funext j;simp[G5]
    rw[z,u,R];have L:(Z.length+1==bs.length+1)=(Z.length==bs.length):=by
     by_cases q:Z.length=bs.length
     .simp[q]
     .have:¬(Z.length+1=bs.length+1):=by lia
      simp[q,this]
    rw[L,Bool.and_assoc]
  .cases h
set_option tactic.hygienic true in
theorem Nh{Z:Io}{H:Hp}{K:Fg}{f:Dv->Dv->Option Bool}(G:∀x y v r,Rep K Z H x v->Rep K Z H y v->f x y=some r->r=true):∀{J bs:List Dv}{Y:List V}{r:Bool},mz K Z H J Y->mz K Z H bs Y->MW.Xh f J bs=some r->r=true
 |_,_,_,_,.nil,.nil,h=>by cases h;rfl
 |_,_,_,_,.cons h1 t1,.cons h2 t2,h=>by
  simp only[MW.Xh] at h;split at h
  .rename_i x y U C
   cases h;rw[G _ _ _ _ h1 h2 U,Nh G t1 t2 C];rfl
  .cases h
inductive EqI(M:dj)(f:Dv->Dv->Option Bool):Dv->Dv->Bool->Prop
 |bl (a b:Bool):EqI M f (.bl a) (.bl b) (a==b)
 |int (a b:Int):EqI M f (.int a) (.int b) (decide (a=b))
 |str (a b:Str):EqI M f (.str a) (.str b) (decide (a=b))
 |tup {as bs:List Dv} {r:Bool} (h:MW.Xh f as bs=some r):EqI M f (.tup as) (.tup bs) r
 |lst {x y:Dv} {as bs:List Dv} {r:Bool} (h1:MW.fj M x=some as) (h2:MW.fj M y=some bs) (h:(if as.length=bs.length then MW.Xh f as bs else some false)=some r):EqI M f x y r
set_option tactic.hygienic true in
def aav(h:MW.Py M (k+1) x y=some r):EqI M (MW.Py M k) x y r:=by
 unfold MW.Py at h;split at h
 .cases h;exact .int _ _
 .cases h;exact .bl _ _
 .cases h;exact .str _ _
 .exact .tup h
 .split at h
  .rename_i Y Z;exact .lst Y Z h
  .cases h
def ac0{X:Cx}(S:mq nm X.K Z H M)(rx:Rep X.K Z H x v)(R:Rep X.K Z H y v)(h1:MW.fj M x=some ds)(U:MW.fj M y=some es):∃vs,mz X.K Z H ds vs/\mz X.K Z H es vs:=by obtain⟨p,vs,rfl,g1,g2⟩:=ue S rx h1;obtain⟨p',ws,hw,G,g4⟩:=ue S R U;cases hw;rw[g1] at G;cases G;exact⟨vs,g2,g4⟩
theorem aaw{nm:Nm}{U:Io}{H:Hp}{M:dj}{X:Cx}(S:mq nm X.K U H M):∀(k:Nat)(x y:Dv)(v:V)(r:Bool),Rep X.K U H x v->Rep X.K U H y v->MW.Py M k x y=some r->r=true
 |0,_,_,_,_,_,_,h=>by cases h
 |k+1,x,y,v,r,rx,ry,h=>by
  have ih:=aaw S k;cases aav h with
  |bl a b=>cases rx;cases ry;simp|int a b=>cases rx;cases ry;simp|str a b=>cases rx;cases ry;simp
  |tup h=>cases rx with
   |tup e1 Z=>cases ry with
    |tup e2 G=>rw[e1] at e2;cases e2;exact Nh ih Z G h
  |lst h1 h2 R =>
   obtain⟨vs,Z,G⟩:=ac0 S rx ry h1 h2;rw[cg (Z.length.trans G.length.symm)] at R;exact Nh ih Z G R
def Vals.afk{j:Nat}(r:Vals U us)(R:U[j]?=some v)(G:us[j]?=some u):RelV v u:=by obtain⟨u',Z,e2⟩:=L2.Vals.get r R;rw[G] at Z;cases Z;exact e2
set_option tactic.hygienic true in
theorem W7{nm:Nm}{X:Cx}{ι:Io}{H:Hp}{σ:St}{M:dj}{qv:Zp}{s:Shared}(I:Inv X qv σ H s)(S:mq nm X.K ι H M):∀(k:Nat)(A:Around)(x y:Dv)(v u:V)(v' u':Value)(r:Bool),Roo k A->Rep X.K ι H x v->Rep X.K ι H y u->RelV v v'->RelV u u'->MW.Py M k x y=some r->SeqAt.EqAt A s v' u' r
 |0,_,_,_,_,_,_,_,_,_,_,_,_,_,h=>by cases h
 |k+1,A,x,y,v,u,v',u',r,hr,rx,ry,rv,ru,h=>by
  have ih:=W7 I S k A.in1;have q3:=hr.in1;have elems:∀(Z Y:List Dv)(vs ws:List V)(is G:Zl)(rr:Bool),mz X.K ι H Z vs->mz X.K ι H Y ws->Vals vs is->Vals ws G->MW.Xh (MW.Py M k) Z Y=some rr ->
   ∀j (h1:j<is.toArray.size) (h2:j<G.toArray.size),SeqAt.EqAt A.in1 s is.toArray[j] G.toArray[j] (G5 (MW.Py M k) Z Y j):=λZ Y vs ws is G rr rd re Pj qk he j h1 h2=>by
   have l1:j<Z.length:=by rw[rd.length,Pj.length];simpa using h1
   have l2:j<Y.length:=by rw[re.length,qk.length];simpa using h2
   have g1:Z[j]?=some Z[j]:=by simp[l1]
   have J:Y[j]?=some Y[j]:=by simp[l2]
   obtain⟨c,hc⟩:=(Ia he).1 j _ _ g1 J;obtain⟨va,a1,a2⟩:=rd.get g1;obtain⟨wa,b1,b2⟩:=re.get J;have q1:is[j]?=some is.toArray[j]:=by simp
   have q2:G[j]?=some G.toArray[j]:=by simp
   have:=ih _ _ va wa _ _ c q3 a2 b2 (Vals.afk Pj a1 q1) (Vals.afk qk b1 q2) hc;have z:G5 (MW.Py M k) Z Y j=c:=by simp[G5,g1,J,hc]
   rw[z];exact this
  have qq:∀(p p2:Addr)(Z Y:List Dv),v=.ref p->u=.ref p2->MW.fj M x=some Z->MW.fj M y=some Y->(if Z.length=Y.length then MW.Xh (MW.Py M k) Z Y else some false)=some r->SeqAt.EqAt A s v' u' r:=λp p2 Z Y hv hu h1 h2 L=>by
   subst hv hu;cases rv;cases ru;obtain⟨_,vs,hv,g1,J⟩:=ue S rx h1;cases hv;obtain⟨_,ws,hw,g3,g4⟩:=ue S ry h2;cases hw
   by_cases U:p=p2
   .subst U
    have:r=true:=by rw[g1] at g3;cases g3;rw[cg (J.length.trans g4.length.symm)] at L;exact Nh (λx y v r a b c=>aaw S k x y v r a b c) J g4 L
    rw[this];exact SeqAt.EqAt.same _
   .refine SeqAt.EqAt.of_refs U ?_
    obtain⟨is,r1,R,_⟩:=I.list (Gm.of g1);obtain⟨G,r2,C,_⟩:=I.list (Gm.of g3)
    by_cases hl:Z.length=Y.length
    .rw[cg hl] at L
     have q0:is.toArray.size=G.toArray.size:=by simp[<- r1.length,<- r2.length,<- J.length,<- g4.length,hl]
     have:=SeqAt.RcAt.lists (e:=G5 (MW.Py M k) Z Y) R.isList C.isList q0 hr.Wn (elems Z Y vs ws is G r J g4 r1 r2 L);rw[(Ia L).2];have e1:is.toArray.size=min Z.length Y.length:=by simp[<- r1.length,<- J.length,hl]
     rw[e1] at this;simpa[hl] using this
    .rw[bz hl] at L
     cases L;exact SeqAt.RcAt.lists_lengths R.isList C.isList (by simp[<- r1.length,<- r2.length,<- J.length,<- g4.length,hl]) hr.Wn
  cases aav h with
  |bl a b=>cases rx;cases ry;cases rv;cases ru;exact SeqAt.EqAt.bool_bool _ _
  |int a b =>
   cases rx;cases ry;obtain⟨t,rfl⟩:=rv;obtain⟨t2,rfl⟩:=ru;rw[<- Bool.beq_eq_decide_eq];exact SeqAt.EqAt.int_int _ _ _ _
  |str a b =>
   cases rx;cases ry;obtain⟨t,rfl⟩:=rv;obtain⟨t2,rfl⟩:=ru;rw[<- Bool.beq_eq_decide_eq];exact SeqAt.EqAt.str_str _ _ _ _
  |@tup Z Y _ h=>cases rx with
   |@tup p _ vs e1 r1=>cases ry with
    |@tup p2 _ ws e2 r2 =>
     cases rv;cases ru
     by_cases U:p=p2
     .subst U
      have:r=true:=by rw[e1] at e2;cases e2;exact Nh (λx y v r a b c=>aaw S k x y v r a b c) r1 r2 h
      rw[this];exact SeqAt.EqAt.same _
     .refine SeqAt.EqAt.of_refs U ?_
      obtain⟨is,g1,R,_⟩:=I.tuple (Gu.of e1);obtain⟨G,J,C,_⟩:=I.tuple (Gu.of e2);have:=SeqAt.RcAt.tuples (e:=G5 (MW.Py M k) Z Y) (show s.heap.IsTuple p is.toArray from R) (show s.heap.IsTuple p2 G.toArray from C) hr.Wn (elems Z Y vs ws is G r r1 r2 g1 J h);rw[(Ia h).2];have z1:is.toArray.size=Z.length:=by simp[<- g1.length,<- r1.length]
      have z2:G.toArray.size=Y.length:=by simp[<- J.length,<- r2.length]
      rw[z1,z2] at this;exact this
  |lst h1 h2 L =>
   obtain⟨p,_,e1,_⟩:=ue S rx h1;obtain⟨p2,_,e2,_⟩:=ue S ry h2;exact qq p p2 _ _ e1 e2 h1 h2 L
inductive aax(A:Around)(s:Shared):Value->Value->Bool->Prop
 |O3 {p p2:Addr} {is js:Xt} (e:Nat->Bool) (h1:s.heap.IsTuple p is) (h2:s.heap.IsTuple p2 js) (he:∀j (h1:j<is.size) (h2:j<js.size),SeqAt.EqAt A.in1 s is[j] js[j] (e j)):aax A s (.ref p) (.ref p2) ((List.range (min is.size js.size)).all e&&is.size==js.size)
 |a8k {p p2:Addr} {is js:Xt} (e:Nat->Bool) (h1:s.heap.IsList p is) (h2:s.heap.IsList p2 js) (hz:is.size=js.size) (he:∀j (h1:j<is.size) (h2:j<js.size),SeqAt.EqAt A.in1 s is[j] js[j] (e j)):aax A s (.ref p) (.ref p2) ((List.range is.size).all e)
 |lens {p p2:Addr} {is js:Xt} (h1:s.heap.IsList p is) (h2:s.heap.IsList p2 js) (hz:(is.size != js.size)=true):aax A s (.ref p) (.ref p2) false
def Y6{A:Around}(I:Inv X pins σ H s)(S:mq nm X.K ι H M)(hr:Roo k A.in1)(rd:mz X.K ι H ds vs)(re:mz X.K ι H es ws)(Pj:Vals vs is)(Z:Vals ws G)(he:MW.Xh (MW.Py M k) ds es=some rr) :
 ∀j (h1:j<is.toArray.size) (h2:j<G.toArray.size),SeqAt.EqAt A.in1 s is.toArray[j] G.toArray[j] (G5 (MW.Py M k) ds es j):=λj h1 h2=>by
 have l1:j<ds.length:=by rw[rd.length,Pj.length];simpa using h1
 have l2:j<es.length:=by rw[re.length,Z.length];simpa using h2
 have R:ds[j]?=some ds[j]:=by simp[l1]
 have U:es[j]?=some es[j]:=by simp[l2]
 obtain⟨c,hc⟩:=(Ia he).1 j _ _ R U;obtain⟨va,a1,a2⟩:=rd.get R;obtain⟨wa,b1,b2⟩:=re.get U;have q1:is[j]?=some is.toArray[j]:=by simp
 have q2:G[j]?=some G.toArray[j]:=by simp
 have:=W7 I S k A.in1 _ _ va wa _ _ c hr a2 b2 (Vals.afk Pj a1 q1) (Vals.afk Z b1 q2) hc;have z:G5 (MW.Py M k) ds es j=c:=by simp[G5,R,U,hc]
 rw[z];exact this
def afl(I:Inv X pins σ H s)(S:mq nm X.K ι H M)(hr:Roo k A.in1)(rx:Rep X.K ι H x v)(ry:Rep X.K ι H y u)(rv:RelV v v')(ru:RelV u u')(h1:MW.fj M x=some ds)(h2:MW.fj M y=some es)(U:(if ds.length=es.length then MW.Xh (MW.Py M k) ds es else some false)=some r):aax A s v' u' r:=by
 obtain⟨p,vs,rfl,g1,g2⟩:=ue S rx h1;obtain⟨p2,ws,rfl,g3,g4⟩:=ue S ry h2;cases rv;cases ru;obtain⟨is,r1,R,_⟩:=I.list (Gm.of g1);obtain⟨js,r2,G,_⟩:=I.list (Gm.of g3)
 by_cases Z:ds.length=es.length
 .rw[cg Z] at U
  have qq:is.toArray.size=js.toArray.size:=by simp[<- r1.length,<- r2.length,<- g2.length,<- g4.length,Z]
  have z:=aax.a8k (A:=A) (G5 (MW.Py M k) ds es) R.isList G.isList qq (Y6 I S hr g2 g4 r1 r2 U);rw[(Ia U).2];have e1:is.toArray.size=min ds.length es.length:=by simp[<- r1.length,<- g2.length,Z]
  rw[e1] at z;simpa[Z] using z
 .rw[bz Z] at U
  cases U;exact .lens R.isList G.isList (by simp[<- r1.length,<- r2.length,<- g2.length,<- g4.length,Z])
set_option tactic.hygienic true in
def ac1(I:Inv X pins σ H s)(S:mq nm X.K C H M)(R:Roo k A.in1)(Y:Rep X.K C H x v)(Z:Rep X.K C H y u)(U:RelV v v')(ru:RelV u u')(h:MW.Py M (k+1) x y=some r) :
 aax A s v' u' r\/(azu v u=true/\r=decide (v=u)):=by
 cases aav h with
 |bl a b=>cases Y;cases Z;exact .inr ⟨rfl,by by_cases z:a=b<;>simp[z]⟩|int a b=>cases Y;cases Z;exact .inr ⟨rfl,by by_cases z:a=b<;>simp[z]⟩|str a b=>cases Y;cases Z;exact .inr ⟨rfl,by by_cases z:a=b<;>simp[z]⟩
 |@tup ds es _ h=>cases Y with
  |@tup p _ vs e1 r1=>cases Z with
   |@tup p2 _ ws e2 r2 =>
    cases U;cases ru;obtain⟨is,g1,J,_⟩:=I.tuple (Gu.of e1);obtain⟨L,g2,G,_⟩:=I.tuple (Gu.of e2);have z:=aax.O3 (A:=A) (G5 (MW.Py M k) ds es) (show s.heap.IsTuple p is.toArray from J) (show s.heap.IsTuple p2 L.toArray from G) (Y6 I S R r1 r2 g1 g2 h);rw[(Ia h).2];have z1:is.toArray.size=ds.length:=by simp[<- g1.length,<- r1.length]
    have z2:L.toArray.size=es.length:=by simp[<- g2.length,<- r2.length]
    rw[z1,z2] at z;exact .inl z
 |lst h1 h2 h3=>exact .inl (afl I S R Y Z U ru h1 h2 h3)
def aax.rc(h:aax A s v u r)(hu:A.units<cLine):SeqAt.RcAt A s v u r/\SeqAt.RcNeAt A s v u (!r):=by
 cases h with
 |O3 e G Z U=>exact⟨SeqAt.RcAt.tuples G Z hu U,SeqAt.RcNeAt.tuples G Z hu U⟩|a8k e G Z R U=>exact⟨SeqAt.RcAt.lists G Z R hu U,SeqAt.RcNeAt.lists G Z R hu U⟩|lens G Z R=>exact⟨SeqAt.RcAt.lists_lengths G Z R hu,SeqAt.RcNeAt.lists_lengths G Z R hu⟩
def bep(U:Roo 6 X.A):Dd X (compareOp .Eq) (Xj nm X.K .eq):=λZ s σ H v u v' u' Q I G R hh=>by
 obtain⟨ι,M,x,y,b,S,rx,ry,e,q⟩:=hh;have e:MW.Py M 6 x y=some b:=e;rcases ac1 (A:=X.A) I S U.in1 rx ry G R e with h|⟨h1,h2⟩
 .exact(h.rc U.Wn).1 X.prog X.w X.xe _ ⟨.bl b,H,I,rfl,q⟩
 .subst h2
  exact a6e Z s σ H v u v' u' Q I G R ⟨h1,q⟩
def ber(U:Roo 6 X.A):Dd X (compareOp .NotEq) (Xj nm X.K .ne):=λZ s σ H v u v' u' Q I G R hh=>by
 obtain⟨ι,M,x,y,b,S,rx,ry,e,q⟩:=hh;obtain⟨b',e1,e2⟩:=bw.mp (show(MW.u9 M x y).map not=some b from e);subst e2;rcases ac1 (A:=X.A) I S U.in1 rx ry G R (show MW.Py M 6 x y=_ from e1) with h|⟨h1,h2⟩
 .exact(h.rc U.Wn).2 X.prog X.w X.xe _ ⟨.bl !b',H,I,rfl,q⟩
 .subst h2
  exact a6f Z s σ H v u v' u' Q I G R ⟨h1,q⟩
section
variable{nm:Nm}{W:Lp}{X:Cx}{a b c o:Expr}{a' b' c' o':Ex}{pos pos' apos:Pos}{ι:Io}{H:Hp}{σ:St}{ρ:En}{M M1 M2:dj}{x y:Dv}{es:Ya}{es':Eg}
set_option tactic.hygienic true in
theorem N5:∀{Z:List Dv}{bs:List Bool},MW.T9 M x Z=some bs->bs.length=Z.length/\∀(j:Nat) d,Z[j]?=some d->∃b,bs[j]?=some b/\MW.u9 M d x=some b
 |[],bs,h=>by cases h;exact⟨rfl,λj d e=>by simp at e⟩
 |y::ys,bs,h=>by
  simp only[MW.T9] at h;split at h
  .rename_i a b G Y
   cases h;obtain⟨U,J⟩:=N5 Y;refine⟨by simp[U],λj d e=>?_⟩;cases j with
   |zero=>simp at e;subst e;exact⟨a,rfl,G⟩|succ j=>simpa using J j d (by simpa using e)
  .cases h
def Hd(I:Inv X pins σ H s)(e:aan X.K H p G):(∃o,H p=some (.Jg o (.lst G)))\/(H p=none/\∃(o:Obj)(Z:Xt)(n:Nat),X.K.lookup p=some o/\o.data=.seq Z n/\Vals G Z.toList):=by
 rcases e with h|⟨o,Z,n,h1,_,_,h2,_,h3⟩
 .exact .inl h
 .exact .inr ⟨(I.bs p o (I.mod.kin p o h1)).2,o,Z,n,h1,h2,h3⟩
def a03(I:Inv X pins σ H s)(e:aan X.K H p vs)(e2:aan X.K H p ws):vs=ws:=by
 rcases Hd I e with⟨o,h⟩|⟨h,o,t6,n,h1,h2,h3⟩
 .rcases Hd I e2 with⟨o',Z⟩|⟨Z,_⟩
  .rw[h] at Z;cases Z;rfl
  .rw[h] at Z;cases Z
 .rcases Hd I e2 with⟨o',Z⟩|⟨_,o',qq,n',G,U,R⟩
  .rw[h] at Z;cases Z
  .rw[h1] at G;cases G
   rw[h2] at U;cases U;exact Vals.inj h3 R
mutual
theorem ah5{R:Zp}{s:Shared}(I:Inv X R σ H s)(S:mq nm X.K ι H M):∀{d d':Dv}{v:V},Rep X.K ι H d v->Rep X.K ι H d' v->d=d'
 |_,_,_,.non,r=>by cases r;rfl|_,_,_,.bl b,r=>by cases r;rfl|_,_,_,.int i,r=>by cases r;rfl|_,_,_,.str z,r=>by cases r;rfl
 |_,_,_,.tup e1 r1,r=>by
  cases r with
  |tup Z G =>
   rw[e1] at Z;cases Z;rw[Rf I S r1 G]
  |vl Z n2 G=>rw[e1] at Z;cases Z
  |fz Z G =>
   rcases Hd I Z with⟨o,h⟩|⟨h,_⟩
   .rw[e1] at h;cases h
   .rw[e1] at h;cases h
  |ref Z =>
   obtain⟨u,q,U⟩:=S.mem (bc Z);rw[e1] at U;exact U.elim
 |_,_,_,.vl e1 n1 r1,r=>by
  cases r with
  |tup Z G=>rw[e1] at Z;cases Z
  |vl Z n2 G =>
   rw[e1] at Z;cases Z;rw[Rf I S r1 G]
  |fz Z G =>
   rcases Hd I Z with⟨o,h⟩|⟨h,_⟩
   .rw[e1] at h;cases h
   .rw[e1] at h;cases h
  |ref Z=>exact absurd (bc Z) n1.1
 |_,_,_,.fz e1 r1,r=>by
  cases r with
  |tup Z G =>
   rcases Hd I e1 with⟨o,h⟩|⟨h,_⟩
   .rw[Z] at h;cases h
   .rw[Z] at h;cases h
  |vl Z n2 G =>
   rcases Hd I e1 with⟨o,h⟩|⟨h,_⟩
   .rw[Z] at h;cases h
   .rw[Z] at h;cases h
  |fz Z G =>
   have:=a03 I e1 Z;subst this;rw[Rf I S r1 G]
  |ref Z =>
   obtain⟨u,q,U⟩:=S.mem (bc Z);rcases Hd I e1 with⟨o,h⟩|⟨h,_⟩
   .rw[h] at U;exact U.elim
   .rw[h] at q;cases q
 |_,_,_,.ref e1,r=>by
  cases r with
  |tup Z G =>
   obtain⟨u,q,U⟩:=S.mem (bc e1);rw[Z] at U;exact U.elim
  |vl Z n2 G=>exact absurd (bc e1) n2.1
  |fz Z G =>
   obtain⟨u,q,U⟩:=S.mem (bc e1);rcases Hd I Z with⟨o,h⟩|⟨h,_⟩
   .rw[h] at U;exact U.elim
   .rw[h] at q;cases q
  |ref Z =>
   obtain⟨l1,q1⟩:=ak.mp e1;obtain⟨l2,q2⟩:=ak.mp Z;rw[(zf S.nd).mp (q1.trans q2.symm)]
theorem Rf{G:Zp}{s:Shared}(I:Inv X G σ H s)(S:mq nm X.K ι H M):∀{R Z:List Dv}{U:List V},mz X.K ι H R U->mz X.K ι H Z U->R=Z
 |_,_,_,.nil,r=>by cases r;rfl
 |_,_,_,.cons h t,r=>by
  cases r with
  |cons h2 t2=>rw[ah5 I S h h2,Rf I S t t2]
end
def aay(I:Inv X pins σ H s)(S:mq nm X.K ι H M)(hr:Roo 6 A)(R:mz X.K ι H ds vs)(rv:Vals vs is)(rx:Rep X.K ι H x u)(ru:RelV u u')(h:MW.T9 M x ds=some bs):∃e:Value->Bool,(∀w,w∈is.toArray->SeqAt.EqAt A s w u' (e w))/\∀(j:Nat)(w:Value),is[j]?=some w->bs[j]?=some (e w):=by
 obtain⟨g1,g2⟩:=N5 h;have G:∀(j:Nat)(w:Value),is[j]?=some w->∃b,bs[j]?=some b/\SeqAt.EqAt A s w u' b:=λj w hw=>by
  have lj:j<ds.length:=by rw[R.length,rv.length];exact(ak.mp hw).1
  have gd:ds[j]?=some ds[j]:=by simp[lj]
  obtain⟨b,U,e2⟩:=g2 j _ gd;obtain⟨v,a1,a2⟩:=R.get gd;exact⟨b,U,W7 I S 6 A _ _ v u w u' b hr a2 rx (Vals.afk rv a1 hw) ru e2⟩
 classical
 refine⟨λw=>if hw:∃j:Nat,is[j]?=some w then(bs[hw.choose]?).getD false else false,λw hw=>?_,λj w hw=>?_⟩
 .obtain⟨j,hj,e⟩:=xq (by simpa using hw:w∈is)
  have Z:∃j:Nat,is[j]?=some w:=⟨j,by simp[hj,e]⟩;obtain⟨b,U,e2⟩:=G Z.choose w Z.choose_spec;simp only[dif_pos Z,U,Option.getD_some];exact e2
 .have Z:∃j:Nat,is[j]?=some w:=⟨j,hw⟩
  obtain⟨b,U,e2⟩:=G j w hw;obtain⟨b',e3,e4⟩:=G Z.choose w Z.choose_spec;simp only[dif_pos Z,e3,Option.getD_some];rw[U]
  congr 1
  have lj:j<ds.length:=by rw[R.length,rv.length];exact(ak.mp hw).1
  have lk:Z.choose<ds.length:=by rw[R.length,rv.length];exact(ak.mp Z.choose_spec).1
  have gd:ds[j]?=some ds[j]:=by simp[lj]
  have gk:ds[Z.choose]?=some ds[Z.choose]:=by simp[lk]
  obtain⟨c1,q1,q2⟩:=g2 j _ gd;obtain⟨c2,q3,q4⟩:=g2 Z.choose _ gk;obtain⟨v1,p1,p2⟩:=R.get gd;obtain⟨v2,p3,p4⟩:=R.get gk;have hv:v1=v2:=RelV.inj (Vals.afk rv p1 hw) (Vals.afk rv p3 Z.choose_spec);subst hv;rw[U] at q1;rw[e3] at q3;cases q1;cases q3;have hd:=ah5 I S p2 p4;rw[hd,q4] at q2;exact(iu q2).symm
def aua{is:Zl}{bs:List Bool}(Z:bs.length=is.length)(h:∀(j:Nat) (w:Value),is[j]?=some w->bs[j]?=some (e w)):bs=is.map e:=by
 apply List.ext_getElem?;intro j;rw[ie];cases q:is[j]? with
 |none=>rw[yu (by rw[Z];exact List.getElem?_eq_none_iff.mp q)];rfl|some w=>rw[h j w q];rfl
def aw1{b:Bool}(n:Bool)(hr:Roo 8 X.A)(S:mq nm X.K ι H M)(I:Inv X pins σ H s)(rv:RelV v v')(ru:RelV u u')(rx:Rep X.K ι H x v)(ry:Rep X.K ι H y u)(e:MW.Xk M x y=some b)(q:Q (.bl (cond n (!b) b)) H):wpAny (model X.prog X.w) X.A (compareOp (cond n .NotIn .In) v' u') (EP X pins σ Q) X.xe s:=by
 have qk:∀G,MW.j7 M y=some G->MW.memD M x G=some b->wpAny (model X.prog X.w) X.A (compareOp (cond n .NotIn .In) v' u') (EP X pins σ Q) X.xe s:=λG h1 h2=>by
  obtain⟨bs,e1,e2⟩:=bw.mp (show(MW.T9 M x G).map (·.any id)=some b from h2);obtain⟨p,vs,rfl,hp,r⟩:=Hf S ry h1;cases ru;have fin:∀{is:Zl}{f:Value->Bool},Vals vs is->(∀(j:Nat)(w:Value),is[j]?=some w->bs[j]?=some (f w))->is.toArray.any f=b:=fun{is f} Z R=>by have:=aua (by rw[(N5 e1).1,r.length,Z.length]) R;rw[this] at e2;rw[<- e2];simp[List.any_map]
  rcases hp with hp|hp
  .obtain⟨is,Z,U,_⟩:=I.list (Gm.of hp)
   obtain⟨f,g1,R⟩:=aay (A:=X.A.in1) I S ((hr.mono (by decide:7<=8)).in1) r Z rx rv e1;have a:=fin Z R;subst a;cases n with
   |false=>exact SeqAt.in_listAt f U.isList g1 ⟨.bl _,H,I,rfl,q⟩|true=>exact SeqAt.notIn_listAt f U.isList g1 ⟨.bl _,H,I,rfl,q⟩
  .obtain⟨is,Z,U,_⟩:=I.tuple (Gu.of hp)
   obtain⟨f,g1,R⟩:=aay (A:=X.A.in1) I S ((hr.mono (by decide:7<=8)).in1) r Z rx rv e1;have a:=fin Z R;subst a;cases n with
   |false=>exact SeqAt.in_tupleAt f (show s.heap.IsTuple p is.toArray from U) g1 ⟨.bl _,H,I,rfl,q⟩
   |true=>exact SeqAt.notIn_tupleAt f (show s.heap.IsTuple p is.toArray from U) g1 ⟨.bl _,H,I,rfl,q⟩
 have qq:(MW.j7 M y).bind (MW.memD M x)=some b->wpAny (model X.prog X.w) X.A (compareOp (cond n .NotIn .In) v' u') (EP X pins σ Q) X.xe s:=λe=>by obtain⟨G,h1,h2⟩:=jc.mp e;exact qk G h1 h2
 exact qq e
def bet(R:Roo 8 X.A):Dd X (compareOp .In) (Xj nm X.K .inn):=λZ s σ H v u v' u' Q I G ru hh=>by obtain⟨ι,M,x,y,b,S,rx,U,e,q⟩:=hh;exact aw1 false R S I G ru rx U e q
def aub(hr:Roo 8 X.A):Dd X (compareOp .NotIn) (Xj nm X.K .Xz):=λZ s σ H v u v' u' Q I U ru hh=>by obtain⟨ι,M,x,y,c,S,rx,R,e,q⟩:=hh;obtain⟨b,G,rfl⟩:=bw.mp (show(MW.Xk M x y).map not=some c from e);exact aw1 true hr S I U ru rx R G q
end
def rM(R:Nm)(K:Fg)(m:Bm):V->List V->Hp->VK->Prop:=λv vs H Q=>∃G M x ds d M',mq R K G H M/\Rep K G H x v/\mz K G H ds vs/\MW.Fw m x ds M=.ok d M' /\
 ∀Z U w,Le G H Z U->mq R K Z U M'->Rep K Z U d w->Q w U
set_option tactic.hygienic true in
theorem api{id:String}(hT:∀J H M x v,mq nm X.K J H M->Rep X.K J H x v->MW.Lh m x M=true->tyV X.K T v H)(pa:PlainAttrs T)(Z:Slot T name id)(C:typeOf (.builtin id)=pure (.type "method_descriptor"))(hm:MtR X id (rM nm X.K m))(ho:PE X o (tE nm W X.K o'))(ha:PA X (e::es) (tEs nm W X.K u))(L:attributeBase o name X.env (eval o X.env)=eval o X.env)(U:((backTo G (starEach (e::es) X.env)).all (λx=>!x.1)&&(backToKw G (keywordEach [] X.env)).all (λx=>x.1.isSome)
&&decide ((e::es).length+([]:List Keyword).length+(if([]:List Keyword).isEmpty then 0 else 1)<30))=true)(q0:(apos.endLine==G.line)=true)(hs:starEach (e::es) X.env=(false,eval e X.env)::starEach es X.env)(qq:(backTo G (starEach es X.env)).any (·.1)=false) :
 PE X (.Call (.Attribute o name apos) (e::es) [] G) (tE nm W X.K (.bm m o' u)) :=
 PE.of (a66 pa Z C hm ho ha L U q0 hs qq) fun σ H Q J ρ M d M' S R e q=>by
  rw[MW.axq] at e;obtain⟨x,M1,e1,e⟩:=dz e;split at e
  .rename_i ht
   obtain⟨ds,M2,e2,e⟩:=dz e;exact one S R e1 λY H1 v le S1 R1 r=>⟨hT Y H1 M1 x v S1 r ht,Y,ρ,M1,ds,M2,S1,R1,e2,λqk H2 vs zb S2 rs=>⟨qk,M2,x,ds,d,M',S2,r.mono zb,rs,e,λqv H' w Wt S' r'=>q qv H' w ((le.trans zb).trans Wt) S' r'⟩⟩
  .cases e
def ah6(h:MW.onL o M f=.ok d M'):∃n Z,o=.ref n/\M[n]?=some (.lst Z)/\f n Z=.ok d M':=by
 cases o with
 |ref n =>
  simp only[MW.onL] at h;cases e:M[n]? with
  |none=>rw[e] at h;cases h
  |some o=>cases o with
   |lst Z=>rw[e] at h;exact⟨n,Z,rfl,e,h⟩|_=>rw[e] at h;cases h
 |_=>cases h
def Su{Z:List Dv}(h:MW.Fv Z g=.ok d M'):∃x,Z=[x]/\g x=.ok d M':=by
 match Z,h with
 |[x],h=>exact⟨x,rfl,h⟩|[],h=>cases h|_::_::_,h=>cases h
def aaz{c:Prop}[Decidable c]{r:Res α}(h:(if c then r else .bad)=.ok d M'):c/\r=.ok d M':=by
 by_cases z:c
 .rw[cg z] at h;exact⟨z,h⟩
 .rw[bz z] at h;cases h
def ty_list{X:Cx}(S:mq nm X.K G H M)(r:Rep X.K G H x v)(h:(MW.fj M x).isSome=true):tyV X.K "list" v H:=by obtain⟨ds,U⟩:=iz.mp h;obtain⟨p,Z,rfl,R,_⟩:=ue S r U;exact .inl ⟨rfl,Z,Gm.of R⟩
def apj:MtR X "list.append" (rM nm X.K .append):=λZ s σ H v vs u us Q I ru Pj hh=>by
 obtain⟨ι,M,x,ds,d,M',S,r,rs,e,q⟩:=hh;obtain⟨n,xs,rfl,U,e1⟩:=ah6 e;obtain⟨d0,rfl,e2⟩:=Su e1;obtain⟨hl,e3⟩:=aaz e2;cases e3;cases r with
 |ref G =>
  obtain⟨ys,h3,R⟩:=S.obj n _ _ U G;cases rs with
  |cons hd ht =>
   cases ht;refine Yx Z s σ H _ _ u us Q I ru Pj ⟨_,ys,_,rfl,rfl,h3,by rw[<- R.length];exact Rc hl,?_⟩;obtain⟨S2,zb⟩:=S.put (u:=.lst (ys++[_])) (o:=.lst (xs++[_])) U G λle=>⟨_,q9,(R.mono le).append (.cons (hd.mono le) .nil)⟩
   exact q _ _ _ zb S2 .non
def apk:MtR X "list.extend" (rM nm X.K .extend):=λG s σ H v vs u us Q I ru Pj hh=>by
 obtain⟨ι,M,x,ds,d,M',S,r,rs,e,q⟩:=hh;obtain⟨n,xs,rfl,hM,e1⟩:=ah6 e;obtain⟨y,rfl,U⟩:=Su e1;cases hy:MW.fj M y with
 |none=>rw[hy] at U;cases U
 |some zs =>
  rw[hy] at U;obtain⟨⟨_,hl⟩,e3⟩:=aaz U;cases e3;cases r with
  |ref R =>
   obtain⟨ys,h3,h4⟩:=S.obj n _ _ hM R;cases rs with
   |cons hd ht =>
    cases ht;obtain⟨b,Z,rfl,h5,h6⟩:=ue S hd hy;refine aj1 G s σ H _ _ u _ Q I ru Pj ⟨_,b,ys,Z,rfl,rfl,h3,h5,by rw[<- h4.length,<- h6.length];exact Am (Rc hl),?_⟩;obtain⟨S2,zb⟩:=S.put (u:=.lst (ys++Z)) (o:=.lst (xs++zs)) hM R λle=>⟨_,q9,(h4.mono le).append (h6.mono le)⟩
    exact q _ _ _ zb S2 .non
set_option tactic.hygienic true in
theorem ints_rep{L:Io}{H:Hp}{K:Fg}:∀{U:List Dv}{Y:List V}{is:Zl}{J:X9},mz K L H U Y->Vals Y is->MW.X5 U=some J->∃Z:Array (Int×Tok),is.toArray=intItems Z/\Z.toList.map (·.1)=J
 |_,_,_,_,.nil,.nil,h=>by cases h;exact⟨#[],by simp[intItems],rfl⟩
 |_,_,_,_,.cons r t,.cons rv tv,h=>by
  cases r<;>simp only[MW.X5] at h<;>try cases h
  rename_i i;obtain⟨C,R,S⟩:=bw.mp h;obtain⟨Z,g1,u⟩:=ints_rep t tv R;obtain⟨tk,rfl⟩:=rv;refine⟨#[(i,tk)]++Z,?_,by simp[u,S]⟩;have G:=o9 Array.toList g1;apply Array.toList_inj.mp;simp[intItems] at G ⊢;exact G
theorem ac2:∀(l:X9)(z m:Int),(m=z\/m∈l)->z<=m->(∀a∈l,a<=m)->l.foldl (λm x=>if m<x then x else m) z=m
 |[],z,m,h,_,_=>by rcases h with h|h;exact h.symm;cases h
 |a::l,z,m,h,hz,Ov=>by
  rw[Ad];have U:=Ov a cz;refine ac2 l _ m ?_ (by split<;>lia) (λb G=>Ov b (bh _ G));rcases h with h|h
  .subst h;left;split<;>lia
  .rcases dh.mp h with h|h
   .subst h
    by_cases Z:z<m
    .left;rw[cg Z]
    .left;rw[bz Z];lia
   .exact .inr h
theorem ac3:∀(l:X9)(z m:Int),(m=z\/m∈l)->m<=z->(∀a∈l,m<=a)->l.foldl (λm x=>if x<m then x else m) z=m
 |[],z,m,h,_,_=>by rcases h with h|h;exact h.symm;cases h
 |a::l,z,m,h,hz,Ov=>by
  rw[Ad];have U:=Ov a cz;refine ac3 l _ m ?_ (by split<;>lia) (λb G=>Ov b (bh _ G));rcases h with h|h
  .subst h;left;split<;>lia
  .rcases dh.mp h with h|h
   .subst h
    by_cases Z:m<z
    .left;rw[cg Z]
    .left;rw[bz Z];lia
   .exact .inr h
def auc(e:MW.two ds f g M=.ok d Z):Z=M/\((∃i j,ds=[.int i,.int j]/\d=.int (f i j))\/∃x m,ds=[x]/\g x=some m/\d=.int m):=by
 cases ds with
 |nil=>cases e
 |cons x r=>cases r with
  |nil =>
   obtain⟨G,e2⟩:=uo (show Res.q8 ((g x).map MW.D.int) M=.ok d Z from e);obtain⟨m,R,U⟩:=bw.mp G;exact⟨e2,.inr ⟨x,m,rfl,R,U.symm⟩⟩
  |cons y r=>cases r with
   |nil =>
    cases x<;>try cases e
    cases y<;>cases e;exact⟨rfl,.inl ⟨_,_,rfl,rfl⟩⟩
   |cons _ _=>cases e
def ac4{h:List Int->Option Int}(e:MW.two ds f (λd=>((MW.j7 M d).bind MW.X5).bind h) M=.ok d M'):M'=M/\((∃i j,ds=[.int i,.int j]/\d=.int (f i j))\/∃x G n Z m,ds=[x]/\MW.j7 M x=some G/\MW.X5 G=some (n::Z)/\h (n::Z)=some m/\d=.int m\/h []=some m):=by
 obtain⟨a,b|⟨x,m,h3,h4,R⟩⟩:=auc e
 .exact⟨a,.inl b⟩
 .obtain⟨Z,e5,U⟩:=jc.mp h4
  obtain⟨G,e7,e8⟩:=jc.mp e5;cases Z with
  |nil=>exact⟨a,.inr ⟨x,G,0,[],m,.inr U⟩⟩|cons n Z=>exact⟨a,.inr ⟨x,G,n,Z,m,.inl ⟨h3,e7,e8,U,R⟩⟩⟩
def afm(h:Vals [v] Z):∃u,Z=[u]/\RelV v u:=L2.Vals.one h
def Y7(h:i<Z.size):(Z.toList.map (·.1))[i]?=some (numAt Z i):=by simp[numAt,h]
def best{Z:Array (Int×Tok)}{R:Int->Int->Prop}(g2:Z.toList.map (·.1)=n::l)(h:b<Z.size)(b2:∀i,i<Z.size->R (numAt Z i) (numAt Z b)):(numAt Z b=n\/numAt Z b∈l)/\∀a∈n::l,R a (numAt Z b):=by
 constructor
 .have:=bc (Y7 h)
  rw[g2] at this;exact dh.mp this
 .intro a ha
  rw[<- g2] at ha;obtain⟨i,G⟩:=n6.mp ha;have U:i<Z.size:=by have:=(ak.mp G).1;simpa using this
  rw[Y7 U] at G;cases G;exact b2 i U
def ah7(r:mz K ι H [.int i,.int j] Z):Z=[.int i,.int j]:=by
 cases r with
 |cons R t1=>cases t1 with
  |cons G U=>cases U;cases R;cases G;rfl
def ah8(I:Inv X pins σ H s)(S:mq nm X.K ι H M)(r:mz X.K ι H [x] vs)(Pj:Vals vs us)(e1:MW.j7 M x=some xs)(e2:MW.X5 xs=some (n::ns)):∃a Z,us=[.ref a]/\(s.heap.IsList a (intItems Z)\/s.heap.IsTuple a (intItems Z))/\Z.toList.map (·.1)=n::ns/\0<Z.size:=by
 obtain⟨v,rfl,rv⟩:=Nz r rfl;obtain⟨u,rfl,ru⟩:=afm Pj;obtain⟨p,ws,rfl,R,rl⟩:=Hf S rv e1;cases ru;have fin:∀{Z:Array (Int×Tok)},Z.toList.map (·.1)=n::ns->0<Z.size:=fun{Z} g=>by have:=o9 List.length g;simp at this;lia
 rcases R with R|R
 .obtain⟨is,G,pl,_⟩:=I.list (Gm.of R)
  obtain⟨Z,g1,U⟩:=ints_rep rl G e2;exact⟨_,Z,rfl,.inl (by rw[<- g1];exact pl.isList),U,fin U⟩
 .obtain⟨is,G,pl,_⟩:=I.tuple (Gu.of R)
  obtain⟨Z,g1,U⟩:=ints_rep rl G e2;exact⟨_,Z,rfl,.inr (by rw[<- g1];exact pl),U,fin U⟩
def Y8{s:Shared}{Z:Heap}{R:Obj}(G:∀b o,b∉[s.heap.objs.size]->(s.heap.push R).get? b=some o->Z.get? b=some o):∀b o,s.heap.get? b=some o->Z.get? b=some o:=λb o e =>
 G b o (λU=>absurd (jm.mp U▸az e) (m8 _)) (aq _ e)
def apl{s:Shared}{U:Obj}(G:l<s.heap.objs.size):∀b∈[s.heap.objs.size,l],b<(s.heap.push U).objs.size:=λb Z=>by
 rw[j5];simp only[dh,yg,or_false] at Z;rcases Z with rfl|rfl
 .exact ud _
 .exact Nat.lt_succ_of_lt G
def aud{A:Around}{E:Y1}{Q:Y1}(hh:A.handled=none)(G:s.heap.IsList l (intItems Z)\/s.heap.IsTuple l (intItems Z))(Pb:0<Z.size)
 (h:∀v U R,(intItems Z)[argBest (λi j=>decide (numAt Z i > numAt Z j)) (Z.size-1)]?=some v->(∀b o,s.heap.get? b=some o->U.get? b=some o)->Q v { s with heap:=U,toks:=R }) :
 wpAny (model prog w) A (call (.builtin "max") [.ref l]) Q E s:=by
 rcases G with G|G
 .exact max_intList hh G Pb h
 .have Nj:l<s.heap.objs.size:=by obtain⟨_,e,_⟩:=G;exact az e
  refine call_max_walk (o5 G ⟨_,_,_,_,_,_,_,rfl,Walks.tuple (A:=A.in1) hh _ l (gh Nj) (intItems Z),⟨⟨_,bj _ rfl,rfl,rfl⟩,G.at λo e=>aq _ e⟩,apl Nj,by simpa[intItems] using Pb,CmpOf.ints_gt (numAt Z) (λ_ _=>intItems_at),λv U R hP hk=>?_⟩);exact h v U R (by simpa[intItems] using hP) (Y8 hk)
def aue{A:Around}{E:Y1}{Q:Y1}(hh:A.handled=none)(G:s.heap.IsList l (intItems Z)\/s.heap.IsTuple l (intItems Z))(Pb:0<Z.size)
 (h:∀v U R,(intItems Z)[argBest (λi j=>decide (numAt Z i<numAt Z j)) (Z.size-1)]?=some v->(∀b o,s.heap.get? b=some o->U.get? b=some o)->Q v { s with heap:=U,toks:=R }) :
 wpAny (model prog w) A (call (.builtin "min") [.ref l]) Q E s:=by
 rcases G with G|G
 .exact min_intList hh G Pb h
 .have Nj:l<s.heap.objs.size:=by obtain⟨_,e,_⟩:=G;exact az e
  refine call_min_walk (o5 G ⟨_,_,_,_,_,_,_,rfl,Walks.tuple (A:=A.in1) hh _ l (gh Nj) (intItems Z),⟨⟨_,bj _ rfl,rfl,rfl⟩,G.at λo e=>aq _ e⟩,apl Nj,by simpa[intItems] using Pb,CmpOf.ints_lt (numAt Z) (λ_ _=>intItems_at),λv U R hP hk=>?_⟩);exact h v U R (by simpa[intItems] using hP) (Y8 hk)
def a8l(hc:X.calm=true):Bw X (.builtin "max") (rB nm X.K .max):=λG s σ H vs us Q I Pj hh=>by
 obtain⟨ι,M,ds,d,M',S,r,e,q⟩:=hh;obtain⟨rfl,⟨i,j,rfl,rfl⟩|⟨x,xs,n,l,m,⟨rfl,e1,e2,U,rfl⟩|U⟩⟩:=ac4 (h:=MW.arb) e
 .cases ah7 r
  exact ajq hc G s σ H _ us Q I Pj ⟨i,j,rfl,q ι H _ (Le.refl _ _) S (.int _)⟩
 .obtain⟨a,xa,rfl,pl,g2,Pb⟩:=ah8 I S r Pj e1 e2
  refine aud (I.ok.hd hc) pl Pb λw h' tk hw Z=>?_
  obtain⟨t,rfl⟩:=intItems_at hw;obtain⟨b1,b2⟩:=argBest_gt (numAt xa) (xa.size-1);obtain⟨c1,c2⟩:=best (R:=(·<=·)) g2 (by omega) λi hi=>b2 i (by lia)
  cases U;rw[ac2 l n _ c1 (c2 n cz) λa h=>c2 a (bh _ h)] at q;exact⟨.int _,H,I.kept Z,⟨t,rfl⟩,q ι H _ (Le.refl _ _) S (.int _)⟩
 .cases U
def Rg(n d:Nat)(o:Option Int):HT.Gv n d o=MW.clip n d o:=by
 cases o with
 |none=>rfl
 |some i =>
  show(if i<0 then(i+(n:Int)).toNat else min i.toNat n)=(if 0<=i then min i.toNat n else(i+(n:Int)).toNat)
  by_cases h:i<0
  .rw[cg h,bz (by lia)]
  .rw[bz h,cg (by lia)]
def tO(R:Nm)(W:Lp)(K:Fg)(o:OEx):TO:=fun σ H Q=>∃G ρ M d M',mq R K G H M/\qm K G H ρ σ/\o.den W ρ M=.ok d M'/\∀Z U,Le G H Z U->mq R K Z U M'->Q d U
def PO.weak(h:PO X e t)(w:∀G H Q,t' G H Q->t G H Q):PO X e t':=λZ s G H Q I q=>h Z s G H Q I (w G H Q q)
def PO.of(h:PO X e t)(w:∀U H Q Z ρ M d M',mq nm X.K Z H M->qm X.K Z H ρ U->o'.den W ρ M=.ok d M'->(∀G H',Le Z H G H'->mq nm X.K G H' M'->Q d H')->t U H Q):PO X e (tO nm W X.K o'):=PO.weak h λU H Q z_=>by obtain⟨Z,ρ,M,d,M',S,R,e,q⟩:=z_;exact w U H Q Z ρ M d M' S R e q
def auf:PO X none (tO nm W X.K .none):=PO.of ate λU H Q Z ρ M d G S R e q=>by rw[MW.X7] at e;cases e;exact q Z H (Le.refl _ _) S
set_option tactic.hygienic true in
def auh(J:PE X a (tE nm W X.K Y)):PO X (some a) (tO nm W X.K (.some Y)):=PO.of (aht J) fun σ H Q L ρ M d u S R e q=>by rw[MW.X8] at e;obtain⟨x,M1,G,e⟩:=dz e;split at e<;>cases e;rename_i i;exact one S R G λZ C v le U R1 r=>by cases r;exact⟨i,rfl,q Z C le U⟩
set_option tactic.hygienic true in
def a8m(ha:PE X a (tE nm W X.K a'))(hl:PO X lo (tO nm W X.K qq))(hh:PO X hi (tO nm W X.K q0)):PE X (.Subscript a (.Slice lo hi none p2) pos) (tE nm W X.K (.cut a' qq q0)) :=
 PE.of (aoi (SlR.or atg az3) ha hl hh) fun σ H Q ι ρ M d M' S R e q=>by
  rw[MW.af3] at e;obtain⟨x,M1,e1,e⟩:=dz e;obtain⟨l,M2,e2,e⟩:=dz e;obtain⟨h,M3,e3,e⟩:=dz e;obtain⟨C,e5⟩:=uo e;subst e5;refine one S R e1 λqk H1 v le S1 R1 r=>⟨qk,ρ,M1,l,M2,S1,R1,e2,λqv H2 zb S2=>⟨qv,ρ,M2,h,_,S2,R1.mono zb,e3,λU H3 T4 L=>?_⟩⟩
  have r3:=(r.mono zb).mono T4;have fin:=λq1 H' w Wt S' r'=>q q1 H' w (((le.trans zb).trans T4).trans Wt) S' r'
  have lst:∀Z,MW.fj M' x=some Z->d=.vl (MW.Oz Z l h)->a6z X.K v l h H3 Q:=λZ hd ed=>by
   obtain⟨p,vs,rfl,u,J⟩:=ue L r3 hd;refine⟨p,vs,rfl,Gm.of u,λp' G=>?_⟩;have:mz X.K U H3 (MW.Oz Z l h) (Ue vs l h):=by unfold MW.Oz Ue;rw[Rg,Rg,<- J.length];exact(J.drop _).take _
   obtain⟨S4,Y,r4⟩:=Wv (X:=X) L G this;subst ed;exact fin _ _ _ Y S4 r4
  cases x with
  |tup Z =>
   right
   simp only[MW.Va] at C;cases C;cases r3 with
   |@tup p _ vs u J =>
    have:mz X.K U H3 (MW.Oz Z l h) (Ue vs l h):=by unfold MW.Oz Ue;rw[Rg,Rg,<- J.length];exact(J.drop _).take _
    refine⟨p,vs,rfl,Gu.of u,λz1 z2=>?_,λp' G=>?_⟩
    .have e:Ue vs l h=vs:=by
      unfold Ue;rw[z1,z2];simp
     rw[e] at this;exact fin _ _ _ (Le.refl _ _) L (.tup u this)
    .obtain⟨S4,Y,r4⟩:=Hc (X:=X) L G this
     exact fin _ _ _ Y S4 r4
  |_ =>
   left
   simp only[MW.Va] at C;obtain⟨Z,hd,ed⟩:=bw.mp C;exact lst Z hd ed.symm
def a8n(hc:X.calm=true):Bw X (.builtin "min") (rB nm X.K .min):=λG s σ H vs us Q I Pj hh=>by
 obtain⟨ι,M,ds,d,M',S,r,e,q⟩:=hh;obtain⟨rfl,⟨i,j,rfl,rfl⟩|⟨x,xs,n,l,m,⟨rfl,e1,e2,U,rfl⟩|U⟩⟩:=ac4 (h:=MW.axl) e
 .cases ah7 r
  exact ajr hc G s σ H _ us Q I Pj ⟨i,j,rfl,q ι H _ (Le.refl _ _) S (.int _)⟩
 .obtain⟨a,xa,rfl,pl,g2,Pb⟩:=ah8 I S r Pj e1 e2
  refine aue (I.ok.hd hc) pl Pb λw h' tk hw Z=>?_
  obtain⟨t,rfl⟩:=intItems_at hw;obtain⟨b1,b2⟩:=argBest_lt (numAt xa) (xa.size-1);obtain⟨c1,c2⟩:=best (R:=λa b=>b<=a) g2 (by omega) λi hi=>b2 i (by lia)
  cases U;rw[ac3 l n _ c1 (c2 n cz) λa h=>c2 a (bh _ h)] at q;exact⟨.int _,H,I.kept Z,⟨t,rfl⟩,q ι H _ (Le.refl _ _) S (.int _)⟩
 .cases U
def W8(K:Fg)(T:String):PySem.W.kitOne K (.type T) (.type T)=some true:=by unfold PySem.W.kitOne;rw[cg (by simp)]
def spE(U:Nm)(W:Lp)(K:Fg)(n f:Nat):Sp:=λvs H _ E=>∃G M R c M',mq U K G H M/\mz K G H R vs/\R.length=n/\W.Uj f R M=some (c,M')/\∀C,U.xc c=some C->∀Z H',Le G H Z H'->mq U K Z H' M'->E (.ref C) none H'
set_option tactic.hygienic true in
def a8o{X:Cx}(F:Dp X.prog X.w X.K X.mg X.base CX0 k fa fd ps (spF nm W X.K n f))(FE:Dp X.prog X.w X.K X.mg X.base (CXE X.prog X.w) k fa fd ps (spE nm W X.K n f))(qv:X.ex=[])(u:XOn X EX)(hr:Fj k X.A)(hg:Gl X x)(hm:X.mg x=some (.ref fa))(hk:PySem.W.keepIn X.K (.ref fa)=true)(hb:Binds X.K fd ps [])(Y:Eg.len G=n)(ha:PA X (a::es) (tEs nm W X.K G))(Ph:(x==("__debug__" : Str))=false)(he:starEach (a::es) X.env=(false,eval a X.env)::starEach es X.env)(K5:(backTo pos (starEach es X.env)).any (·.1)=false)(hs:swapsWith (.Call (.Name x p) (a::es) [] pos) none pos'.line X.env=pure false) :
 PS X (.Expr (.Call (.Name x p) (a::es) [] pos) pos') (tS nm W X.K EX (.exq f G)):=λZ s σ H D I hh=>by
 obtain⟨ι,ρ,M,fl,L,M',S,R,e,q⟩:=hh;rw[MW.axt] at e;obtain⟨U,M1,J,e⟩:=dz e;cases hc:W.Uj f U M1 with
 |some cM =>
  obtain⟨c,M2⟩:=cM;rw[hc] at e;cases e;refine ahg (ahn (E:=EX) FE hr hg hm hk hb .nil (a7h qv u) ha Ph he K5) hs Z s σ H D I ?_;refine W0 S R J λqq H1 vs le S1 R1 r=>?_
  rw[kh];refine⟨qq,M1,U,c,M',S1,r,(Hz J).trans Y,hc,λC hC qk H' Wt S'=>?_⟩;exact q qk H' σ (le.trans Wt) S' (R1.mono Wt) C hC
 |none =>
  rw[hc] at e;obtain⟨d,M2,e2,e⟩:=dz e;refine apa (s_call F hr hg hm hk hb Y ha Ph he K5) hs Z s σ H D I ⟨ι,ρ,M,fl,L,M',S,R,?_,q⟩;rw[MW.Zn,MW.Vf,J];show((W.call f U M1).bind _)=_;rw[e2];exact e
def aui{X:Cx}{U bmN:Zl}{B Bn Z qk G q2:String}{C:Addr}{np Ln q1 cp:Pos}{j:Nat}{qv:Str}(Fn:ExcBaseFacts Bn Z q2 bmN)(q0:U.contains (.type Bn)=true)(FB:ExcBaseFacts B qk G U)(hc:aj5 X.K C U Z)(hn:aow X EX)(Ft:X.calm=true)(hg:Gl X x)(hm:X.mg x=some (.ref C))(Ph:(x==("__debug__" : Str))=false)(qq:nm.xc c=some C) :
 PS X (.Raise (some (.Call (.Name x np) [.Constant (.str qv) j cp] [] Ln)) none q1) (tS nm W X.K EX (.raise c)) :=
 PS.of (aoy Fn q0 FB hc hn Ft hg hm (ahm anf anw) Ph rfl rfl) λD σ H ι ρ M fl q3 M' S R e q=>by rw[MW.alj] at e;cases e;exact⟨by show 1<=sizeLine;decide,q ι H σ (Le.refl _ _) S R C qq⟩
set_option tactic.hygienic true in
def a8p{X:Cx}{J:List Stmt}{b0:Stmt}{Y:List Stmt}{mx n:Str}{np hp q4:Pos}{B:Addr}{i:Nat}(q5:X.ex=[])(T8:X.stack=X.env::X.outer/\X.env.frame=some X.env.locals)
 (hN:X.N.Nodup) (hi:X.N[i]?=some n) (hl:X.env.scope.names.lookup n=some .local) (hg:Gl X mx) (hm:X.mg mx=some (.ref B)) (Ph:(mx==("__debug__" : Str))=false)
 (hb:∀pn xe E,XOn (xb X pn xe) E->Nx (xb X pn xe) J (tSs nm W X.K E b')) (hh:∀pn e,Nx (xh X pn e) (b0::Y) (tSs nm W X.K (λ_ _ _=>False) h')) (q3:∀c C,nm.xc c=some C->afh X.K C B=true) :
 PS X (.Try J [.ExceptHandler (some (.Name mx np)) (some n) (b0::Y) hp] [] [] q4) (tS nm W X.K EX (.try_ b' i h')) :=
 PS.of (a0j q5 T8 hN hi hl hg hm Ph hb hh) λD σ H ι ρ M fl q2 M' S R e q=>by
  have e:(b'.den W ρ M).bind (λp L=>match p.1 with
   |.err c=>(h'.den W ((List.replicate ρ.length none).set i (some (.ref L.length))) (L++[.exc c])).bind λq M2=>match q.1 with
    |.ret d=>.ok (.ret d,List.replicate ρ.length none) M2|_=>.bad
   | f=>.ok (f,p.2) L)=.ok (fl,q2) M':=e
  obtain⟨⟨qq,q1⟩,L,e1,e⟩:=dz e;refine⟨ι,ρ,M,qq,q1,L,S,R,e1,λZ U G le S1 R1=>?_⟩;cases qq with
  |next=>cases e;exact q Z U G le S1 R1|brk=>cases e;exact q Z U G le S1 R1|cont=>cases e;exact q Z U G le S1 R1|ret d=>cases e;exact q Z U G le S1 R1
  |err c =>
   obtain⟨⟨qv,q6⟩,M2,e2,e⟩:=dz e;intro C hC;refine⟨C,rfl,q3 c C hC,λe0 qk=>?_⟩;obtain⟨S2,zb⟩:=S1.new (o:=.exc c) (H':=upd U e0 (.ext (XAt e0 C))) qk (λa u z=>by rw[jx (ni z qk)];exact z) λ_=>⟨C,q9,hC⟩
   have rp:Rep X.K (Z.add e0) (upd U e0 (.ext (XAt e0 C))) (.ref L.length) (.ref e0):=.ref (by show(Z.l++[e0])[L.length]?=some e0;rw[<- S1.len];simp);have R0:qm X.K (Z.add e0) (upd U e0 (.ext (XAt e0 C))) (List.replicate ρ.length none) (List.replicate σ.length none):=qm.acp _ (by rw[nu,R.length]);refine⟨_,_,_,qv,q6,M2,S2,R0.set rp i,e2,λq0 H3 q7 T4 S3 R3=>?_⟩;cases qv with
   |ret d=>cases e;exact q q0 H3 (List.replicate ρ.length none) ((le.trans zb).trans T4) S3 (qm.acp _ (by simp))|_=>cases e
set_option tactic.hygienic true in
def auj(h:MW.ph (.Zi k) [x] M=.ok d Z):∃n c,x=.ref n/\M[n]?=some (.exc c)/\d=.bl (k==0||c==k)/\Z=M:=by
 cases x with
 |ref n =>
  simp only[MW.ph,MW.Fv] at h;cases hM:M[n]? with
  |none=>rw[hM] at h;cases h
  |some o =>
   rw[hM] at h;cases o with
   |exc c=>cases h;exact⟨n,c,rfl,hM,rfl,rfl⟩|_=>cases h
 |_=>cases h
set_option tactic.hygienic true in
def aw2{X:Cx}{cv:Value}{kk:Nat}(qq:∀{Y σ H s} {Q:Y1} {E:Y1},Inv X Y σ H s->Q cv s->wpAny (model X.prog X.w) X.A (eval (.Name J G) X.env) Q E s)(hk:∀c C,nm.xc c=some C->PySem.W.kitOne X.K (.ref C) cv=some (kk==0||c==kk)/\aj6 X.K C=true)
 (hg:Gl X n) (hm:X.mg n=none) (hv:bootBuiltins n=some (.builtin "isinstance")) (hn:n≠"__name__") (Ph:(n==("__debug__" : Str))=false) (ha:PE X a (tE nm W X.K a')) (he:starEach [a,.Name J G] X.env=(false,eval a X.env)::starEach [.Name J G] X.env) (qk:starEach [.Name J G] X.env=(false,eval (.Name J G) X.env)::starEach [] X.env) (K5:(backTo pos (starEach [.Name J G] X.env)).any (·.1)=false):PE X (.Call (.Name n p) [a,.Name J G] [] pos) (tE nm W X.K (.blt (.Zi kk) (.cons a' .nil))):=by
 intro Y s σ H Q I hh;obtain⟨ι,ρ,M,d,M',S,R,e,q⟩:=hh;rw[MW.Qa] at e;obtain⟨ds,M1,L,e⟩:=dz e;rw[MW.Cr] at L;obtain⟨x,M2,e2,L⟩:=dz L;rw[MW.Ek] at L;cases L;refine o4 (Kv I hg hm hv ?_ hn Ph);refine xg (Q:=EP X Y σ Q) ?_ he K5;rw[he];show wpAny _ _ (spliced ((false,eval a X.env)::backTo pos (starEach [.Name J G] X.env))) _ _ s;refine Calls.spliced_cons (Bc (ha Y s σ H (λv U=>∃Z,Le ι H Z U/\mq nm X.K Z U M1/\Rep X.K Z U x v) I ⟨ι,ρ,M,x,M1,S,R,e2,λZ U v le S1 r=>⟨Z,le,S1,r⟩⟩) λu s1 z_=>?_);obtain⟨v,U,I1,r1,Z,le,S1,r⟩:=z_;rw[qk];show wpAny _ _ (spliced ((false,eval (.Name J G) X.env)::backTo pos (starEach [] X.env))) _ _ s1;refine Calls.spliced_cons (qq I1 ?_);refine Calls.spliced_nil ?_;obtain⟨n',c,rfl,hc,rfl,rfl⟩:=auj e;cases r with
 |ref ea =>
  cases r1;obtain⟨C,h1,h2⟩:=S1.obj _ _ _ hc ea;obtain⟨k1,k2⟩:=hk c C h2;have xa:=(I1.yr _ _ h1).1;exact PySem.W.kia_one (ao1 (atq k2)) I1.kIn xa k1 (by intro z;cases z) λtk=>⟨.bl _,U,I1.tok _,rfl,q Z U _ le S1 (.bl _)⟩
set_option tactic.hygienic true in
def auk(h:MW.ph .rev [x] M=.ok d Z):∃a b,x=.tup [a,b]/\d=.tup [b,a]/\Z=M:=by
 simp only[MW.ph,MW.Fv] at h;split at h
 .cases h;exact⟨_,_,rfl,rfl,rfl⟩
 .cases h
set_option tactic.hygienic true in
def a8q{X:Cx}(U:PE X a (tE nm W X.K a'))(hs:PE X st (tC (.int (-1)))):PE X (.Subscript a (.Slice none none (some st) p2) pos) (tE nm W X.K (.blt .rev (.cons a' .nil))) :=
 PE.of (atv U hs) fun σ H Q ι ρ M d M' S R e q=>by
  rw[MW.Qa] at e;obtain⟨ds,M1,Z,e⟩:=dz e;rw[MW.Cr] at Z;obtain⟨x,M2,e2,Z⟩:=dz Z;rw[MW.Ek] at Z;cases Z;obtain⟨y,z,rfl,rfl,rfl⟩:=auk e;refine one S R e2 λG H1 v le L R1 r=>?_
  cases r with
  |tup J r1 =>
   cases r1 with
   |cons ra Y=>cases Y with
    |cons Y rc =>
     cases rc;refine⟨_,_,_,rfl,Gu.of J,λp C=>?_⟩;obtain⟨S2,u,r2⟩:=Hc L C (.cons Y (.cons ra .nil));exact q G _ _ (le.trans u) S2 r2
end Sm
namespace EnT
open PySem PySem.Spec
open AutoSeq1 (wpAny_loadPart')
set_option tactic.hygienic true in
def apm(a:s.heap.IsTupleIter it t i)(b:s.heap.IsTuple t C)(e:C[i]?=some x)(q:∀G,G.IsTupleIter it t (i+1)->Heap.SameBut it s.heap G->Q x { s with heap:=G }):wpAny (model prog w) A (Builtin.SmallTypes.nextOf (.ref it)) Q E s:=by obtain⟨o,Y,J,Z⟩:=id a;obtain⟨u,U,R,S,L⟩:=b;unfold Builtin.SmallTypes.nextOf;refine aa (je (name:=Str.ofString "__next__") a.typeIs qy (jo qy a.typeIs F.entry_tuple_iterator_next ?_ (F.args_tuple_iterator_next_1 _)));show wpAny _ _ (field (.ref it) 0 >>= _) _ _ s;refine aa (d8 Y Z (x:=.ref t) rfl ?_);show wpAny _ _ (if(Value.ref t==Value.none)=true then _ else field (.ref it) 1 >>= _) _ _ s;rw[bz (show ¬((Value.ref t==Value.none)=true) by exact dw)];refine aa (d8 Y Z (x:=.int i 0) rfl (aa (p8 U L ?_)));simp only[jk,e];refine aa (um Y Z (by simp) (aj ⟨x,rfl,aj (q _ ⟨_,lz _ Y (u6 (m6 Z _)),(Obj.cls_mapFields ..).trans J,?_⟩ (jj ..))⟩));rw[m6 Z];simp[rawInt]
set_option tactic.hygienic true in
def aul(U:A.handled=none)(a:s.heap.IsTupleIter it t i)(b:s.heap.IsTuple t C)(e:C[i]?=none)(q:∀Z x,Heap.ExtBut it s.heap Z->(∃o,Z.get? x=some o/\o.cls=.type "StopIteration")->E (.ref x) { s with heap:=Z }):wpAny (model prog w) A (Builtin.SmallTypes.nextOf (.ref it)) Q E s:=by obtain⟨o,G,R,Y⟩:=id a;obtain⟨ol,J,S,u,L⟩:=b;unfold Builtin.SmallTypes.nextOf;refine aa (je (name:=Str.ofString "__next__") a.typeIs qy (jo qy a.typeIs F.entry_tuple_iterator_next ?_ (F.args_tuple_iterator_next_1 _)));show wpAny _ _ (field (.ref it) 0 >>= _) _ _ s;refine aa (d8 G Y (x:=.ref t) rfl ?_);show wpAny _ _ (if(Value.ref t==Value.none)=true then _ else field (.ref it) 1 >>= _) _ _ s;rw[bz (show ¬((Value.ref t==Value.none)=true) by exact dw)];refine aa (d8 G Y (x:=.int i 0) rfl (aa (p8 J L ?_)));simp only[jk,e];refine aa (wpAny_rule (aa (um G Y (by simp) ?_)));show wpAny _ _ (newExc (.type "StopIteration") [] >>= raiseNew) _ _ _;exact STb.Zc U λZ x k e=>q Z x (λb o n z=>k b o ((jj ..).extBut b o n z)) e
def ItB(b:Bool)(h:Heap)(it a:Addr)(i:Nat):Prop:=cond b (h.IsTupleIter it a i) (h.IsListIter it a i)
def SqB(b:Bool)(h:Heap)(a:Addr)(Z:Xt):Prop:=cond b (h.IsTuple a Z) (h.IsList a Z)
def ItB.at(x:ItB b h it a i)(k:∀o,h.get? it=some o->Z.get? it=some o):ItB b Z it a i:=by
 cases b with
 |true=>obtain⟨o,e,r⟩:=x;exact⟨o,k o e,r⟩
 |false=>obtain⟨o,e,r⟩:=x;exact⟨o,k o e,r⟩
def ItB.obj(x:ItB b h it a i):∃o,h.get? it=some o/\∀v,o.data≠.cell v:=by
 cases b with
 |true=>obtain⟨o,e,c,d⟩:=x;exact⟨o,e,λv z=>by rw[d] at z;cases z⟩
 |false=>obtain⟨o,e,c,d⟩:=x;exact⟨o,e,λv z=>by rw[d] at z;cases z⟩
def W9(a:ItB b s.heap it t i)(c:SqB b s.heap t G)(e:G[i]?=some x)(q:∀Z,ItB b Z it t (i+1)->Heap.SameBut it s.heap Z->Q x { s with heap:=Z }):wpAny (model prog w) A (Builtin.SmallTypes.nextOf (.ref it)) Q E s:=by
 cases b with
 |true=>exact apm a c e q|false=>exact wpAny_nextOf_list_item a c e q
def ah9(G:A.handled=none)(a:ItB b s.heap it t i)(c:SqB b s.heap t U)(e:U[i]?=none)(q:∀Z x,Heap.ExtBut it s.heap Z->(∃o,Z.get? x=some o/\o.cls=.type "StopIteration")->E (.ref x) { s with heap:=Z }):wpAny (model prog w) A (Builtin.SmallTypes.nextOf (.ref it)) Q E s:=by
 cases b with
 |true=>exact aul G a c e q|false=>exact wpAny_nextOf_list_end G a c e q
def aum{i:Nat}{Q:Y1}(he:IsEnum s.heap e it i old)(a:ItB b s.heap it t i)(c:SqB b s.heap t xs)(ex:xs[i]?=some x)(ne:e≠it)(q:∀R,IsEnumOut R e it ((i:Int)+1) x s.heap.objs.size->ItB b R it t (i+1)->R.get? s.heap.objs.size=some { cls:=.type "tuple",data:=.seq #[.int i s.toks,x] }->R.objs.size=s.heap.objs.size+1 ->
 (∀y o,y≠e->y≠it->s.heap.get? y=some o->R.get? y=some o)->Q (.ref s.heap.objs.size) { s with heap:=R,toks:=s.toks+1 }) :
 wpAny (model prog w) A (Builtin.«enumerate.__next__» ⟨[.ref e],[]⟩) (λfin s'=>∃v,fin=.done (.ret v)/\Q v s') E s:=by
 obtain⟨G,g,d,tk,os⟩:=s;show wpAny _ _ (field (.ref e) 2 >>= _) _ _ _;refine aa (d8 he rfl (x:=.ref it) rfl (aa (W9 a c ex λh1 a1 s1=>?_)));have s1:Heap.SameBut it G h1:=s1;have e1:IsEnum h1 e it i old:=(s1.2 e ne).trans he;refine aa (d8 e1 rfl (x:=rawInt i) rfl (aa (d8 e1 rfl (x:=.none) rfl (aa (wpAny_mkInt ?_)))));show wpAny _ _ (setField (.ref e) 3 (rawInt ((i:Int)+1)) >>= _) _ _ ⟨h1,g,d,tk+1,os⟩;refine aa (j0 e1 (by simp) λh2 e2 s2=>?_);have s2:Heap.SameBut e h1 h2:=s2;have e2:IsEnum h2 e it ((i:Int)+1) old:=e2;refine aa (j0 e2 (by simp) λh3 e3 s3=>?_);have s3:Heap.SameBut e h2 h3:=s3;have e3:IsEnum h3 e it ((i:Int)+1) old:=e3;refine aa (wpAny_newTuple ?_);have n3:h3.objs.size=G.objs.size:=by rw[s3.1,s2.1,s1.1]
 obtain⟨Z,d4⟩:∃Z,Z=h3.push { cls:=.type "tuple",data:=.seq #[.int i tk,x] }:=⟨_,rfl⟩;have e4:IsEnum Z e it ((i:Int)+1) old:=by rw[d4];exact aq _ e3
 have t4:Z.get? G.objs.size=some { cls:=.type "tuple",data:=.seq #[.int i tk,x] }:=by rw[d4,<- n3];exact bj _ rfl
 have n4:Z.objs.size=G.objs.size+1:=by rw[d4,j5,n3]
 have k3:∀y o,y≠e->h1.get? y=some o->Z.get? y=some o:=λy o U z=>by rw[d4];exact aq _ (s3.extBut y o U (s2.extBut y o U z))
 have a4:ItB b Z it t (i+1):=a1.at λo z=>k3 it o (jy ne) z
 have lt:e<G.objs.size:=az he
 show wpAny _ _ (Builtin.SmallTypes.ownedTupleIsFree (.ref e) >>= _) _ _ ⟨h3.push _,g,d,tk+1,os⟩;rw[n3,<- d4];refine aa ?_;unfold Builtin.SmallTypes.ownedTupleIsFree;refine aa (d8 e4 rfl (x:=.none) rfl (aj ?_));simp only[km];refine aa (wpAny_rule (aa (d8 e4 rfl (x:=old) rfl (aa (j0 e4 (by simp) λh5 e5 s5=>?_)))));have s5:Heap.SameBut e Z h5:=s5;have e5:IsEnum h5 e it ((i:Int)+1) x:=e5;refine aa ?_;unfold Builtin.SmallTypes.ownedTupleHandOut;refine aa (j0 e5 (by simp) λh6 e6 s6=>?_);have s6:Heap.SameBut e h5 h6:=s6;have e6:IsEnumOut h6 e it ((i:Int)+1) x G.objs.size:=e6;refine j0 e6 (by simp) λh7 e7 s7=>?_
 have s7:Heap.SameBut e h6 h7:=s7;have k7:∀y o,y≠e->Z.get? y=some o->h7.get? y=some o:=λy o U z=>s7.extBut y o U (s6.extBut y o U (s5.extBut y o U z))
 exact aa (wpAny_letGo (aj ⟨_,rfl,q h7 e7 (a4.at λo z=>k7 it o (jy ne) z) (k7 _ _ (su lt) t4) (by rw[s7.1,s6.1,s5.1,n4]) λy o y1 y2 z=>k7 y o y1 (k3 y o y1 (s1.extBut y o y2 z))⟩))
set_option tactic.hygienic true in
def aun{i:Nat}(G:IsEnum s.heap e it i old)(a:ItB b s.heap it t i)(c:SqB b s.heap t C)(R:C[i]?=some x)(U:e≠it)(q:∀Z,IsEnumOut Z e it ((i:Int)+1) x s.heap.objs.size->ItB b Z it t (i+1)->Z.get? s.heap.objs.size=some { cls:=.type "tuple",data:=.seq #[.int i s.toks,x] }->Z.objs.size=s.heap.objs.size+1 ->
 (∀y o,y≠e->y≠it->s.heap.get? y=some o->Z.get? y=some o)->Q (some (.ref s.heap.objs.size)) { s with heap:=Z,toks:=s.toks+1 }):wpAny (model prog w) A (pyNext (.ref e)) Q E s:=by
 have Y:s.TypeIs (.ref e) "enumerate" := ⟨_,G,rfl⟩;unfold pyNext;refine aa (wpAny_attempt (je (name:=Str.ofString "__next__") Y u5 (jo u5 Y F.entry_enumerate_next ?_ (F.args_enumerate_next_1 _))));exact aum G a c R U λZ S u y3 L J=>aj (q Z S u y3 L J)
set_option tactic.hygienic true in
def auo{i:Nat}(C:A.handled=none)(G:IsEnum s.heap e it i old)(a:ItB b s.heap it t i)(c:SqB b s.heap t L)(R:L[i]?=none)(q:∀Z,Heap.ExtBut it s.heap Z->Q none { s with heap:=Z }):wpAny (model prog w) A (pyNext (.ref e)) Q E s:=by have Y:s.TypeIs (.ref e) "enumerate" := ⟨_,G,rfl⟩;unfold pyNext;refine aa (wpAny_attempt (je (name:=Str.ofString "__next__") Y u5 (jo u5 Y F.entry_enumerate_next ?_ (F.args_enumerate_next_1 _))));show wpAny _ _ (field (.ref e) 2 >>= _) _ _ _;refine aa (d8 G rfl (x:=.ref it) rfl (aa (ah9 C a c R λZ z k z_=>?_)));obtain⟨o,U,J⟩:=z_;exact aa (qe (T := "StopIteration") (b:=true) ⟨o,U,J⟩ isSubtype_stop (aj (q _ k)))
set_option tactic.hygienic true in
def aup(t:Addr)(xs:Xt)(n:Nat)(Y:Option Addr)(U:Array (Option Value)) :
 Meets (Builtin.«enumerate.__new__» ⟨[.type "enumerate",.ref t],[]⟩) (λ_ R s=>s.heap.get? t=some { cls:=.type "tuple",dict:=Y,data:=.seq xs n,slots:=U } /\
  R (.ok (.ret (.ref (s.heap.push { cls:=.type "tuple_iterator",data:=.fields #[.ref t,.int 0 0] }).objs.size)))
   { s with heap:=(s.heap.push { cls:=.type "tuple_iterator",data:=.fields #[.ref t,.int 0 0] }).push { cls:=.type "enumerate",data:=.fields #[.none,.bool false,.ref s.heap.objs.size,rawInt 0,.none,.none] } }) :=
 .of_wp λprog w A R s h=>by
  obtain⟨L,g,d,C,G⟩:=s;obtain⟨Z,h⟩:=h;have J:=sub_enumerate;have hT:Heap.IsTuple (Shared.heap ⟨L,g,d,C,G⟩) t xs:=⟨_,Z,rfl,n,rfl⟩
  wp_walk using wpAny_loadPart' Z
  refine wpAny_stack_any λS=>aj ?_
  split
  .rename_i c _ _ _ _ _
   cases(c==Value.type "enumerate")<;>(wp_walk using wpAny_loadPart' Z,o5 hT)<;>exact⟨_,rfl,h⟩
  .wp_walk using wpAny_loadPart' Z,o5 hT
   exact⟨_,rfl,h⟩
def apn(c:s.heap.IsTuple t xs)(q:∀Z,IsEnum Z (s.heap.objs.size+1) s.heap.objs.size 0 .none->Z.IsTupleIter s.heap.objs.size t 0->Z.objs.size=s.heap.objs.size+2 ->
 (∀y o,s.heap.get? y=some o->Z.get? y=some o)->Q (.ref (s.heap.objs.size+1)) { s with heap:=Z }):wpAny (model prog w) A (call (.type "enumerate") [.ref t]) Q E s:=by
 obtain⟨⟨c0,U,dt,sl⟩,hl,hc,n,G⟩:=c;have hc:c0=.type "tuple" := hc;have G:dt=.seq xs n:=G;subst hc G;have R:(s.heap.push { cls:=.type "tuple_iterator",data:=.fields #[.ref t,.int 0 0] }).objs.size=s.heap.objs.size+1:=j5 ..;refine callType_new F.called_enumerate (by decide) (F.typeCall_enumerate_1 _) (F.newCall_enumerate_1 _) (λobj=>F.args_object_init_2 obj _) F.entry_enumerate_new (aup t xs n U sl) ⟨hl,?_⟩;show _/\_;rw[R];have e1:IsEnum ((s.heap.push { cls:=.type "tuple_iterator",data:=.fields #[.ref t,.int 0 0] }).push { cls:=.type "enumerate",data:=.fields #[.none,.bool false,.ref s.heap.objs.size,rawInt 0,.none,.none] }) (s.heap.objs.size+1) s.heap.objs.size 0 .none:=by rw[<- R];exact bj _ rfl
 exact⟨⟨_,e1,rfl⟩,q _ e1 ⟨_,aq _ (bj _ rfl),rfl,rfl⟩ (by rw[j5,R]) λy o z=>aq _ (aq _ z)⟩
end EnT
namespace L2
open PySem PySem.Spec EnT
def Inv.Y9{ch:X1}(I:Inv X pins σ H s)(G:∀b∈ch,Ud X pins H b)(k:∀b o,b∉ch->s.heap.get? b=some o->h'.get? b=some o)(hn:s.heap.objs.size<=n)(new:Aq X.prog X.w (upd H n (.tup vs)) h' n (.tup vs)):Inv X pins σ (upd H n (.tup vs)) { s with heap:=h',toks:=t' }:=by
 have R:H n=none:=I.yr.fresh hn;have U:∀b u,H b=some u->b∉ch:=λb u e z=>by rw[(G b z).1] at e;cases e
 have qq:∀b o,s.heap.get? b=some o->b≠n:=λb o e=>gh (fc (az e) hn)
 refine I.step (g':=s.gens) (d':=s.drawn) (ch:=ch) (λb hb=>⟨(G b hb).2.2.2.1,(G b hb).2.1,(G b hb).2.2.2.2.1,(G b hb).2.2.2.2.2⟩) (λb o _ _ Z e _=>k b o Z e) (λb o _ _ Z e _=>⟨o.slots,k b o Z e⟩) (λb o _ e n0=>by rw[jx (qq b o e)];exact n0)
  (λb o Z e=>⟨o,k b o Z e⟩) (λb xs e=>by rw[jx (ni e R)];exact e) (λb o u e=>by rw[jx (ni e R)];exact e) (λb ps e=>⟨#[],by rw[jx (ni e R),e];simp⟩) (λm hm=>?_) (λb u e=>?_) I.bare
 .obtain⟨o,es,ep,ho,r⟩:=hm
  exact⟨o,es,ep,k _ o (λz=>(G _ z).2.1 rfl) ho,r⟩
 .by_cases z:b=n
  .subst z;rw[q9] at e;cases e;exact new
  .rw[jx z] at e
   refine(I.yr b u e).stay (λc v Z q=>k c v ?_ q) (λc q=>by rw[jx (ni q R)];exact q) λc xs q=>by rw[jx (ni q R)];exact q
   rcases Z with y|y
   .rw[y];exact U b u e
   .exact U c _ y
def Inv.aia{ch:X1}(I:Inv X pins σ H s)(G:∀b∈ch,Ud X pins H b)(k:∀b o,b∉ch->s.heap.get? b=some o->h'.get? b=some o):Inv X pins σ H { s with heap:=h',toks:=t' }:=by
 have U:∀b u,H b=some u->b∉ch:=λb u e z=>by rw[(G b z).1] at e;cases e
 refine I.step (g':=s.gens) (d':=s.drawn) (ch:=ch) (λb R=>⟨(G b R).2.2.2.1,(G b R).2.1,(G b R).2.2.2.2.1,(G b R).2.2.2.2.2⟩) (λb o _ _ Z e _=>k b o Z e) (λb o _ _ Z e _=>⟨o.slots,k b o Z e⟩) (λb o _ e n0=>n0)
  (λb o Z e=>⟨o,k b o Z e⟩) (λb xs e=>e) (λb o u e=>e) (λb ps e=>⟨#[],by rw[e];simp⟩) (λm hm=>?_) (λb u e=>?_) I.bare
 .obtain⟨o,es,ep,ho,r⟩:=hm
  exact⟨o,es,ep,k _ o (λz=>(G _ z).2.1 rfl) ho,r⟩
 .refine(I.yr b u e).stay (λc v Z q=>k c v ?_ q) (λ_ q=>q) λ_ _ q=>q
  rcases Z with y|y
  .rw[y];exact U b u e
  .exact U c _ y
def SqX(b:Bool)(K:Fg)(H:Hp)(a:Addr)(Z:List V):Prop:=cond b (Gu K H a Z) (Gm K H a Z)
def Inv.afn(I:Inv X pins σ H s)(h:SqX b X.K H a U):∃Z,Vals U Z/\SqB b s.heap a Z.toArray:=by
 cases b with
 |true=>obtain⟨Z,G,p,R⟩:=I.tuple h;exact⟨Z,G,show s.heap.IsTuple a Z.toArray from p⟩
 |false=>obtain⟨Z,G,p,R⟩:=I.list h;exact⟨Z,G,p.isList⟩
def Inv.ac5(I:Inv X pins σ H s)(h:SqX b X.K H a Z)(g:SqX b X.K H a ys):Z=ys:=by
 cases b with
 |true=>exact I.Yr h g|false=>exact I.ab9 h g
def Ien(b:Bool)(K:Fg)(a:Addr):It :=
 ⟨λi H=>∃Z x,SqX b K H a Z/\Z[i]?=some x,λi H v G=>∃p x,v=.ref p/\H p=none/\G=upd H p (.tup [.int (i:Nat),x])/\∀Z,SqX b K H a Z->Z[i]?=some x,λi H=>∃Z,SqX b K H a Z/\Z.length<=i⟩
set_option tactic.hygienic true in
theorem auq(a e it:Addr)(ne:e≠it):Turn P w K (.Tuple ts k0 pt) (Ien b K a) [e,it] e (λi h=>(∃Z,IsEnum h e it ((i:Nat):Int) Z)/\ItB b h it a i) where
 mem:=by simp
 obj:=λi h J c Y=>by
  obtain⟨⟨Z,G⟩,U⟩:=J;rcases dh.mp Y with z|z
  .subst z;exact⟨_,G,λv z=>by cases z⟩
  .have z:c=it:=by simpa using z
   subst z;exact U.obj
 keep:=λi h h' J k=>by obtain⟨⟨Z,G⟩,U⟩:=J;exact⟨⟨Z,k e (by simp) _ G⟩,U.at λo z=>k it (by simp) o z⟩
 item:=by
  intro X hP hw hK Y i C s σ H E I R J hg;subst hP hw hK;obtain⟨xs,x,S,hx⟩:=hg;obtain⟨t6,rv,p⟩:=I.afn S;obtain⟨u,hu,ru⟩:=rv.get hx;obtain⟨⟨Z,G⟩,U⟩:=J;have lt:e<s.heap.objs.size:=az G
  refine aun G U p (x:=u) (by simpa using hu) ne λh1 o1 a1 t1 n1 k1=>⟨_,rfl,?_⟩
  refine wpAny_letOwnedTupleGo_enum o1 λh2 o2 L=>?_
  have L:Heap.SameBut e h1 h2:=L;have t2:h2.get? s.heap.objs.size=some { cls:=.type "tuple",data:=.seq #[.int i s.toks,u] }:=(L.2 _ (su lt)).trans t1;refine⟨.ref s.heap.objs.size,upd H s.heap.objs.size (.tup [.int (i:Nat),x]),I.Y9 (t':=s.toks+1) R (λc o Y z=>?_) (bf _) ⟨by show 2<=sizeLine;decide,[.int i s.toks,u],.cons ⟨s.toks,rfl⟩ (.cons ru .nil),⟨_,t2,rfl,_,rfl,rfl⟩⟩,rfl,
   ⟨_,x,rfl,I.yr.fresh (bf _),rfl,λys hy=>by rw[I.ac5 hy S];exact hx⟩,⟨⟨u,?_⟩,a1.at λo z=>L.extBut it o (jy ne) z⟩,λc Y=>?_⟩
  .have c1:c≠e:=λz=>Y (by simp[z])
   have c2:c≠it:=λz=>Y (by simp[z])
   exact L.extBut c o c1 (k1 c o c1 c2 z)
  .have q:((i+1:Nat):Int)=(i:Int)+1:=by push_cast;rfl
   rw[q];exact o2
  .have qq:c<s.heap.objs.size:=by
    rcases dh.mp Y with z|z
    .rw[z];exact lt
    .have z:c=it:=by simpa using z
     obtain⟨o,z2,_⟩:=U.obj;rw[z];exact az z2
   rw[jx (gh qq)];exact(R c Y).1
 done:=by intro X hP hw hK Y i C s σ H E I R J hg;subst hP hw hK;obtain⟨xs,S,hx⟩:=hg;obtain⟨t6,rv,p⟩:=I.afn S;obtain⟨⟨Z,G⟩,U⟩:=J;have hl:=rv.length;refine auo (I.ok.hd Y) G U p (by simp;exact a_ (g_ hl) hx) λh' eb=>⟨rfl,I.aia (t':=s.toks) R λc o Y z=>eb c o (λy=>Y (by simp[y])) z⟩
 self:=λ_ _ _ _ _ J h=>by obtain⟨⟨Z,G⟩,U⟩:=J;exact wpAny_pyIter_enum G h
def a8s(hg:Gl X "enumerate")(hm:X.mg "enumerate" = none)(ha:PA X [a] ta)(hs:starEach [a] X.env=[(false,eval a X.env)]) :
 PI X (.Tuple ts k0 pt) (.Call (.Name "enumerate" p) [a] [] pos) (fun σ H R=>ta σ H λvs H1=>∃b q,vs=[.ref q]/\(∃xs,SqX b X.K H1 q xs)/\R (Ien b X.K q) H1):=by
 intro U s σ H R I h;refine PyProof.Rows.Call_ (Kv I hg hm (show bootBuiltins "enumerate" = some (.type "enumerate") by decide+kernel) (qu (Bc (ha pos U s σ H _ I h) λus Z ⟨vs,H1,I1,r1,q1⟩=>?_) hs rfl));obtain⟨b,q,rfl,⟨xs,hq⟩,hR⟩:=q1;cases r1 with
 |cons r rr =>
  cases rr;cases r;obtain⟨t6,rv,p⟩:=I1.afn hq;have fin:∀G,IsEnum G (Z.heap.objs.size+1) Z.heap.objs.size 0 .none->ItB b G Z.heap.objs.size q 0->(∀y o,Z.heap.get? y=some o->G.get? y=some o) ->
   wpAny (model X.prog X.w) X.A (pyIter (.ref (Z.heap.objs.size+1))) (PIE X U σ (.Tuple ts k0 pt) R) X.xe { Z with heap:=G }:=λG e1 e2 kk=>by
   refine wpAny_pyIter_enum e1 ?_;refine⟨Z.heap.objs.size+1,[Z.heap.objs.size+1,Z.heap.objs.size],_,_,H1,rfl,I1.kept (t':=Z.toks) kk,auq (b:=b) q _ _ (Nat.succ_ne_self _),⟨⟨.none,e1⟩,e2⟩,λc hc=>?_,hR⟩;have qq:Z.heap.objs.size<=c:=by
    rcases dh.mp hc with z|z
    .rw[z];exact qg _
    .have z:c=Z.heap.objs.size:=by simpa using z
     rw[z];exact bf _
   exact I1.ajm qq (I1.yr.fresh qq)
  cases b with
  |true=>exact apn p λG e1 e2 _ kk=>fin G e1 e2 kk
  |false=>exact call_enumerate_list p λG e1 e2 _ kk=>fin G e1 e2 kk
end L2
namespace EnT
open PySem PySem.Spec
noncomputable def tpN(Z:Zl):Obj:={ cls:=.type "tuple",data:=.seq Z.toArray }
structure ZN(b:Nat->Bool)(h0:Heap)(n:Nat)(ls:Y3)(f0:Value)(ov:Zl)(k d:Nat)(g:Heap):Prop where
 z:IsZip g (n+ls.length+2) (n+ls.length) (n+ls.length+1) f0
 o:g.get? (n+ls.length+1)=some (tpN ov)
 a:∀(j:Nat) l,ls[j]?=some l->ItB (b l) g (n+j) l (if j<d then k+1 else k)
 low:∀c o,(c<n\/c=n+ls.length\/n+ls.length+2<c)->h0.get? c=some o->g.get? c=some o
def SqB.lt(x:SqB b h a Z):a<h.objs.size:=by
 cases b with
 |true=>obtain⟨o,c,_⟩:=x;exact az c
 |false=>obtain⟨o,c,_⟩:=x;exact az c
def SqB.at(x:SqB b h a xs)(e:∀o,h.get? a=some o->Z.get? a=some o):SqB b Z a xs:=by
 cases b with
 |true=>obtain⟨o,c,d⟩:=x;exact⟨o,e o c,d⟩
 |false=>obtain⟨o,c,d⟩:=x;exact⟨o,e o c,d⟩
def ac7{Z:Y3}{j:Nat}(h:Z[j]?=some l):j<Z.length:=(ak.mp h).1
def ZN.sz(H:ZN b h0 n Z f0 G k d g)(e:Heap.ExtBut (n+Z.length+2) g g')(z:IsZip g' (n+Z.length+2) (n+Z.length) (n+Z.length+1) f1):ZN b h0 n Z f1 G k d g' :=
 ⟨z,e _ _ (by lia) H.o,λj l h=>(H.a j l h).at λo=>e _ o (by have:=ac7 h;lia),λc o U z=>e _ _ (by lia) (H.low c o U z)⟩
def ZN.so(H:ZN b h0 n Z f0 R k d g)(e:Heap.ExtBut (n+Z.length+1) g g')(z:g'.get? (n+Z.length+1)=some (tpN G)):ZN b h0 n Z f0 G k d g' :=
 ⟨e _ _ (by lia) H.z,z,λj l h=>(H.a j l h).at λo=>e _ o (by have:=ac7 h;lia),λc o U z=>e _ _ (by lia) (H.low c o U z)⟩
def ZN.sa(H:ZN b h0 n Z f0 G k d g)(R:d<Z.length)(e:Heap.ExtBut (n+d) g g')(z:∀l,Z[d]?=some l->ItB (b l) g' (n+d) l (k+1)):ZN b h0 n Z f0 G k (d+1) g' :=
 ⟨e _ _ (by lia) H.z,e _ _ (by lia) H.o,λj l h=>by
  by_cases c:j=d
  .subst c;rw[cg (by lia)];exact z l h
  .have:=H.a j l h
   have i:(if j<d+1 then k+1 else k)=if j<d then k+1 else k:=by
    by_cases q:j<d
    .rw[cg q,cg (by lia)]
    .rw[bz q,bz (by lia)]
   rw[i];exact this.at λo=>e _ o (by lia),λc o U z=>e _ _ (by lia) (H.low c o U z)⟩
def ZN.up(H:ZN b h0 n G f0 Z k d g)(e:∀c o,g.get? c=some o->g'.get? c=some o):ZN b h0 n G f0 Z k d g' :=
 ⟨e _ _ H.z,e _ _ H.o,λj l h=>(H.a j l h).at (e _),λc o U z=>e _ _ (H.low c o U z)⟩
def ZN.nx(H:ZN b h0 n Z f0 G k Z.length g):ZN b h0 n Z f0 G (k+1) 0 g :=
 ⟨H.z,H.o,λj l h=>by have:=H.a j l h;rw[cg (ac7 h)] at this;exact this,H.low⟩
def aib{T:Addr}{Q:Unit->Shared->Prop}(G:U.length<=3)(hT:s.heap.get? T=some (tpN U))(h:∀Z,Z.get? T=some (tpN (U.set k x))->Heap.ExtBut T s.heap Z->Z.objs.size=s.heap.objs.size->Q () { s with heap:=Z }) :
 wpAny (model prog w) A (updateSeq T (·.setIfInBounds k x)) Q E s:=by
 have R:Heap.SameBut T s.heap (s.heap.update T (Obj.mapSeq (·.setIfInBounds k x))):=jj ..;refine wpAny_updateSeq hT rfl (h _ ?_ R.extBut R.1) (hz:=au (by simpa using G) (show 3<=sizeLine by decide)) (_hz':=au (by simpa using G) (show 3<=sizeLine+1 by decide));rw[lz _ hT rfl];simp[Obj.mapSeq,tpN]
noncomputable def Gi(n m:Nat):List Value:=(List.range m).map λj=>.ref (n+j)
def aic(n m:Nat):(Gi n m).zipIdx=(List.range' 0 m).map λj=>(Value.ref (n+j),j):=by
 apply List.ext_getElem?;intro i;rw[wy]
 by_cases h:i<m
 .simp[Gi,h]
 .simp[Gi,h]
def At(b:Nat->Bool)(h:Heap)(U:Y3)(k:Nat)(G:Zl):Prop:=G.length=U.length/\∀(j:Nat) l,U[j]?=some l->∃Z x,SqB (b l) h l Z/\Z[k]?=some x/\G[j]?=some x
def aur{n k:Nat}{Q:Y1}(Pb:Z≠[])(h3:Z.length<=3)(H:ZN b s.heap n Z .none G k 0 s.heap)(ho:G.length=Z.length)(hI:s.heap.get? (n+Z.length)=some (tpN (Gi n Z.length)))(hl:∀l∈Z,l<n)(ha:At b s.heap Z k vs)
 (hq:∀h',ZN b s.heap n Z (rawInt s.heap.objs.size) vs (k+1) 0 h'->h'.get? s.heap.objs.size=some (tpN vs)->Q (.ref s.heap.objs.size) { s with heap:=h' }) :
 wpAny (model prog w) A (Builtin.«zip.__next__» ⟨[.ref (n+Z.length+2)],[]⟩) (λfin s'=>∃v,fin=.done (.ret v)/\Q v s') E s:=by
 have hz:=H.z;have ne:(Gi n Z.length).toArray.isEmpty=false:=by cases Z with|nil=>exact absurd rfl Pb|cons a l=>simp[Gi]
 show wpAny _ _ (field (.ref (n+Z.length+2)) 2 >>= _) _ _ _;refine aa (d8 hz rfl (x:=.bool false) rfl (aa (d8 hz rfl (x:=.ref (n+Z.length)) rfl (aa (p8 hI rfl ?_)))));simp only[ne,gm,jt];unfold Builtin.SmallTypes.ownedTupleIsFree;refine aa (aa (d8 hz rfl (x:=.none) rfl (aj ?_)));simp only[km];refine aa (wpAny_rule (aa (d8 hz rfl (x:=.ref (n+Z.length+1)) rfl (aa (j0 hz (by simp) λg1 z1 s1=>?_)))));have H1:=H.sz s1.extBut (f1:=.ellipsis) z1;refine aa (vg _ (λR bb s'=>bb=(none,())/\∃d G g,R=((List.range' d (Z.length-d)).map λj=>(Value.ref (n+j),j))/\d<=Z.length/\s'={ s with heap:=g }/\ZN b s.heap n Z .ellipsis G k d g/\G.length=Z.length/\(∀i,i<d->G[i]?=vs[i]?)/\g.objs.size=s.heap.objs.size) _ (λx R bb s' hI=>?_) (λbb s' hI=>?_) _ _ ⟨rfl,0,G,g1,?_,ik _,rfl,H1,ho,λi hi=>absurd hi (qj _),s1.1⟩)
 .obtain⟨rfl,d,G,g,e,U,rfl,H2,o2,v2,n2⟩:=hI
  have U:d<Z.length:=by
   rcases ju d Z.length with h|h
   .exact h
   .rw[Nat.sub_eq_zero_of_le h] at e;cases e
  obtain⟨c,hc⟩:∃c,Z.length-d=c+1:=⟨Z.length-d-1,by lia⟩;rw[hc,zj,dq] at e;injection e with e1 e2
  subst e1 e2;obtain⟨l,el⟩:∃l,Z[d]?=some l:=⟨Z[d],by simp[U]⟩;obtain⟨xs,x,t1,t2,t3⟩:=ha.2 d l el;have i0:=H2.a d l el;rw[bz (m8 _)] at i0;have ll:=hl l (bc el);refine aa (wpAny_onRaise (aa (W9 (s:={ s with heap:=g }) i0 (t1.at λo=>H2.low _ o (by lia)) t2 λg2 i2 s2=>aj ?_)));have H3:=H2.sa U s2.extBut λl' h=>by rw[el] at h;cases h;exact i2
  refine aa (p8 H3.o rfl (aa (aib (by rw[o2];exact h3) H3.o λg3 o3 s3 n3=>?_)));have H4:=H3.so s3 o3;refine aa (wpAny_letGo (aj ⟨rfl,d+1,G.set d x,g3,by rw[show Z.length-(d+1)=c by lia],U,rfl,H4,by rw[Ae,o2],λi hi=>?_,by rw[n3,show g2.objs.size=g.objs.size from s2.1,n2]⟩))
  by_cases z:i=d
  .subst z
   rw[vd (by lia),t3]
  .rw[uh (jy z)];exact v2 i (by lia)
 .obtain⟨rfl,d,G,g,e,U,rfl,H2,o2,v2,n2⟩:=hI
  have U:d=Z.length:=by
   rcases ju d Z.length with h|h
   .obtain⟨c,hc⟩:∃c,Z.length-d=c+1:=⟨Z.length-d-1,by lia⟩
    rw[hc,zj] at e;cases e
   .exact Nat.le_antisymm U h
  subst U;obtain rfl:G=vs:=by
   apply List.ext_getElem?;intro i;rcases ju i Z.length with h|h
   .exact v2 i h
   .rw[yu (by lia),yu (by rw[ha.1];exact h)]
  refine aa (p8 H2.o rfl (aa (wpAny_newTuple ?_)));have H8:=H2.nx.up (g':=g.push (tpN G)) λc o e=>aq _ e
  refine aa ?_;unfold Builtin.SmallTypes.ownedTupleHandOut;refine aa (j0 H8.z (by simp) λg9 z9 s9=>?_);have H9:=H8.sz s9.extBut (f1:=rawInt g.objs.size) z9;refine j0 H9.z (by simp) λqq q1 qv=>?_
  have q0:=H9.sz qv.extBut (f1:=rawInt g.objs.size) q1;have zl:n+Z.length+2<g.objs.size:=az H2.z
  have qk:qq.get? g.objs.size=some (tpN G):=qv.extBut _ _ (su zl) (s9.extBut _ _ (su zl) (bj _ rfl));refine aj ⟨_,rfl,?_⟩;show Q (.ref g.objs.size) _;rw[n2] at q0 qk ⊢;exact hq qq q0 qk
 .show(Gi n Z.length).zipIdx=_
  rw[aic];rfl
def a05{n k e:Nat}{Z:Y3}(hd:A.handled=none)(h0:Z[e]?=some l)(H:ZN b s.heap n Z .none G k 0 s.heap)(ho:G.length=Z.length)(h3:Z.length<=3)(hI:s.heap.get? (n+Z.length)=some (tpN (Gi n Z.length)))(hl:∀l∈Z,l<n)(c1:SqB (b l) s.heap l xs)(e1:xs[k]?=none)
 (ha:∀(j:Nat) a,j<e->Z[j]?=some a->∃xs x,SqB (b a) s.heap a xs/\xs[k]?=some x)
 (hE:∀h' e,(∀c o,(c<n\/n+Z.length+2<c)->s.heap.get? c=some o->h'.get? c=some o)->(∃o,h'.get? e=some o/\o.cls=.type "StopIteration")->E (.ref e) { s with heap:=h' }) :
 wpAny (model prog w) A (Builtin.«zip.__next__» ⟨[.ref (n+Z.length+2)],[]⟩) Q E s:=by
 have hz:=H.z;have qk:=ac7 h0;obtain⟨c,hc⟩:∃c,Z.length=c+1:=⟨Z.length-1,by lia⟩;have ne:(Gi n Z.length).toArray.isEmpty=false:=by rw[hc];simp[Gi]
 show wpAny _ _ (field (.ref (n+Z.length+2)) 2 >>= _) _ _ _;refine aa (d8 hz rfl (x:=.bool false) rfl (aa (d8 hz rfl (x:=.ref (n+Z.length)) rfl (aa (p8 hI rfl ?_)))));simp only[ne,gm,jt];unfold Builtin.SmallTypes.ownedTupleIsFree;refine aa (aa (d8 hz rfl (x:=.none) rfl (aj ?_)));simp only[km];refine aa (wpAny_rule (aa (d8 hz rfl (x:=.ref (n+Z.length+1)) rfl (aa (j0 hz (by simp) λg1 z1 s1=>?_)))));have H1:=H.sz s1.extBut (f1:=.ellipsis) z1;refine aa (vg _ (λU bb s'=>bb=(none,())/\∃d G g,U=((List.range' d (Z.length-d)).map λj=>(Value.ref (n+j),j))/\d<=e/\s'={ s with heap:=g }/\ZN b s.heap n Z .ellipsis G k d g/\G.length=Z.length/\∀c o,(c<n\/n+Z.length+2<c)->s.heap.get? c=some o->g.get? c=some o) _ (λx U bb s' hI=>?_) (λbb s' hI=>?_) _ _ ⟨rfl,0,G,g1,?_,ik _,rfl,H1,ho,λc o y z=>s1.extBut _ _ (by lia) z⟩)
 .obtain⟨rfl,d,G,g,q,qq,rfl,H2,R,v2⟩:=hI
  obtain⟨c,hc⟩:∃c,Z.length-d=c+1:=⟨Z.length-d-1,by lia⟩;rw[hc,zj,dq] at q;injection q with q1 q2
  subst q1 q2;obtain⟨a,el⟩:∃a,Z[d]?=some a:=⟨Z[d],by simp[show d<Z.length by lia]⟩;have i0:=H2.a d a el;rw[bz (m8 _)] at i0;have ll:=hl a (bc el);rcases ju d e with hde|hde
  .obtain⟨ys,x,t1,t2⟩:=ha d a hde el
   refine aa (wpAny_onRaise (aa (W9 (s:={ s with heap:=g }) i0 (t1.at λo=>H2.low _ o (by lia)) t2 λg2 i2 s2=>aj ?_)));have H3:=H2.sa (show d<Z.length by lia) s2.extBut λl' h=>by rw[el] at h;cases h;exact i2
   refine aa (p8 H3.o rfl (aa (aib (by rw[R];exact h3) H3.o λg3 o3 s3 n3=>?_)));have H4:=H3.so s3 o3;exact aa (wpAny_letGo (aj ⟨rfl,d+1,G.set d x,g3,by rw[show Z.length-(d+1)=c by lia],hde,rfl,H4,by rw[Ae,R],λc o y z=>s3 _ _ (by lia) (s2.extBut _ _ (by lia) (v2 c o y z))⟩))
  .obtain rfl:d=e:=by lia
   rw[el] at h0;cases h0;refine aa (wpAny_onRaise (aa (ah9 (s:={ s with heap:=g }) hd i0 (c1.at λo=>H2.low _ o (by lia)) e1 λg2 x s2 z_=>?_)));obtain⟨o,o1,R⟩:=z_;have z2:IsZip g2 (n+Z.length+2) (n+Z.length) (n+Z.length+1) .ellipsis:=s2 _ _ (by lia) H2.z;have ne:x≠n+Z.length+2:=λy=>by subst y;rw[z2] at o1;cases o1;simp at R
   exact j0 z2 (by simp) λg3 _ s3=>hE g3 x (λc o y1 e=>s3.extBut _ _ (by lia) (s2 _ _ (by lia) (v2 c o y1 e))) ⟨o,s3.extBut _ _ ne o1,R⟩
 .obtain⟨rfl,d,G,g,q,qq,rfl,H2,R,v2⟩:=hI
  obtain⟨c,hc⟩:∃c,Z.length-d=c+1:=⟨Z.length-d-1,by lia⟩;rw[hc,zj] at q;cases q
 .show(Gi n Z.length).zipIdx=_
  rw[aic];rfl
noncomputable def zI(b:Bool)(a:Addr):Obj:={ cls:=.type (cond b "tuple_iterator" "list_iterator"),data:=.fields #[.ref a,.int 0 0] }
def pI(b:Nat->Bool)(h:Heap)(Z:Y3):Heap:=Z.foldl (λh l=>h.push (zI (b l) l)) h
theorem aa2:∀(Z:Y3)(h:Heap),(pI b h Z).objs.size=h.objs.size+Z.length
 |[],h=>rfl
 |l::Z,h=>by
  have:=aa2 (b:=b) Z (h.push (zI (b l) l));rw[j5] at this;rw[gj,<- Nat.add_assoc,Nat.add_right_comm];exact this
theorem aid:∀{ls:Y3}{h:Heap},h.get? c=some o->(pI b h ls).get? c=some o
 |[],_,e=>e|x::ls,h,e=>aid (ls:=ls) (h:=h.push (zI (b x) x)) (aq _ e)
theorem apo:∀{ls:Y3}{h:Heap}{j:Nat},ls[j]?=some l->(pI b h ls).get? (h.objs.size+j)=some (zI (b l) l)
 |x::ls,h,0,e=>by cases e;exact aid (ls:=ls) (h:=h.push (zI (b l) l)) (bj _ rfl)
 |x::ls,h,j+1,e=>by
  have:=apo (b:=b) (h:=h.push (zI (b x) x)) (ls:=ls) (j:=j) e;rw[j5] at this;rw[<- Nat.add_assoc,Nat.add_right_comm];exact this
def a8t(h:g.get? i=some (zI b l)):ItB b g i l 0:=by
 cases b with
 |true=>exact⟨_,h,rfl,rfl⟩|false=>exact⟨_,h,rfl,rfl⟩
def a06{Q:Y1}(h:SqB b s.heap a Z)(q:Q (.ref s.heap.objs.size) { s with heap:=s.heap.push (zI b a) }):wpAny (model prog w) A (pyIter (.ref a)) Q E s:=by
 cases b with
 |true=>exact o5 h q|false=>exact wpAny_pyIter_list h q
def aus{Q:List Value->Shared->Prop}(ht:∀l∈Z,∃xs,SqB (b l) s.heap l xs)(q:Q (Gi s.heap.objs.size Z.length) { s with heap:=pI b s.heap Z }):wpAny (model prog w) A (Builtin.SmallTypes.iterAll (Z.map .ref)) Q E s:=by
 unfold Builtin.SmallTypes.iterAll;refine aa (vg _ (λU t6 s'=>∃d,d<=Z.length/\U=(Z.drop d).map .ref/\t6=(Gi s.heap.objs.size d).toArray/\s'={ s with heap:=pI b s.heap (Z.take d) }) _ (λx U bb s' R=>?_) (λbb s' R=>?_) _ _ ⟨0,ik _,rfl,rfl,rfl⟩)
 .obtain⟨d,G,e,rfl,rfl⟩:=R
  have G:d<Z.length:=by
   rcases ju d Z.length with h|h
   .exact h
   .rw[List.drop_of_length_le h] at e;cases e
  rw[sr G,dq] at e;injection e with e1 e2
  subst e1 e2;obtain⟨xs,hx⟩:=ht Z[d] (uc G);refine aa (jz (a06 (hx.at λo e=>aid e) (aj ⟨d+1,G,rfl,?_,?_⟩)))
  .rw[aa2,List.length_take,Nat.min_eq_left (Am G)]
   simp[Gi,uv]
  .have:pI b s.heap (Z.take (d+1))=(pI b s.heap (Z.take d)).push (zI (b Z[d]) Z[d]):=by
    rw[m5,du G,pI,List.foldl_append];rfl
   rw[this]
 .obtain⟨d,G,e,rfl,rfl⟩:=R
  have G:d=Z.length:=by
   rcases ju d Z.length with h|h
   .rw[sr h] at e;cases e
   .exact Nat.le_antisymm G h
  subst G;rw[qd];exact aj (by simpa using q)
def zB(b:Nat->Bool)(h:Heap)(Z:Y3):Heap:=(pI b h Z).push (tpN (Gi h.objs.size Z.length))
def zC(b:Nat->Bool)(h:Heap)(Z:Y3):Heap:=(zB b h Z).push (tpN ((Gi h.objs.size Z.length).map λ_=>.none))
def zD(b:Nat->Bool)(h:Heap)(Z:Y3):Heap:=(zC b h Z).push { cls:=.type "zip",data:=.fields #[.none,.bool false,.bool false,.ref (pI b h Z).objs.size,.ref (zB b h Z).objs.size] }
def apq(h3:Z.length<=3) :
 Meets (Builtin.«zip.__new__» ⟨.type "zip"::Z.map .ref,[]⟩) (λ_ R s=>(∀l∈Z,∃xs,SqB (b l) s.heap l xs)/\R (.ok (.ret (.ref (zC b s.heap Z).objs.size))) { s with heap:=zD b s.heap Z }) :=
 .of_wp λprog w A R s h=>by
  obtain⟨G,g,d,tk,U⟩:=s;obtain⟨ht,h⟩:=h;have qq:=sub_zip;have f1:∀{Q:List Value->Shared->Prop}{A E},Q (Gi G.objs.size Z.length) ⟨pI b G Z,g,d,tk,U⟩->wpAny (model prog w) A (Builtin.SmallTypes.iterAll (Z.map .ref)) Q E ⟨G,g,d,tk,U⟩:=λq=>aus ht q
  have sz:∀(xs:Zl),xs.length<=3->xs.toArray.size<=sizeLine:=λxs h=>au (by simpa using h) (show 3<=sizeLine by decide)
  have f2:∀{Q:Y1}{A E}{h:Heap},Q (.ref h.objs.size) ⟨h.push (tpN (Gi G.objs.size Z.length)),g,d,tk,U⟩->wpAny (model prog w) A (newTuple (Gi G.objs.size Z.length)) Q E ⟨h,g,d,tk,U⟩:=λq=>wpAny_newTuple q (sz _ (by simpa[Gi] using h3))
  have f3:∀{Q:Y1}{A E}{h:Heap},Q (.ref h.objs.size) ⟨h.push (tpN ((Gi G.objs.size Z.length).map λ_=>.none)),g,d,tk,U⟩->wpAny (model prog w) A (newTuple ((Gi G.objs.size Z.length).map λ_=>.none)) Q E ⟨h,g,d,tk,U⟩:=λq=>wpAny_newTuple q (sz _ (by simpa[Gi] using h3))
  wp_walk using f1,f2,f3
  exact⟨_,rfl,h⟩
def aut{n:Nat}(h3:Z.length<=3)(U:s.heap.objs.size=n)(ct:checkTypeCall "zip" ⟨Z.map .ref,[]⟩=pure ())(cb:checkBuiltinCall "zip.__new__" ⟨.type "zip"::Z.map .ref,[]⟩=pure ())(ca:∀obj,argsOk "object.__init__" ⟨obj::Z.map .ref,[]⟩)(ht:∀l∈Z,∃xs,SqB (b l) s.heap l xs)
 (h:∀G,ZN b G n Z .none ((Gi n Z.length).map λ_=>.none) 0 0 G->G.get? (n+Z.length)=some (tpN (Gi n Z.length))->(∀c o,s.heap.get? c=some o->G.get? c=some o)->Q (.ref (n+Z.length+2)) { s with heap:=G }):wpAny (model prog w) A (call (.type "zip") (Z.map .ref)) Q E s:=by
 refine callType_new F.called_zip (by decide) ct cb ca F.entry_zip_new (apq h3) ⟨ht,?_⟩;have z3:(pI b s.heap Z).objs.size=n+Z.length:=by rw[aa2,U]
 have R:(zB b s.heap Z).objs.size=n+Z.length+1:=by unfold zB;rw[j5,z3]
 have z5:(zC b s.heap Z).objs.size=n+Z.length+2:=by unfold zC;rw[j5,R]
 have up:∀{h:Heap}{o':Obj}{c:Addr}{o:Obj},h.get? c=some o->(h.push o').get? c=some o:=λe=>aq _ e
 have g6:(zD b s.heap Z).get? (zC b s.heap Z).objs.size=some _:=bj _ rfl;have g5:(zD b s.heap Z).get? (zB b s.heap Z).objs.size=some _:=up (bj _ rfl);have g4:(zD b s.heap Z).get? (pI b s.heap Z).objs.size=some _:=up (up (bj _ rfl));rw[z3,R,z5] at g6;rw[R,U] at g5;rw[z3,U] at g4;show _/\_;rw[z5];exact⟨⟨_,g6,rfl⟩,h _ ⟨g6,g5,λj l e=>a8t (up (up (up (by rw[<- U];exact apo e)))),λ_ _ _ e=>e⟩ g4 λc o e=>up (up (up (aid e)))⟩
theorem akf:∀Z:List Value,Z.length=2->checkTypeCall "zip" ⟨Z,[]⟩=pure ()/\checkBuiltinCall "zip.__new__" ⟨.type "zip"::Z,[]⟩=pure ()/\∀obj,argsOk "object.__init__" ⟨obj::Z,[]⟩
 |[a,b],_=>⟨F.typeCall_zip_2 _ _,F.newCall_zip_2 _ _,λobj=>F.args_object_init_3 obj _ _⟩
end EnT
namespace L2
open PySem PySem.Spec EnT
def IzN(b:Nat->Bool)(K:Fg)(U:X1):It :=
 ⟨λi H=>∃G:List V,G.length=U.length/\∀(j:Nat) a,U[j]?=some a->∃Z x,SqX (b a) K H a Z/\Z[i]?=some x/\G[j]?=some x,
  λi H v H'=>∃p G,v=.ref p/\H p=none/\H'=upd H p (.tup G)/\G.length=U.length/\∀(j:Nat) a Z,U[j]?=some a->SqX (b a) K H a Z->G[j]?=Z[i]?,
  λi H=>∃(e:Nat)(a:Addr)(Z:List V),U[e]?=some a/\SqX (b a) K H a Z/\Z.length<=i/\∀(j:Nat) a,j<e->U[j]?=some a->∃R,SqX (b a) K H a R/\i<R.length⟩
def TN(b:Nat->Bool)(n:Nat)(Z:X1)(i:Nat)(h:Heap):Prop:=(∃G,ZN b h n Z .none G i 0 h/\G.length=Z.length)/\h.get? (n+Z.length)=some (tpN (Gi n Z.length))
noncomputable def FN(n m:Nat):List Addr:=List.range' n (m+3)
def FN.mem{n m c:Nat}:c∈FN n m↔n<=c/\c<n+m+3:=List.mem_range'_1
theorem at_of(I:Inv X pins σ H s):∀{as:X1}{vs:List V},vs.length=as.length->(∀(j:Nat) a,as[j]?=some a->∃G x,SqX (b a) X.K H a G/\G[i]?=some x/\vs[j]?=some x)->∃Z,Vals vs Z/\At b s.heap as i Z
 |[],[],_,_=>⟨[],.nil,rfl,λj l h=>by simp at h⟩
 |a::as,v::vs,l,h=>by
  obtain⟨Z,r,e,q⟩:=at_of I (as:=as) (vs:=vs) (by simpa using l) (λj a e=>h (j+1) a e);obtain⟨G,x,q1,x1,hv⟩:=h 0 a rfl;cases hv;obtain⟨i1,r1,p1⟩:=I.afn q1;obtain⟨U,u1,w1⟩:=r1.get x1;refine⟨U::Z,.cons w1 r,by simp[e],λj l R=>?_⟩;cases j with
  |zero=>cases R;exact⟨i1.toArray,U,p1,by simpa using u1,rfl⟩|succ j=>exact q j l R
theorem auu{n:Nat}(h3:G.length<=3)(Pb:G≠[])(hl:∀a∈G,a<n):Turn P w K (.Tuple ts k0 pt) (IzN b K G) (FN n G.length) (n+G.length+2) (TN b n G) where
 mem:=FN.mem.mpr (by lia)
 obj:=λi h R e U=>by
  obtain⟨⟨ov,H,_⟩,hI⟩:=R;obtain⟨c1,c2⟩:=FN.mem.mp U
  by_cases z:e<n+G.length
  .have q:e-n<G.length:=by lia
   have z:=(H.a (e-n) G[e-n] (by simp[q])).obj;rw[show n+(e-n)=e by lia] at z;exact z
  .rcases(show e=n+G.length\/e=n+G.length+1\/e=n+G.length+2 by lia) with rfl|rfl|rfl
   .exact⟨_,hI,λv z=>by cases z⟩
   .exact⟨_,H.o,λv z=>by cases z⟩
   .exact⟨_,H.z,λv z=>by cases z⟩
 keep:=λi h h' R k=>by
  obtain⟨⟨ov,H,l⟩,hI⟩:=R;have kk:∀d o,n<=d->d<n+G.length+3->h.get? d=some o->h'.get? d=some o:=λd o h1 h2=>k d (FN.mem.mpr ⟨h1,h2⟩) o
  exact⟨⟨ov,⟨kk _ _ (by lia) (by lia) H.z,kk _ _ (by lia) (by lia) H.o,λj l h=>(H.a j l h).at λo=>kk _ o (by lia) (by have:=ac7 h;lia),λ_ _ _ e=>e⟩,l⟩,kk _ _ (by lia) (by lia) hI⟩
 item:=by
  intro X hP hw hK U i qq s σ H E I hf R hg;subst hP hw hK;obtain⟨⟨ov,Z,lo⟩,hI⟩:=R;have lt:n+G.length+2<s.heap.objs.size:=az Z.z
  obtain⟨vs,lv,hg⟩:=hg;obtain⟨us,r,ha⟩:=at_of I lv hg;have ty:s.TypeIs (.ref (n+G.length+2)) "zip" := ⟨_,Z.z,rfl⟩;unfold pyNext;refine aa (wpAny_attempt (je (name:=Str.ofString "__next__") ty F.slot_zip_next (jo F.slot_zip_next ty F.entry_zip_next ?_ (F.args_zip_next_1 _))));refine aur Pb h3 Z lo hI hl ha λh1 Z1 t1=>aj ⟨_,rfl,?_⟩
  refine wpAny_letOwnedTupleGo_zip Z1.z λh2 z2 s2=>?_
  have s2:Heap.SameBut (n+G.length+2) h1 h2:=s2;have Z2:=Z1.sz s2.extBut (f1:=.none) z2;have t2:h2.get? s.heap.objs.size=some (tpN us):=s2.extBut _ _ (su lt) t1;refine⟨.ref s.heap.objs.size,upd H s.heap.objs.size (.tup vs),I.Y9 (t':=s.toks) hf (λc o U zz=>Z2.low c o (by rw[FN.mem] at U;lia) zz) (bf _) ⟨by rw[lv];exact au h3 (show 3<=sizeLine by decide),us,r,⟨_,t2,rfl,_,rfl,rfl⟩⟩,rfl,
   ⟨_,vs,rfl,I.yr.fresh (bf _),rfl,lv,λj a ys ja hy=>?_⟩,⟨⟨us,⟨Z2.z,Z2.o,Z2.a,λ_ _ _ e=>e⟩,ha.1⟩,Z2.low _ _ (by lia) hI⟩,λc U=>?_⟩
  .obtain⟨xs,x,q1,q2,q3⟩:=hg j a ja
   rw[I.ac5 hy q1,q2,q3]
  .rw[FN.mem] at U
   rw[jx (by lia)];exact(hf c (FN.mem.mpr U)).1
 done:=by
  intro X hP hw hK U i qq s σ H E I hf R hg;subst hP hw hK;obtain⟨⟨ov,Z,lo⟩,hI⟩:=R;obtain⟨e,a,xs,a0,q1,x1,hj⟩:=hg;obtain⟨i1,r1,p1⟩:=I.afn q1;have q4:=r1.length;have ty:s.TypeIs (.ref (n+G.length+2)) "zip" := ⟨_,Z.z,rfl⟩;unfold pyNext;refine aa (wpAny_attempt (je (name:=Str.ofString "__next__") ty F.slot_zip_next (jo F.slot_zip_next ty F.entry_zip_next ?_ (F.args_zip_next_1 _))));refine a05 (I.ok.hd U) a0 Z lo h3 hI hl (xs:=i1.toArray) p1 (by simp;lia) (λj a' qv qk=>?_) λh' e k z_=>?_
  .obtain⟨ys,y1,y2⟩:=hj j a' qv qk
   obtain⟨i2,r2,p2⟩:=I.afn y1;have q0:=r2.length;exact⟨i2.toArray,i2[i]'(by lia),p2,by simp⟩
  obtain⟨o,o1,o2⟩:=z_;exact aa (qe (T := "StopIteration") (b:=true) ⟨o,o1,o2⟩ isSubtype_stop (aj ⟨rfl,I.aia (t':=s.toks) hf λc o U zz=>k c o (by rw[FN.mem] at U;lia) zz⟩))
 self:=λ_ _ _ _ _ R h=>by obtain⟨⟨ov,Z,_⟩,_⟩:=R;exact wpAny_pyIter_zip Z.z h
theorem Za:∀{G:X1}{Z:Zl},Vals (G.map V.ref) Z->Z=G.map Value.ref
 |[],_,h=>by cases h;rfl|_::_,_,h=>by cases h with|cons r t=>cases r;rw[Za t];rfl
def a8u(hg:Gl X "zip")(hm:X.mg "zip" = none)(ha:PA X (a::es) ta)(hs:starEach (a::es) X.env=(false,eval a X.env)::starEach es X.env)(K5:(backTo pos (starEach es X.env)).any (·.1)=false) :
 PI X (.Tuple ts k0 pt) (.Call (.Name "zip" p) (a::es) [] pos) (fun σ H R=>ta σ H λvs H1=>∃(b:Nat->Bool)(G:X1),vs=G.map V.ref/\G.length=2/\(∀q∈G,∃xs,SqX (b q) X.K H1 q xs)/\R (IzN b X.K G) H1):=by
 intro U s σ H R I h;refine PyProof.Rows.Call_ (Kv I hg hm (show bootBuiltins "zip" = some (.type "zip") by decide+kernel) (qu (Bc (ha pos U s σ H _ I h) λus s1 z=>?_) hs K5));obtain⟨vs,H1,I1,r1,b,G,rfl,l,ht,hR⟩:=z;cases Za r1;obtain⟨c1,c2,c3⟩:=akf (G.map Value.ref) (by simpa using l);have h3:G.length<=3:=by lia
 have tp:∀q∈G,∃xs,SqB (b q) s1.heap q xs:=λq hq=>by obtain⟨xs,hx⟩:=ht q hq;obtain⟨i1,_,p1⟩:=I1.afn hx;exact⟨_,p1⟩
 refine aut h3 rfl c1 c2 c3 tp λh' Z hI kk=>wpAny_pyIter_zip Z.z ?_
 refine⟨s1.heap.objs.size+G.length+2,_,_,_,H1,rfl,I1.kept (t':=s1.toks) kk,auu h3 (λz=>by subst z;simp at l) λq hq=>by obtain⟨xs,e⟩:=tp q hq;exact e.lt,⟨⟨_,Z,by simp[Gi]⟩,hI⟩,λc hc=>?_,hR⟩;have qq:=(FN.mem.mp hc).1;exact I1.ajm qq (I1.yr.fresh qq)
end L2
namespace Sm
open PySem L2
open MW (Ex Eg OEx Ox Al mj Lv Tg Res dj MO Lp Cp Op2 Blt Bm Kx Src)
def akg{i:Nat}(h:(MW.By ds 0)[i]?=some d):∃z,ds[i]?=some z/\d=.tup [.int (i:Nat),z]:=by
 unfold MW.By at h;rw[ie,wy] at h;cases e:ds[i]? with
 |none=>rw[e] at h;simp at h|some z=>rw[e] at h;simp at h;exact⟨z,rfl,h.symm⟩
def aie{X:Cx}(r:mz X.K ι H ds U)(R:∀Z G,LeX ι H Z G->SqX bb X.K G q U):aka nm X.K ι H (.con (MW.By ds 0)) (Ien bb X.K q):=λZ G M1 le S1=>by
 refine⟨λi d hi hd=>?_,λ_=>⟨U,R Z G le,?_⟩⟩
 .obtain⟨z,e1,rfl⟩:=akg (show(MW.By ds 0)[i]?=some d from hd)
  obtain⟨v,g1,g2⟩:=(r.Iv le).get e1;refine⟨⟨U,v,R Z G le,g1⟩,λu H2 ⟨p,x,e2,e3,e4,e5⟩=>?_⟩;have ex:x=v:=by have:=e5 U (R Z G le);rw[g1] at this;cases this;rfl
  subst ex e2 e4;obtain⟨S2,zb,r2⟩:=Hc (X:=X) S1 e3 (.cons (.int _) (.cons g2 .nil));exact⟨zb,S2,r2⟩
 .show U.length<=(MW.By ds 0).length
  rw[<- r.length];simp[MW.By]
def auv{X:Cx}{n k:Nat}(S:mq nm X.K ι H M)(hM:M[n]?=some (.lst ds))(hn:ι.l[n]?=some q):aka nm X.K ι H (.el n k) (Ien false X.K q):=λqq H1 M1 le S1=>by
 refine⟨λi d hi Z=>?_,λG=>?_⟩
 .have Z:(match M1[n]? with|some (.lst ds)=>if ds.length=k then(ds[i]?).map λd=>.tup [.int i,d] else none|_=>none)=some d:=Z
  cases e:M1[n]? with
  |none=>rw[e] at Z;cases Z
  |some o=>cases o with
   |lst U =>
    rw[e] at Z;have Z:(if U.length=k then(U[i]?).map λd=>MW.D.tup [.int i,d] else none)=some d:=Z
    by_cases hz:U.length=k
    .rw[cg hz] at Z
     obtain⟨z,e1,rfl⟩:=bw.mp Z;obtain⟨R,k1,k2⟩:=S1.obj n _ q e (le.get hn);obtain⟨v,g1,g2⟩:=k2.get e1;refine⟨⟨R,v,Gm.of k1,g1⟩,λu H2 ⟨p,x,e2,e3,e4,e5⟩=>?_⟩;have ex:x=v:=by have:=e5 R (Gm.of k1);rw[g1] at this;cases this;rfl
     subst ex e2 e4;obtain⟨S2,zb,r2⟩:=Hc (X:=X) S1 e3 (.cons (.int _) (.cons g2 .nil));exact⟨zb,S2,r2⟩
    .rw[bz hz] at Z;cases Z
   |_=>rw[e] at Z;cases Z
 .have G:(match M1[n]? with|some (.lst ds)=>ds.length==k|_=>false)=true:=G
  cases e:M1[n]? with
  |none=>rw[e] at G;cases G
  |some o=>cases o with
   |lst U =>
    rw[e] at G;obtain⟨R,k1,k2⟩:=S1.obj n _ q e (le.get hn);exact⟨R,Gm.of k1,by rw[<- k2.length];exact f_ (show U.length=k by simpa using G)⟩
   |_=>rw[e] at G;cases G
def a8v(hg:Gl X "enumerate")(hm:X.mg "enumerate" = none)(ha:PE X a (tE nm W X.K a'))(T8:noStar a=true):PI X (.Tuple ts k0 pt) (.Call (.Name "enumerate" pr) [a] [] pos) (tI nm W X.K (.enm a')):=by
 intro qq s0 σ H R' I hh;obtain⟨ι,ρ,M,s,M',S,R,e,q⟩:=hh;rw[MW.Zm] at e;obtain⟨x,M1,e1,e⟩:=dz e;refine PI.weak (a8s (ts:=ts) (k0:=k0) (pt:=pt) (p:=pr) (pos:=pos) hg hm (aas ha ah2 (p6 T8 _ _)) (p6 T8 _ _)) (wi':=λqk H0 R0=>qk=σ/\H0=H/\R0=R') (λqk H0 R0 ⟨z1,z2,z3⟩=>?_) qq s0 σ H R' I ⟨rfl,rfl,rfl⟩;subst z1 z2 z3;refine W0 (es':=.cons a' .nil) (ds:=[x]) (M1:=M1) S R (by rw[MW.Cr,e1];simp) λZ H1 vs le U R1 r=>?_
 cases r with
 |cons r1 r2 =>
  cases r2;cases r1 with
  |@tup p ds G h1 rr =>
   cases e;exact⟨true,p,rfl,⟨G,Gu.of h1⟩,q Z H1 _ le U (aie rr λqv H2 zb=>Gu.of (zb.tup _ _ h1))⟩
  |@vl p ds G h1 n1 rr =>
   cases e;exact⟨false,p,rfl,⟨G,Gm.of h1⟩,q Z H1 _ le U (aie rr λqv H2 zb=>Gm.of (zb.lst _ _ n1.1 h1))⟩
  |@ref n p h1 =>
   have e:(match M1[n]? with|some (.lst ds)=>Res.ok (Src.el n ds.length) M1|_=>.bad)=.ok s M':=e;cases hM:M1[n]? with
   |none=>rw[hM] at e;cases e
   |some o=>cases o with
    |lst zs =>
     rw[hM] at e;cases e;obtain⟨G,k1,k2⟩:=U.obj n _ p hM h1;exact⟨false,p,rfl,⟨G,Gm.of k1⟩,q Z H1 _ le U (auv U hM h1)⟩
    |_=>rw[hM] at e;cases e
  |_=>cases e
def aw3(h:PE X a t):PE X (.BoolOp op [a] pos) t:=λZ s G H Q I q=>PyProof.Rows.BoolOp_one (h Z s G H Q I q)
def apr{X:Cx}{p q:Addr}{us vs:List V}(r1:mz X.K ι H G us)(r2:mz X.K ι H U vs)(h1:H p=some (.tup us))(h2:H q=some (.tup vs)):aka nm X.K ι H (.con (MW.Ua G U)) (IzN (λ_=>true) X.K [p,q]):=λqq H1 M1 le S1=>by
 have k1:SqX true X.K H1 p us:=Gu.of (le.tup _ _ h1);have k2:SqX true X.K H1 q vs:=Gu.of (le.tup _ _ h2);have l1:=r1.length;have l2:=r2.length;refine⟨λi d hi hd=>?_,λ_=>?_⟩
 .have hd:((G.zip U).map λp=>MW.D.tup [p.1,p.2])[i]?=some d:=hd
  rw[ie] at hd;obtain⟨⟨x,y⟩,e,rfl⟩:=bw.mp hd;obtain⟨ex,ey⟩:=List.getElem?_zip_eq_some.mp e;obtain⟨u,g1,g2⟩:=(r1.Iv le).get ex;obtain⟨v,g3,g4⟩:=(r2.Iv le).get ey;refine⟨⟨[u,v],rfl,λj a Z=>?_⟩,λu' H2 z=>?_⟩
  .match j,Z with
   |0,Z=>cases Z;exact⟨us,u,k1,g1,rfl⟩|1,Z=>cases Z;exact⟨vs,v,k2,g3,rfl⟩
  .obtain⟨t,ws,rfl,e6,rfl,e8,e9⟩:=z
   have a1:=e9 0 p us rfl k1;have a2:=e9 1 q vs rfl k2
   match ws,e8,a1,a2 with
   |[w1,w2],_,a1,a2 =>
    rw[g1] at a1;rw[g3] at a2;cases a1;cases a2;obtain⟨S2,zb,r3⟩:=Hc (X:=X) S1 e6 (.cons g2 (.cons g4 .nil));exact⟨zb,S2,r3⟩
 .have R:(Src.con (MW.Ua G U)).len=min G.length U.length:=by simp[Src.len,MW.Ua]
  rw[R];rcases ju U.length G.length with h|h
  .exact⟨1,q,vs,rfl,k2,by lia,λj a Z ha=>by
    have:j=0:=by lia
    subst this;cases ha;exact⟨us,k1,by lia⟩⟩
  .exact⟨0,p,us,rfl,k1,by lia,λj a Z=>absurd Z (qj _)⟩
def a8w(hg:Gl X "zip")(hm:X.mg "zip" = none)(ha:PA X (a::es) (tEs nm W X.K qq))(hs:starEach (a::es) X.env=(false,eval a X.env)::starEach es X.env)(K5:(backTo pos (starEach es X.env)).any (·.1)=false) :
 PI X (.Tuple ts k0 pt) (.Call (.Name "zip" pr) (a::es) [] pos) (tI nm W X.K (.zip qq)):=by
 intro Z s0 σ H R' I hh;obtain⟨ι,ρ,M,s,M',S,R,e,q⟩:=hh;rw[MW.af4] at e;obtain⟨ds,N1,e1,e⟩:=dz e;obtain⟨xs,ys,rfl,rfl,rfl⟩:∃xs ys,ds=[.tup xs,.tup ys]/\s=.con (MW.Ua xs ys)/\M'=N1:=by
  unfold MW.axn at e;split at e
  .cases e;exact⟨_,_,rfl,rfl,rfl⟩
  .cases e
 refine PI.weak (a8u (ts:=ts) (k0:=k0) (pt:=pt) (p:=pr) (pos:=pos) hg hm ha hs K5) (wi':=λU H0 R0=>U=σ/\H0=H/\R0=R') (λU H0 R0 z=>?_) Z s0 σ H R' I ⟨rfl,rfl,rfl⟩;obtain⟨rfl,rfl,rfl⟩:=z;refine W0 S R e1 λqk H1 vs le S1 R1 G=>?_
 cases G with
 |cons r1 G=>cases G with
  |cons r2 G =>
   cases G;cases r1 with
   |@tup p1 _ us1 h1 l1=>cases r2 with
    |@tup p2 _ us2 h2 l2 =>
     refine⟨λ_=>true,[p1,p2],rfl,rfl,λa ha=>?_,q qk H1 _ le S1 (apr l1 l2 h1 h2)⟩;simp only[dh,yg,or_false] at ha;rcases ha with rfl|rfl
     .exact⟨_,Gu.of h1⟩
     .exact⟨_,Gu.of h2⟩
theorem ac8:∀{Z:List Dv}{b:Bool},MW.allB Z=some b->∃bs:List Bool,Z=bs.map MW.D.bl/\b=bs.all id
 |[],b,e=>by cases e;exact⟨[],rfl,rfl⟩
 |.bl k::r,b,e=>by
  obtain⟨c,G,rfl⟩:=bw.mp (show(MW.allB r).map (k&&·)=some b from e);obtain⟨bs,rfl,rfl⟩:=ac8 G;exact⟨k::bs,rfl,by simp⟩
theorem Zb{U:Io}{H:Hp}{K:Fg}:∀{bs:List Bool}{Z:List V}{is:Zl},mz K U H (bs.map MW.D.bl) Z->Vals Z is->is=bs.map Value.bool
 |[],_,_,r,h=>by cases r;cases h;rfl
 |k::bs,_,_,r,h=>by
  cases r with
  |cons R r2 =>
   cases h with
   |cons h1 G =>
    cases R;cases h1;rw[Zb r2 G];rfl
def a8x(hc:X.calm=true):Bw X (.builtin "all") (rB nm X.K .all):=λqk s σ H vs us Q I Pj hh=>by
 obtain⟨ι,M,ds,d,M',S,r,e,q⟩:=hh;obtain⟨x,rfl,e⟩:∃x,ds=[x]/\Res.q8 (((MW.fj M x).bind MW.allB).map MW.D.bl) M=.ok d M':=by
  cases ds with
  |nil=>cases e
  |cons x l=>cases l with
   |nil=>exact⟨x,rfl,e⟩|cons _ _=>cases e
 obtain⟨e1,rfl⟩:=uo e;obtain⟨b,e2,rfl⟩:=bw.mp e1;obtain⟨xs,e3,e4⟩:=jc.mp e2;obtain⟨bs,rfl,rfl⟩:=ac8 e4;obtain⟨v,rfl,rv⟩:=Nz r rfl;obtain⟨u,rfl,ru⟩:=afm Pj;obtain⟨p,ws,rfl,hp,rl⟩:=ue S rv e3;cases ru;obtain⟨is,qq,pl,_⟩:=I.list (Gm.of hp);have U:=Zb rl qq;have Nj:p<s.heap.objs.size:=by obtain⟨_,e,_⟩:=pl.isList;exact az e
 refine call_all_walk (wpAny_pyIter_list pl.isList ?_);refine⟨_,_,_,_,_,_,λi=>bs.getD i true,rfl,Walks.list (A:=X.A.in1) (I.ok.hd hc) s.heap.objs.size p (gh Nj) is.toArray,⟨⟨_,bj _ rfl,rfl,rfl⟩,pl.isList.push _⟩,λi v s Q E hP R=>?_,λh' tk Z=>?_⟩
 .have hv:is[i]?=some v:=by simpa using hP
  rw[U,ie] at hv;obtain⟨k,Z,rfl⟩:=bw.mp hv;refine j9 ?_;have R:Q (bs.getD i true) s:=R;rw[qz,Z] at R;exact R
 .have ha:(List.range is.toArray.size).all (λi=>bs.getD i true)=bs.all id:=by
   rw[U];simp only[dm,bu];rw[yq,jg,jg];constructor
   .intro h k Z
    obtain⟨i,hi,rfl⟩:=xq Z;have:=h i (ji.mpr hi);simpa[qz,hi] using this
   .intro h i hi
    have G:=ji.mp hi;have:=h bs[i] (uc G);simpa[qz,G] using this
  rw[ha];exact⟨.bl _,H,I.kept (t':=tk) (old_kept Z),rfl,q ι H _ (Le.refl _ _) S (.bl _)⟩
def auw{prog:Program}{w:World}{κ:Type}[DecidableEq κ]{Z:HeapKind prog w κ}{A:Around}{E:Y1}{s:Shared}{d a:Addr}{R:List (κ×Addr×Value)}{k:κ}{v:Value}{Q:Y1}(hu:Z.room A)(G:Z.is s.heap k a)(hm:s.heap.DictOfH Z d R)(hz:R.length<=sizeLine)
 (h1:∀p,atKey R k=some p->Q p.2 { s with toks:=s.toks+Z.draws k })
 (h2:atKey R k=none->∀h',h'.DictOfH Z d (R++[(k,a,v)])->Heap.SameBut d s.heap h'->Q v { s with heap:=h',toks:=s.toks+Z.draws k }) :
 wpAny (model prog w) A (dictSetDefault d (.ref a) v) Q E s:=by
 obtain⟨o,es,ep,c1,c2,U,c4,c5,c6⟩:=hm;unfold dictSetDefault;refine jz (aa (Z.pyHash hu G (aa (wpAny_dictFind_heap (s:={ s with toks:=s.toks+Z.draws k }) hu G c1 U c4 c5 c6 (λno=>?_) λj p hj=>?_))))
 .have z:=h2 (atKey_none_of_get no)
  have nk:=not_mem_keys_of_get no;have hs:=size_of_entries c4;have sb:Heap.SameBut d s.heap (s.heap.update d (Obj.mapDictKeys (·.push ⟨Z.hash k,.ref a,v⟩))):=jj ..;have kp:∀{x:κ}{b:Addr},Z.is s.heap x b->Z.is (s.heap.update d (Obj.mapDictKeys (·.push ⟨Z.hash k,.ref a,v⟩))) x b:=λq=>Z.keeps q c1 U sb
  refine aa (wpAny_rule (aa (wpAny_updateDictKeys (hz:=by lia) (s:={ s with toks:=s.toks+Z.draws k }) c1 U (aj (z _ ⟨_,_,ep+1,lz _ c1 (Obj.isFreed_of_dict (Obj.data_mapDictKeys U _)),c2.mapDictKeys _,Obj.data_mapDictKeys U _,by simp[c4,entryOfKey],λx hx=>?_,?_⟩ sb)))))
  .rcases bx.mp hx with q|q
   .exact kp (c5 x q)
   .cases jm.mp q;exact kp G
  .rw[gf]
   exact oh.mpr ⟨c6,by simp,λx hx y hy e=>nk (by cases jm.mp hy;rw[show x=k from e] at hx;exact hx)⟩
 .have z:=h1 p (atKey_of_get c6 hj)
  refine aa (uw (s:={ s with toks:=s.toks+Z.draws k }) c1 U ?_);rw[entry_at c4 j,hj];exact aa (wpAny_rule (aj z))
def afo{prog:Program}{w:World}{κ:Type}[DecidableEq κ](Z:HeapKind prog w κ)(d a:Addr)(hd:(d==sysModules)=false)(v:Value) :
 MeetsIn prog w (Builtin.«dict.setdefault» ⟨[.ref d,.ref a,v],[]⟩) (λA R s=>Z.room A.in1/\∃k G,Z.is s.heap k a/\s.heap.DictOfH Z d G/\G.length<=sizeLine /\
  (∀p,atKey G k=some p->R (.ok (.ret p.2)) { s with toks:=s.toks+Z.draws k }) /\
  (atKey G k=none->∀U,U.DictOfH Z d (G++[(k,a,v)])->Heap.SameBut d s.heap U->R (.ok (.ret v)) { s with heap:=U,toks:=s.toks+Z.draws k })) :=
 .of_wp λA R s h=>by obtain⟨hu,k,G,hk,hm,hz,h1,h2⟩:=h;refine aa (aa (wpAny_notOrdered_dict hm.typeIs (?_:wpAny _ _ (pure (d,Value.ref a,some v)) _ _ s)));refine aj (?_:wpAny _ _ (if(d==sysModules)=true then _ else(dictSetDefault d (.ref a) v >>= _)) _ _ s);rw[hd];exact aa (auw hu hk hm hz (λp q=>aj ⟨_,rfl,h1 p q⟩) λq U m sb=>aj ⟨_,rfl,h2 q U m sb⟩)
def aif(h:MW.onT o M f=.ok d M'):∃n Z,o=.ref n/\M[n]?=some (.dT Z)/\f n Z=.ok d M':=by
 cases o with
 |ref n =>
  simp only[MW.onT] at h;cases e:M[n]? with
  |none=>rw[e] at h;cases h
  |some o=>cases o with
   |dT Z=>rw[e] at h;exact⟨n,Z,rfl,e,h⟩|_=>rw[e] at h;cases h
 |_=>cases h
def aps(e:MW.Fw .setdefault x ds M=.ok d R):∃n k U G q,x=.ref n/\ds=[k,U]/\M[n]?=some (.dT G)/\MW.Px k=some q/\((MW.Eh G q=some d/\R=M)\/(MW.Eh G q=none/\G.length<100000/\d=U/\R=M.set n (.dT (G++[(q,U)])))):=by
 obtain⟨n,G,rfl,hM,Z⟩:=aif e
 match ds,Z with
 |[k,U],Z =>
  cases hk:MW.Px k with
  |none=>simp only[hk] at Z;cases Z
  |some q =>
   simp only[hk] at Z;refine⟨n,k,U,G,q,rfl,rfl,hM,hk,?_⟩;cases hl:MW.Eh G q with
   |some v=>simp only[hl] at Z;cases Z;exact .inl ⟨rfl,rfl⟩
   |none =>
    simp only[hl] at Z;obtain⟨h1,h2⟩:=aaz Z;cases h2;exact .inr ⟨rfl,h1,rfl,rfl⟩
 |[],Z=>cases Z|[_],Z=>cases Z|_::_::_::_,Z=>cases Z
set_option tactic.hygienic true in
def ty_dict{X:Cx}(S:mq nm X.K Z H M)(r:Rep X.K Z H x v)(h:MW.Lh .setdefault x M=true):tyV X.K "dict" v H:=by
 cases r with
 |@ref n p hp =>
  have h:(match M[n]? with|some (.dT _)=>true|_=>false)=true:=h;split at h
  .rename_i Y
   obtain⟨l,G,_⟩:=S.obj n _ p Y hp;exact .inr (.inr (.inl ⟨rfl,.inr ⟨_,G⟩⟩))
  .cases h
 |_=>cases h
def a07(hu:X.A.units+1<cLine):MtR X "dict.setdefault" (rM nm X.K .setdefault):=λq1 s σ H v vs u us Q I ru Pj hh=>by
 obtain⟨ι,M,x,ds,d,M',S,r,rs,e,q⟩:=hh;obtain⟨n,k,d0,ou,U,rfl,rfl,hM,hk,hd⟩:=aps e;cases rs with
 |cons rk rt=>cases rt with
  |cons rd rt =>
   cases rt;cases Pj with
   |cons q0 R=>cases R with
    |cons qk R =>
     cases R;cases r with
     |@ref _ p ha =>
      cases ru;obtain⟨l,h1,h2⟩:=S.obj n _ _ hM ha;obtain⟨b,rfl,hb⟩:=aat rk hk;cases q0;obtain⟨z,qq,xs,G,dd⟩:=awr I.yr h1;have q2:=Paired.length G;have Z:=G.val U;refine call_meetsIn PySem.F.slot_dict_setdefault dd.typeIs PySem.F.entry_dict_setdefault (PySem.F.args_dict_setdefault_3 _ _ _) (afo (tupleKind (Ao X.prog X.w)) p b qq _) ⟨tupleKind_room_in1 hu,U,xs,Wi I.yr hb,dd,by lia,λpp hp=>?_,λhn h' qv sb=>?_⟩
      .rw[hp] at Z
       rcases hd with⟨g1,rfl⟩|⟨g1,_⟩
       .obtain⟨y,g2,g3⟩:=(h2.look (k:=U)).1 d g1
        rw[g2] at Z;exact⟨y,H,I.tok _,Z,q ι H _ (Le.refl _ _) S g3⟩
       .rw[(h2.look (k:=U)).2 g1] at Z
        exact(show False from Z).elim
      .rw[hn] at Z
       rcases hd with⟨g1,_⟩|⟨g1,g2,rfl,rfl⟩
       .obtain⟨y,g3,_⟩:=(h2.look (k:=U)).1 d g1
        rw[g3] at Z;exact(show False from Z).elim
       .obtain⟨S2,zb⟩:=S.put (u:=.dT (l++[(U,_)])) (o:=.dT (ou++[(U,_)])) hM ha λle=>⟨_,q9,(h2.mono le).snoc rfl (rd.mono le)⟩
        refine⟨_,_,?_,qk,q _ _ _ zb S2 (rd.mono zb)⟩;obtain⟨o,es,ep,f1,f2,f3,f4,_,f5⟩:=qv;have q3:=h2.length;refine aag I (by rw[h1];trivial) sb ⟨o,f1⟩ ⟨by have:=Rc g2;simp;lia,qq,_,KT.keeps (Paired.snoc G ⟨rfl,hb,qk⟩) λc ys ec=>?_,o,es,ep,f1,f2,f3,f4,f5⟩;rw[jx (ab6 ec h1 (λz=>nomatch z))];exact ec
section
variable{prog:Program}{w:World}{A:Around}{E:Y1}{s:Shared}{it d:Addr}{i ep:Nat}{o:Obj}{es:Array DictEntry}{Q:Option Value->Shared->Prop}
def afp(Z:(d==sysModules)=false) :
 MeetsIn prog w (Builtin.«dict.values» ⟨[.ref d],[]⟩) (λ_ R s=>s.TypeIs (.ref d) "dict"/\R (.ok (.ret (.ref s.heap.objs.size))) { s with heap:=s.heap.push { cls:=.type "dict_values",data:=.fields #[.ref d] } }) :=
 .of_wp λA R s h=>by obtain⟨T,h⟩:=h;refine aa (aa (wpAny_notOrdered_dict T (?_:wpAny _ _ (pure d) _ _ s)));refine aj (?_:wpAny _ _ (Builtin.Dict.showsAll d >>= _) _ _ s);unfold Builtin.Dict.showsAll;rw[Z];exact aa (aj (aa (iw (aj ⟨_,rfl,h⟩))))
def akh{v:Addr}{Q:Y1}(Z:s.heap.IsValuesView v d)(G:s.heap.get? d=some o)(U:o.data=.dict es ep)
 (h:Q (.ref s.heap.objs.size) { s with heap:=s.heap.push { cls:=.type "dict_valueiterator",data:=.fields #[.ref d,.int 0 0,.int es.size 0,.int ep 0] } }):wpAny (model prog w) A (pyIter (.ref v)) Q E s:=by
 obtain⟨ov,R,v2,v3⟩:=id Z;refine wpAny_pyIter_slot Z.typeIs PySem.F.slot_dict_values_iter (jo PySem.F.slot_dict_values_iter Z.typeIs PySem.F.entry_dict_values_iter ?_ (PySem.F.args_dict_values_iter_1 _));refine aa (aj (aa (aa (d8 R v3 (x:=.ref d) rfl (aj (aa ?_))))));unfold Builtin.Dict_items.newIterator;refine aa (uw G U (aa (wpAny_dictEpoch G U ?_)));simp only[show Builtin.Dict_items.ownsTuple "dict_valueiterator" = false by decide,gm,jt];exact iw (aj ⟨_,rfl, "dict_valueiterator",_,⟨_,bj _ rfl,rfl⟩,ug.lookup,h⟩)
def ac9(qq:s.heap.IsValIter it d i es.size ep)(ho:s.heap.get? d=some o)(hd:o.data=.dict es ep)
 (h1:∀U:i<es.size,∀Z,Z.IsValIter it d (i+1) es.size ep->Heap.SameBut it s.heap Z->Q (some es[i].val) { s with heap:=Z })
 (hh:A.handled=none) (h2:es.size<=i->∀Z,Heap.ExtBut it s.heap Z->Q none { s with heap:=Z }):wpAny (model prog w) A (pyNext (.ref it)) Q E s:=by
 have T:=qq.typeIs;obtain⟨oi,hi,hc,R⟩:=id qq;unfold pyNext;refine aa (wpAny_attempt (je (name:=Str.ofString "__next__") T ug (jo ug T PySem.F.entry_dict_valueiterator_next ?_ (PySem.F.args_dict_valueiterator_next_1 _))));refine aa (aj (aa (aa (aa (uy T (aj (aa (wpAny_fieldsOf hi R ?_))))))));rw[show Builtin.Dict_items.ownsTuple "dict_valueiterator" = false by decide];refine(?_:wpAny _ _ (if(Value.ref d==Value.none)=true then _ else _) _ _ s);rw[bz (nofun:¬((Value.ref d==Value.none)=true))];refine aa (aj (aa (uw ho hd ?_)));rw[bz (by simp)];refine aa (aj (aa (wpAny_dictEpoch ho hd ?_)));rw[bz (by simp)];refine aj ?_;rcases ju i es.size with U|U
 .have G:(s.heap.update it (Obj.mapFields (·.setIfInBounds 1 (rawInt ((i:Int)+1))))).IsValIter it d (i+1) es.size ep :=
   ⟨_,lz _ hi (u6 (m6 R _)),(Obj.cls_mapFields ..).trans hc,by rw[m6 R];simp[rawInt]⟩
  simp only[show ¬((i:Int)<0) by lia,jt,jk,wg U];refine aa (aa (uy T (aj (aa (wpAny_isOneOf_valiter T ?_)))));refine(?_:wpAny _ _ (setField (.ref it) 1 (rawInt ((i:Int)+1)) >>= _) _ _ s);refine aa (um hi R (by simp) (aa (jz (aa (wpAny_isOneOf_valiter (s:={ s with heap:=_ }) G.typeIs (aa (wpAny_isOneOf_valiter (s:={ s with heap:=_ }) G.typeIs ?_)))))));exact aj (aj ⟨_,rfl,aj (h1 U _ G (jj ..))⟩)
 .simp only[show ¬((i:Int)<0) by lia,jt,jk,Array.getElem?_eq_none U]
  refine aa (aa (uy T (aj ?_)));refine(?_:wpAny _ _ (setField (.ref it) 0 .none >>= _) _ _ s);refine aa (um hi R (by simp) ?_);refine STb.Zc (show A.in1.handled=none from hh) λZ x k z_=>?_
  obtain⟨o,e1,e2⟩:=z_;exact aa (qe (T := "StopIteration") (b:=true) ⟨o,e1,e2⟩ isSubtype_stop (aj (h2 U _ λb o n z=>k b o ((jj ..).extBut b o n z))))
end
theorem aw4{R U:Type}{F:R->U->Prop}{b:U}:∀{Z:List R}{G:List U}{i:Nat},Paired F Z G->G[i]?=some b->∃a,Z[i]?=some a/\F a b
 |_,_,0,.cons h _,e=>by cases e;exact⟨_,rfl,h⟩|_,_,i+1,.cons _ t,e=>aw4 (i:=i) t e
noncomputable def Itv(a:Addr)(o:Obj)(l:List (List Key×V)):It :=
 ⟨λi H=>H a=some (.Jg o (.dT l))/\i<l.length,λi H x Z=>Z=H/\∃p,l[i]?=some p/\x=p.2,λi H=>H a=some (.Jg o (.dT l))/\l.length<=i⟩
theorem akj{es:Array DictEntry}{ep:Nat}{l:List (List Key×V)}(a it:Addr)(hd:o.data=.dict es ep)(hz:es.size=l.length):Turn P w K tg (Itv a o l) [it] it (λi h=>h.IsValIter it a i es.size ep) where
 mem:=by simp
 obj:=λi h Z b R=>by cases jm.mp R;obtain⟨o,e,c,d⟩:=Z;exact⟨o,e,λv z=>by rw[d] at z;cases z⟩
 keep:=λi h h' Z k=>Z.at λo e=>k it (by simp) o e
 item:=by
  intro X hP hw hK hc i G s σ H E I hf Z hg;subst hP hw hK;obtain⟨e,hl⟩:=hg;obtain⟨ho,_,_,xs,U,o',qv,q0,g1,g2,g3,g4,g5⟩:=(show Aq X.prog X.w H s.heap a (.Jg o (.dT l)) from I.yr a _ e);rw[ho] at g1;cases g1;rw[hd] at g3;cases g3;obtain⟨f0,f1,f2,f3,f4,f5⟩:=hf it (by simp);refine ac9 Z ho hd (λqk h' qq sb=>?_) (I.ok.hd hc) (λz=>absurd hl (by lia));have I1:Inv X G σ H { s with heap:=h' }:=I.turned (t':=s.toks) (λb o R e=>(sb.2 b R).trans e) f0 f1 f3 f4 f5;have hx:xs[i]?=some (xs[i]'(by rw[<- U.length];exact hl)):=du _;have hk:es[i].val=(xs[i]'(by rw[<- U.length];exact hl)).2.2:=by have:=entry_at g4 i;rw[hx,wg qk] at this;exact o9 DictEntry.val (iu this)
  obtain⟨p,hp,q1,q2,q3⟩:=aw4 U hx;obtain⟨oi,e1,e2,e3⟩:=id qq;refine⟨_,rfl,ahi (s:={ s with heap:=h' }) e1 e2 e3 (by decide) ⟨p.2,H,I1,by rw[hk];exact q3,⟨rfl,p,hp,rfl⟩,qq,λb R=>(hf b R).1⟩⟩
 done:=by intro X hP hw hK hc i G s σ H E I hf Z hg;subst hP hw hK;obtain⟨e,hl⟩:=hg;obtain⟨ho,_⟩:=(show Aq X.prog X.w H s.heap a (.Jg o (.dT l)) from I.yr a _ e);obtain⟨f0,f1,f2,f3,f4,f5⟩:=hf it (by simp);exact ac9 Z ho hd (λz=>absurd hl (by lia)) (I.ok.hd hc) λ_ h' eb=>⟨rfl,I.turned (t':=s.toks) (λb o R e=>eb b o R e) f0 f1 f3 f4 f5⟩
 self:=λ_ _ _ _ _ Z h=>wpAny_pyIter_valiter Z h
def qb.vals{f:κ->U->Prop}(h:qb K R H f l l'):∀{i:Nat}{p Z},l[i]?=some p->l'[i]?=some Z->Rep K R H p.2 Z.2:=by
 induction h with
 |nil=>intro i p Z e;simp at e
 |cons k r t ih =>
  intro i p Z e G;cases i with
  |zero=>cases e;cases G;exact r|succ i=>exact ih e G
def a09{qq:Pos}(ha:PE X a (tE nm W X.K a'))(q0:attributeBase a "values" X.env (eval a X.env)=eval a X.env)(q3:(qq.endLine==pos.line)=true):PI X tg (.Call (.Attribute a "values" qq) [] [] pos) (tI nm W X.K (.vals a')):=by
 intro U s σ H R I hh;obtain⟨ι,ρ,M,sc,M',S,Rv,e,q⟩:=hh;rw[MW.abj] at e;obtain⟨x,M1,e1,e⟩:=dz e;refine wpAny_Call_method0_late q0 q3 (Bc (ha U s σ H (λv G=>∃Z,Le ι H Z G/\mq nm X.K Z G M1/\Rep X.K Z G x v) I (one S Rv e1 λZ G v le S1 R1 r=>⟨Z,le,S1,r⟩)) λv s1 z_=>?_);obtain⟨x',G,I1,r1,Z,le,S1,r⟩:=z_;cases r with
 |@ref n p h1 =>
  have e:(match M1[n]? with|some (.dT ou)=>Res.ok (Src.con (ou.map Prod.snd)) (M1.set n (.dF ou))|_=>.bad)=.ok sc M':=e;cases hn:M1[n]? with
  |none=>rw[hn] at e;cases e
  |some ob=>cases ob with
   |dT ou =>
    rw[hn] at e;cases e;cases r1;obtain⟨l,g1,g2⟩:=S1.obj n _ p hn h1;obtain⟨z,qk,xs,qv,o,es,ep,k1,k2,k3,k4,k5⟩:=(show Aq X.prog X.w G s1.heap p (.dT l) from I1.yr p _ g1);have T:s1.TypeIs (.ref p) "dict" := ⟨o,k1,k2.1⟩;have hz:es.size=l.length:=(size_of_entries k4).trans qv.length.symm;obtain⟨S2,zb⟩:=S1.put (u:=.Jg o (.dT l)) (o:=.dF ou) hn h1 λle=>⟨l,o,q9,g2.mono le⟩
    have I2:Inv X U σ (upd G p (.Jg o (.dT l))) s1:=I1.write (x:=p) (e:=p) (t':=s1.toks) (by rw[g1];trivial) (.inl rfl) (λ_ _ _ z=>z) ⟨o,k1⟩ ⟨k1,z,qk,xs,KT.keeps qv λc ys ec=>by rw[jx (ab6 ec g1 (λz=>nomatch z))];exact ec,o,es,ep,k1,k2,k3,k4,k5⟩;refine⟨"dict", "dict.values",PySem.F.plainAttrs_dict,PySem.F.slot_dict_values,PySem.F.type_dict_values,T,λa ea=>by cases ea;exact⟨o,k1,k2.2.1⟩,Calls.callWith_builtin rfl (PySem.evalArgs_none (call_meetsIn PySem.F.slot_dict_values T PySem.F.entry_dict_values (PySem.F.args_dict_values_1 _) (afp qk) ⟨T,?_⟩))⟩;have kp:∀{h:Heap}{ob:Obj}{b:Addr}{c:Obj},h.get? b=some c->(h.push ob).get? b=some c:=λe=>aq _ e
    refine akh (s:={ s1 with heap:=s1.heap.push { cls:=.type "dict_values",data:=.fields #[.ref p] } }) ⟨_,bj _ rfl,rfl,rfl⟩ (kp k1) k3 ?_;have q4:(s1.heap.push { cls:=.type "dict_values",data:=.fields #[.ref p] }).objs.size=s1.heap.objs.size+1:=j5 ..;refine⟨_,[_],_,Itv p o l,upd G p (.Jg o (.dT l)),rfl,I2.kept (t':=s1.toks) λb c e=>kp (kp e),akj p _ k3 hz,⟨_,bj _ rfl,rfl,rfl⟩,λb hb=>?_,q Z _ _ (le.trans zb) S2 λq5 H3 M3 T4 S3=>⟨λi d hi hd=>?_,λ_=>⟨T4.Jg _ _ _ q9,?_⟩⟩⟩
    .cases jm.mp hb
     rw[q4];exact I2.ajm (qg _) (I2.yr.fresh (qg _))
    .have hd:(ou.map (·.2))[i]?=some d:=hd
     rw[ie] at hd;obtain⟨y,y1,rfl⟩:=bw.mp hd;refine⟨⟨T4.Jg _ _ _ q9,by rw[g2.length.symm];simpa[Src.len] using hi⟩,λv H4 ⟨hH,pp,q1,q2⟩=>?_⟩;subst hH q2;exact⟨Le.refl _ _,S3,((g2.vals y1 q1).mono zb).Iv T4⟩
    .rw[<- g2.length];simp[Src.len]
   |_=>rw[hn] at e;cases e
 |_=>cases e
open PySem L2 PyProof.Rows
def aih{X:Cx}(S:mq nm X.K ι H M)(r:Rep X.K ι H x v)(e:MW.j7 M x=some ds):as6 X.K v H (!ds.isEmpty):=by
 obtain⟨p,G,rfl,Z,R⟩:=Hf S r e;have U:(!ds.isEmpty)=!G.isEmpty:=by cases R<;>rfl
 rcases Z with Z|Z
 .exact .inl ⟨G,Gm.of Z,U⟩
 .exact .inr (.inl ⟨G,Gu.of Z,U⟩)
def aw5(ha:PE X a (tE nm W X.K a'))(he:∀Z,isTrue a X.env Z=(do let v <- Z;standAt a.pos;holding [v] (truthy v))):PT X a (tQ nm W X.K (.tru a')):=by intro G s σ H Q I hh;obtain⟨ι,ρ,M,b,M',S,R,e,q⟩:=hh;rw[MW.af5] at e;obtain⟨x,M1,e1,e2⟩:=dz e;obtain⟨e3,rfl⟩:=uo e2;obtain⟨ds,e4,e5⟩:=bw.mp e3;cases e5;refine ant ha he G s σ H Q I ⟨ι,ρ,M,x,M',S,R,e1,λU H1 v le S1 r=>?_⟩;exact⟨!ds.isEmpty,aih S1 r e4,q U H1 le S1⟩
def a1a(ha:PE X a (tE nm W X.K a')):PE X (.UnaryOp .Not a pos) (tE nm W X.K (.ntr a')):=by
 intro G s σ H Q I hh;obtain⟨ι,ρ,M,d,M',S,R,e,q⟩:=hh;rw[MW.Qc] at e;obtain⟨x,M1,e3,e4⟩:=dz e;obtain⟨e5,rfl⟩:=uo e4;obtain⟨ds,e6,rfl⟩:=bw.mp e5;refine UnaryOp_ (Bc (ha G s σ H (λv Z=>∃k,as6 X.K v Z k/\Q (.bl !k) Z) I ⟨ι,ρ,M,x,M',S,R,e3,λU Z v le S1 r=>⟨!ds.isEmpty,aih S1 r e6,by rw[Bool.not_not];exact q U Z _ le S1 (.bl _)⟩⟩) λv s1 z=>?_);obtain⟨y,Z,I1,r1,q1⟩:=z;exact not_of (Bc (anr G s1 σ Z y v (λk Z=>Q (.bl !k) Z) I1 r1 q1) λk s2 z=>by
  obtain⟨H2,I2,q2⟩:=z;exact⟨.bl !k,H2,I2,rfl,q2⟩)
def a1b(ha:PE X a (tE nm W X.K a'))(he:∀Z,isTrue a X.env Z=(do let v <- Z;standAt a.pos;holding [v] (truthy v))):PT X (.UnaryOp .Not a pos) (tQ nm W X.K (.ntr a')) :=
 PT.of (ang (aw5 ha he)) fun σ H Q ι ρ M b M' S R e q=>by rw[MW.Qc] at e;obtain⟨x,M1,e3,e4⟩:=dz e;obtain⟨e5,rfl⟩:=uo e4;obtain⟨U,e6,e7⟩:=bw.mp e5;cases e7;exact⟨ι,ρ,M,!U.isEmpty,M',S,R,by rw[MW.af5,e3];simp[e6],λG H' le S'=>by show Q (!!U.isEmpty) H';rw[Bool.not_not];exact q G H' le S'⟩
theorem Xa:∀(k:Int)(l:X9),k∈MW.Aw l↔k∈l
 |k,[]=>Iff.rfl
 |k,x::l=>by
  unfold MW.Aw;have Z:=Xa k l
  by_cases h:x∈l
  .rw[cg h,Z]
   exact⟨bh _,λq=>by rcases dh.mp q with rfl|q;exact h;exact q⟩
  .rw[bz h,dh,dh,Z]
theorem aa3:∀l,(MW.Aw l).Nodup
 |[]=>.nil
 |x::l=>by
  unfold MW.Aw
  by_cases h:x∈l
  .rw[cg h];exact aa3 l
  .rw[bz h];exact kj.mpr ⟨λq=>h ((Xa x l).mp q),aa3 l⟩
theorem ada{ι:Io}{H:Hp}{K:Fg}:∀{U:List Dv}{Z:List V}{is:Zl}{G:X9},mz K ι H U Z->Vals Z is->MW.X5 U=some G->PyProof.Rows.IntsAre is G
 |_,_,_,_,.nil,.nil,h=>by cases h;exact .nil
 |_,_,_,_,.cons r t,.cons rv tv,h=>by
  cases r<;>simp only[MW.X5] at h<;>try cases h
  obtain⟨R,e1,e2⟩:=bw.mp h;subst e2;obtain⟨tk,rfl⟩:=rv;exact .cons _ _ (ada t tv e1)
def afq(e:MW.ph .Js ds M=.ok d R):∃G Z,ds=[.tup G]/\MW.X5 G=some Z/\Z.length<31/\d=.int (MW.Aw Z).length/\R=M:=by
 obtain⟨x,rfl,e⟩:=Su e;cases x with
 |tup G =>
  obtain⟨e1,e2⟩:=uo (show Res.q8 ((MW.X5 G).bind λis=>if is.length<31 then some (MW.D.int (MW.Aw is).length) else none) M=.ok d R from e);obtain⟨Z,e3,U⟩:=jc.mp e1
  by_cases h:Z.length<31
  .rw[cg h] at U
   exact⟨G,Z,rfl,e3,h,(iu U).symm,e2⟩
  .rw[bz h] at U;cases U
 |_=>cases e
def apt(hr:Fj 8 X.A)(hg:Gl X n)(hm:X.mg n=none)(hv:bootBuiltins n=some (.builtin "len"))(hn:n≠"__name__")(Ph:(n==("__debug__" : Str))=false)(zk:Gl X tn)(q5:X.mg tn=none)(q6:bootBuiltins tn=some (.type "set"))(q0:tn≠"__name__")(q7:(tn==("__debug__" : Str))=false)(ha:PA X [a] (tEs nm W X.K (.cons a' .nil)))(he:starEach [.Call (.Name tn p') [a] [] q2] X.env=(false,eval (.Call (.Name tn p') [a] [] q2) X.env)::starEach [] X.env)(K5:(backTo q1 (starEach [] X.env)).any (·.1)=false)(zz:starEach [a] X.env=(false,eval a X.env)::starEach [] X.env)(q3:(backTo q2 (starEach [] X.env)).any (·.1)=false) :
 PE X (.Call (.Name n p) [.Call (.Name tn p') [a] [] q2] [] q1) (tE nm W X.K (.blt .Js (.cons a' .nil))):=by
 intro G s σ H Q I hh;obtain⟨ι,ρ,M,d,M',S,R,e,q⟩:=hh;rw[MW.Qa] at e;obtain⟨ds,M1,e1,e⟩:=dz e;obtain⟨xs,U,rfl,e3,hl,rfl,rfl⟩:=afq e;refine o4 (Kv I hg hm hv ?_ hn Ph);refine xg (Q:=EP X G σ Q) ?_ he K5;rw[he];show wpAny _ _ (spliced ((false,eval (.Call (.Name tn p') [a] [] q2) X.env)::backTo q1 (starEach [] X.env))) _ _ s;refine Calls.spliced_cons ?_;refine o4 (Kv I zk q5 q6 ?_ q0 q7);refine qu (Bc (ha q2 G s σ H (λvs H1=>∃Z v,vs=[v]/\Rep X.K Z H1 (.tup xs) v/\Le ι H Z H1/\mq nm X.K Z H1 M') I ⟨ι,ρ,M,[.tup xs],M',S,R,e1,λZ H1 vs le S1 r=>?_⟩) λus s1 z=>?_) zz q3
 .obtain⟨v,ev,rv⟩:=Nz r rfl
  exact⟨Z,v,ev,rv,le,S1⟩
 obtain⟨vs,H1,I1,r1,Z,v,rfl,rx,q4,S1⟩:=z;obtain⟨u,rfl,ru⟩:=afm r1;cases rx with
 |@tup p _ ws hp rl =>
  cases ru;obtain⟨is,zv,pl,_⟩:=I1.tuple (Gu.of hp);have nl:=STb.U8 (aa3 U) (λk hk=>(Xa k U).mp hk);refine STb.ai4 hr.hd (show s1.heap.IsTuple p is.toArray from pl) (by simpa using ada rl zv e3) (B:=U) (λk hk=>hk) hl λh' tk n' qv hS zw=>?_
  refine(?_:wpAny _ _ (spliced []) _ _ _);refine Calls.spliced_nil ?_;obtain⟨o,es,ep,t,g1,g2,g3,g4⟩:=hS.get;obtain⟨ys,o',qq,z0,t',SN,qk,q0,_⟩:=hS;have eo:o'=o:=iu (SN.get.symm.trans g1);subst eo;have ed:qq=es:=by have:=SN.dat.symm.trans g3;injection this
  subst ed;have sz:qq.size=(MW.Aw U).length:=by
   rw[SN.size];refine Nat.le_antisymm ?_ ?_
   .have:=STb.U8 SN.nod (b:=MW.Aw U) λk hk=>(Xa k U).mpr ((qk k).mpr hk)
    rwa [bu] at this
   .have:=STb.U8 (aa3 U) (b:=ys.map (·.1)) λk hk=>(qk k).mp ((Xa k U).mp hk)
    rwa [bu] at this
  refine call_len_set (s:={ s1 with heap:=h',toks:=tk }) g1 g2 g3 g4 (by lia) ?_;rw[sz];exact⟨.int _,H1,I1.kept qv,⟨_,rfl⟩,q Z H1 _ q4 S1 (.int _)⟩
def auy(e:MW.Fw .index x ds M=.ok d M'):∃Z G j,ds=[Z]/\MW.fj M x=some G/\MW.axk M Z G=some j/\d=.int ((j:Nat):Int)/\M'=M:=by obtain⟨Z,rfl,e0⟩:=Su e;obtain⟨U,e2⟩:=uo e0;obtain⟨j,e3,e4⟩:=bw.mp U;obtain⟨G,e6,R⟩:=jc.mp e3;exact⟨Z,G,j,rfl,e6,R,e4.symm,e2⟩
def aa4:∀{bs:List Bool}{j:Nat},bs.findIdx? id=some j->bs[j]?=some true/\∀m,m<j->bs[m]?=some false:=fun{bs j} h=>by obtain⟨G,U,R⟩:=List.findIdx?_eq_some_iff_getElem.mp h;refine⟨by rw[du G];simpa using U,λm Z=>?_⟩;have:=R m Z;rw[du (d_ Z G)];simpa using this
def auz(hr:Roo 8 X.A):MtR X "list.index" (rM nm X.K .index):=λqv s σ H v vs u us Q I ru Pj hh=>by
 obtain⟨ι,M,x,ds,d,M',S,r,rs,e,q⟩:=hh;obtain⟨d0,xs,j,rfl,e1,e2,rfl,rfl⟩:=auy e;cases rs with
 |cons hd ht =>
  cases ht;cases Pj with
  |cons hu U =>
   cases U;obtain⟨bs,e3,e4⟩:=jc.mp (show(MW.T9 M' d0 xs).bind (·.findIdx? id)=some j from e2);obtain⟨p,ys,rfl,hp,rl⟩:=ue S r e1;cases ru;obtain⟨z,is,n,rv,hl,hg⟩:=I.aj0 hp;obtain⟨f,g1,g2⟩:=aay (A:=X.A.in1) I S ((hr.mono (by decide:7<=8)).in1) rl rv hd hu e3;obtain⟨f1,f2⟩:=aa4 e4;have hb:=(N5 e3).1;have G:is.length=bs.length:=by rw[hb,rl.length,hl]
   have lj:j<is.length:=by rw[G];exact(ak.mp f1).1
   have fa:∀m (Z:m<is.length),bs[m]?=some (f is[m]):=λm Z=>g2 m _ (du Z)
   have hT:s.TypeIs (.ref p) "list" := ⟨_,hg,rfl⟩;have qk:is.length<=sizeLine:=by rw[<- hl];exact z
   rw[sizeLine_eq] at qk;refine call_meetsIn F.slot_list_index hT F.entry_list_index (F.args_list_index_2 _ _) (λA R s h=>SeqAt.list_indexAt p is.toArray n none #[] _ f j (by simpa using lj) (by lia) ?_ ?_ _ _ A R s h) ⟨hg,g1,?_⟩
   .have:=fa j lj;rw[f1] at this;simpa using(iu this).symm
   .intro m Z qq
    have Z:m<is.length:=by simpa using Z
    have:=fa m Z;rw[f2 m qq] at this;simpa using(iu this).symm
   .exact⟨.int j,H,I.tok _,⟨_,rfl⟩,q ι H _ (Le.refl _ _) S (.int _)⟩
def au0(e:MW.Fw .get x ds M=.ok d M'):∃n k G R U,x=.ref n/\ds=[k,G]/\M[n]?=some (.dT R)/\MW.Px k=some U/\d=(MW.Eh R U).getD G/\M'=M:=by
 obtain⟨n,R,rfl,hM,Z⟩:=aif e
 match ds,Z with
 |[k,G],Z =>
  obtain⟨e2,e3⟩:=uo Z;obtain⟨U,e4,e5⟩:=bw.mp e2;exact⟨n,k,G,R,U,rfl,rfl,hM,e4,e5.symm,e3⟩
 |[],Z=>cases Z|[_],Z=>cases Z|_::_::_::_,Z=>cases Z
def a8y(hu:X.A.units+1<cLine):MtR X "dict.get" (rM nm X.K .get):=λqk s σ H v vs u us Q I ru Pj hh=>by
 obtain⟨ι,M,x,ds,d,M',S,r,rs,e,q⟩:=hh;obtain⟨n,k,d0,ou,k0,rfl,rfl,hM,hk,rfl,rfl⟩:=au0 e;cases rs with
 |cons rk G =>
  cases G with
  |cons rd G =>
   cases G;cases Pj with
   |cons U Z =>
    cases Z with
    |cons qq Z =>
     cases Z;cases r with
     |ref ha =>
      cases ru;obtain⟨l,h1,h2⟩:=S.obj n _ _ hM ha;obtain⟨bb,rfl,hb⟩:=aat rk hk;refine az1 hu I (ae7.t h1 hb) U qq λw' s' I' R=>⟨_,H,I',R,q ι H _ (Le.refl _ _) S ?_⟩
      cases hl:MW.Eh ou k0 with
      |none=>rw[(h2.look (k:=k0)).2 hl];exact rd|some d=>obtain⟨z,h3,h4⟩:=(h2.look (k:=k0)).1 d hl;rw[h3];exact h4
section
variable{prog:Program}{w:World}{A:Around}{E:Y1}{s:Shared}{it d:Addr}{i ep:Nat}{o:Obj}{es:Array DictEntry}{Q:Option Value->Shared->Prop}
def apu{Q:Y1}(Z:s.heap.get? d=some o)(U:o.ExactDict)(G:o.data=.dict es ep)(R:(d==sysModules)=false)
 (h:Q (.ref s.heap.objs.size) { s with heap:=s.heap.push { cls:=.type "dict_keyiterator",data:=.fields #[.ref d,.int 0 0,.int es.size 0,.int ep 0] } }):wpAny (model prog w) A (pyIter (.ref d)) Q E s:=by
 have T:s.TypeIs (.ref d) "dict" := ⟨o,Z,U.1⟩;refine wpAny_pyIter_slot T PySem.F.slot_dict_iter (jo PySem.F.slot_dict_iter T PySem.F.entry_dict_iter ?_ (PySem.F.args_dict_iter_1 _));unfold Builtin.«dict.__iter__» Builtin.Dict.dictSlotNone;refine aa (aa (wpAny_notOrdered_dict T ?_));refine aj (?_:wpAny _ _ (Builtin.Dict.showsAll d >>= _) _ _ s);unfold Builtin.Dict.showsAll;rw[R];refine aa (aj (aa (uw Z G (aa (wpAny_dictEpoch Z G ?_)))));exact aa (iw (aj ⟨_,rfl, "dict_keyiterator",_,⟨_,bj _ rfl,rfl⟩,u0.lookup,h⟩))
def adb(qq:s.heap.IsKeyIter it d i es.size ep)(ho:s.heap.get? d=some o)(hd:o.data=.dict es ep)
 (h1:∀G:i<es.size,∀Z,Z.IsKeyIter it d (i+1) es.size ep->Heap.SameBut it s.heap Z->Q (some es[i].key) { s with heap:=Z })
 (hh:A.handled=none) (h2:es.size<=i->∀Z,Heap.ExtBut it s.heap Z->Q none { s with heap:=Z }):wpAny (model prog w) A (pyNext (.ref it)) Q E s:=by
 have T:=qq.typeIs;obtain⟨oi,hi,hc,U⟩:=id qq;unfold pyNext;refine aa (wpAny_attempt (je (name:=Str.ofString "__next__") T u0 (jo u0 T PySem.F.entry_dict_keyiterator_next ?_ (PySem.F.args_dict_keyiterator_next_1 _))));refine aa (aj (aa (aa (aa (ux T (aj (aa (wpAny_fieldsOf hi U ?_))))))));rw[show Builtin.Dict_items.ownsTuple "dict_keyiterator" = false by decide];show wpAny _ _ (if(Value.ref d==Value.none)=true then _ else _) _ _ s;rw[bz (show ¬((Value.ref d==Value.none)=true) from dw)];refine aa (aj (aa (uw ho hd ?_)));rw[bz (by simp)];refine aa (aj (aa (wpAny_dictEpoch ho hd ?_)));rw[bz (by simp)];refine aj ?_;rcases ju i es.size with G|G
 .have R:(s.heap.update it (Obj.mapFields (·.setIfInBounds 1 (rawInt ((i:Int)+1))))).IsKeyIter it d (i+1) es.size ep :=
   ⟨_,lz _ hi (u6 (m6 U _)),(Obj.cls_mapFields ..).trans hc,by rw[m6 U];simp[rawInt]⟩
  simp only[show ¬((i:Int)<0) by lia,jt,jk,wg G];refine aa (aa (ux T (aj (aa (wpAny_isOneOf_keyiter T ?_)))));refine(?_:wpAny _ _ (setField (.ref it) 1 (rawInt ((i:Int)+1)) >>= _) _ _ s);refine aa (um hi U (by simp) (aa (jz (aa (wpAny_isOneOf_keyiter (s:={ s with heap:=_ }) R.typeIs ?_)))));exact aj (aj ⟨_,rfl,aj (h1 G _ R (jj ..))⟩)
 .simp only[show ¬((i:Int)<0) by lia,jt,jk,Array.getElem?_eq_none G]
  refine aa (aa (ux T (aj ?_)));refine(?_:wpAny _ _ (setField (.ref it) 0 .none >>= _) _ _ s);refine aa (um hi U (by simp) ?_);refine STb.Zc (show A.in1.handled=none from hh) λZ x k z_=>?_
  obtain⟨o,e1,e2⟩:=z_;exact aa (qe (T := "StopIteration") (b:=true) ⟨o,e1,e2⟩ isSubtype_stop (aj (h2 G _ λb o n z=>k b o ((jj ..).extBut b o n z))))
theorem akk{I:Addr}(hh:A.handled=none)(hd:o.data=.dict es ep)(Pb:d≠I):Walks prog w A I [I,d] [I] es.size (λi v=>∃e,es[i]?=some e/\v=e.key) (λi h=>h.IsKeyIter I d i es.size ep/\h.get? d=some o) where
 sub:=λb G=>by simp at G;simp[G]
 frame:=λ_ _ _ Z hk=>⟨Z.1.at λo e=>hk _ (by simp) o e,hk d (by simp) o Z.2⟩
 item:=λi U Q E hi Z R=>adb Z.1 Z.2 hd (λhl h' qq sb=>R _ h' U.toks ⟨_,wg hl,rfl⟩ ⟨qq,(sb.2 d Pb).trans Z.2⟩ λb o G e=>(sb.2 b (λz=>G (by simp[z]))).trans e) hh λz=>absurd hi (by lia)
 done:=λU Q E Z R=>adb Z.1 Z.2 hd (λhl=>absurd hl (by lia)) hh λ_ h' eb=>R h' U.toks λb o G e=>eb b o (λz=>G (by simp[z])) e
 self:=λ_ _ _ _ Z h=>wpAny_pyIter_keyiter Z.1 h
theorem apv(Z:o.ExactDict)(U:o.data=.dict es ep)(R:(d==sysModules)=false):PySem.W.KdlSrc prog w "dict" d d es.size (λi v=>∃e,es[i]?=some e/\v=e.key) (λh=>h.get? d=some o) where
 type:=λ_ h=>⟨o,h,Z.1⟩
 there:=λ_ h=>⟨az h,az h⟩
 keep:=λ_ _ h hk=>hk d (.inl rfl) o h
 notList:=by decide
 notTuple:=by decide
 hint:=λ_ _ _ _ h G=>PySem.W.kdl_hint_dict ⟨o,h,Z.1⟩ G
 iter:=λA s hh h=>⟨_,_,(λ_ _ G=>apu h Z U R G),akk hh U (gh (az h)),⟨_,bj _ rfl,rfl,rfl⟩,aq _ h⟩
end
theorem mz.keys{K:Fg}{Z:Io}{H:Hp}:∀k:List Kx,mz K Z H (k.map MW.a3r) (k.map kV)
 |[]=>.nil|.inl i::k=>.cons (.int i) (mz.keys k)|.inr x::k=>.cons (.str x) (mz.keys k)
theorem qb.keys{K:Fg}{G:Io}{H:Hp}:∀{l:List (List Kx×Dv)}{Z:List (List Key×V)},qb K G H (λk U=>k=U) l Z->Z.map (·.1)=l.map (·.1)
 |_,_,.nil=>rfl|_,_,.cons k _ t=>by rw[dq,dq,qb.keys t,k]
theorem aii{U R:Type}{F:U->R->Prop}{a:U}:∀{Z:List U}{G:List R}{i:Nat},Paired F Z G->Z[i]?=some a->∃b,G[i]?=some b/\F a b
 |_,_,0,.cons h _,e=>by cases e;exact⟨_,rfl,h⟩|_,_,i+1,.cons _ t,e=>aii (i:=i) t e
theorem aij{K:Fg}{U:Io}{H:Hp}:∀{Z:List Dv}{G:List V},Z.length=G.length->(∀(i:Nat) d v,Z[i]?=some d->G[i]?=some v->Rep K U H d v)->mz K U H Z G
 |[],[],_,_=>.nil|d::Z,v::G,hl,h=>.cons (h 0 d v rfl rfl) (aij (by simpa using hl) λi d v a b=>h (i+1) d v a b)
theorem aik:∀{Z:List V}{G:Zl},Z.length=G.length->(∀(i:Nat) v u,Z[i]?=some v->G[i]?=some u->RelV v u)->Vals Z G
 |[],[],_,_=>.nil|v::Z,u::G,hl,h=>.cons (h 0 v u rfl rfl) (aik (by simpa using hl) λi d v a b=>h (i+1) d v a b)
def apw(e:MW.ph .list ds M=.ok d U):∃x,ds=[x]/\((∃G,MW.j7 M x=some G/\MW.new (.lst G) M=.ok d U)\/∃n Z,x=.ref n/\M[n]?=some (.dT Z)/\Z.length<=1000/\d=.vl (Z.map λp=>MW.ai6 p.1)/\U=M):=by
 obtain⟨x,rfl,-⟩:=Su e;refine⟨x,rfl,?_⟩;simp only[MW.ph,MW.Fv] at e;cases e3:MW.j7 M x with
 |some G=>rw[e3] at e;exact .inl ⟨G,rfl,e⟩
 |none =>
  rw[e3] at e;cases x with
  |ref n =>
   simp only at e;cases hn:M[n]? with
   |none=>rw[hn] at e;cases e
   |some R =>
    rw[hn] at e;cases R with
    |dT Z =>
     obtain⟨hl,e⟩:=aaz e;cases e;exact .inr ⟨n,Z,rfl,hn,hl,rfl,rfl⟩
    |_=>cases e
  |_=>cases e
def a1c(hc:X.calm=true):Bw X (.type "list") (rB nm X.K .list):=λqq s σ H vs us Q I Pj hh=>by
 obtain⟨ι,M,ds,d,M',S,r,e,q⟩:=hh;obtain⟨x,rfl,⟨xs,e3,e⟩|⟨n,ou,rfl,hn,hl,rfl,rfl⟩⟩:=apw e
 .cases e
  obtain⟨v,rfl,h⟩:=Nz r rfl;obtain⟨p,qv,rfl,hp,ru⟩:=Hf S h e3;refine aak qq s σ H _ us Q I Pj ⟨p,qv,rfl,hp.imp Gm.of Gu.of,λl hl=>?_⟩;obtain⟨S2,zb,r2⟩:=ah1 S hl ru;exact q _ _ _ zb S2 r2
 .obtain⟨v,rfl,h⟩:=Nz r rfl
  cases h with
  |@ref _ p hp =>
   obtain⟨l,h1,h2⟩:=S.obj n _ p hn hp;obtain⟨z,qk,xs,U,o,es,ep,g1,g2,g3,g4,g5⟩:=(show Aq X.prog X.w H s.heap p (.dT l) from I.yr p _ h1);obtain⟨u,rfl,rx⟩:=vals1 Pj;cases rx;have hz:es.size=l.length:=(size_of_entries g4).trans U.length.symm;refine PySem.W.kdl_call (apv g2 g3 qk) (I.ok.hd hc) g1 (by rw[hz];exact z) λh' tk Z c' kp hD Xr=>?_
   have R:Z.size=l.length:=Xr.1.trans hz;have at_:∀(i:Nat)(y:List Key×V)(u:Value),l[i]?=some y->Z.toList[i]?=some u->∃b:Addr,xs[i]?.map (·.2.1)=some b/\u=.ref b/\H b=some (.tup (y.1.map kV)):=λi y u hy hu=>by obtain⟨e0,q1,q2⟩:=Xr.2 i u (by rw[<- o7];exact hu);obtain⟨b,hb,f1,f2,f3⟩:=aii U hy;have:=entry_at g4 i;rw[hb,q1] at this;have ee:=iu this;exact⟨b.2.1,by rw[hb];rfl,by rw[q2,ee];rfl,f2⟩
   have ws:∃ks:List V,ks.length=l.length/\∀(i:Nat) k,ks[i]?=some k->∃b:Addr,xs[i]?.map (·.2.1)=some b/\k=.ref b:=⟨xs.map λx=>.ref x.2.1,by simpa using U.length.symm,λi k G=>by
    rw[ie] at G;obtain⟨x,hx,rfl⟩:=bw.mp G;exact⟨x.2.1,by rw[hx];rfl,rfl⟩⟩
   obtain⟨ks,k1,k2⟩:=ws;have vl:Vals ks Z.toList:=aik (k1.trans (R.symm.trans rm.symm)) λi k u G hu=>by
    obtain⟨b,b1,rfl⟩:=k2 i k G;have il:i<l.length:=by rw[<- k1];exact(ak.mp G).1
    obtain⟨b',b2,rfl,_⟩:=at_ i _ u (du il) hu;rw[b1] at b2;cases b2;rfl
   have rl:mz X.K ι H (ou.map λp=>MW.ai6 p.1) ks:=aij (by rw[k1,bu,h2.length]) λi d k hd G=>by
    rw[ie] at hd;obtain⟨y,hy,rfl⟩:=bw.mp hd;have il:i<l.length:=by rw[<- k1];exact(ak.mp G).1
    have ia:i<Z.toList.length:=by rw[rm,R];exact il
    obtain⟨b',b2,_,b3⟩:=at_ i _ _ (du il) (du ia);obtain⟨b,b1,rfl⟩:=k2 i k G;rw[b1] at b2;cases b2;have q3:=h2.keys;have e1:(l.map (·.1))[i]?=some l[i].1:=by rw[ie,du il];rfl
    rw[q3,ie,hy] at e1;have e1:y.1=l[i].1:=iu e1;rw[<- e1] at b3;exact .tup b3 (mz.keys _)
   have q0:=I.yr.fresh (bf s.heap.objs.size);obtain⟨S2,zb,r2⟩:=Wv S q0 rl;exact⟨.ref s.heap.objs.size,_,I.laid (t':=tk) kp (bf _) (show Aq X.prog X.w _ h' _ (.lst ks) from⟨by rw[k1];exact z,Z.toList,c',vl,by simpa using hD⟩),rfl,q _ _ _ zb S2 r2⟩
def akl(e:MW.ph .toInt ds M=.ok d Z):∃b,ds=[.bl b]/\d=.int (if b then 1 else 0)/\Z=M:=by
 obtain⟨x,rfl,-⟩:=Su e;simp only[MW.ph,MW.Fv] at e;cases x with
 |bl b=>cases e;exact⟨b,rfl,rfl,rfl⟩|_=>cases e
def au1:Bw X (.type "int") (rB nm X.K .toInt):=λZ s σ H vs us Q I G R=>by obtain⟨U,M,ds,d,M',S,r,e,q⟩:=R;obtain⟨b,rfl,rfl,rfl⟩:=akl e;obtain⟨v,rfl,h⟩:=Nz r rfl;obtain⟨u,rfl,rx⟩:=vals1 G;cases h;cases rx;exact call_int_bool ⟨.int (if b then 1 else 0),H,I.tok _,⟨_,rfl⟩,q U H _ (Le.refl _ _) S (.int _)⟩
end Sm
namespace Ck
open PySem L2 Sm
open MW (Ex Eg OEx Ox Al mj Lv Tg Res dj MO Lp Cp Op2 Blt Bm Kx Src)
structure Tab where
 fns:List (Option (Str×Nat))
 cls:List (Option (Str×Nat))
 mts:List (Str×Nat)
 Oo:List Str
 au2:List (Str×Int)
 xcs:List (Str×Bool)
 xb:Str
noncomputable abbrev a1d:List Value:=[.type "ValueError",.type "Exception",.type "BaseException",.type "object"]
noncomputable def Ni:List Str:=["len", "tuple", "list", "max", "min", "isinstance", "range", "enumerate", "set", "zip", "all", "bool", "int", "ValueError"]
structure apx(T:Tab)(nm:Nm)(W:Lp)(k:Nat)(P:Program)(w:World)(K:Fg)(mg:Zs)(base:Heap):Prop where
 fn:∀f x n,T.fns[f]?=some (some (x,n))->∃fa fd ps,Dp P w K mg base CX0 k fa fd ps (spF nm W K n f)/\Dp P w K mg base (CXE P w) k fa fd ps (spE nm W K n f)/\mg x=some (.ref fa)/\PySem.W.keepIn K (.ref fa)=true/\Binds K fd ps []
 cl:∀c x n,T.cls[c]?=some (some (x,n))->∃C fa fd ps cl,Mk K C fa/\Dp P w K mg base CX0 k fa fd ps (spF nm W K (n+1) cl.init)/\mg x=some (.ref C)/\Binds K fd ps []/\W.cls[c]?=some cl/\nm.cls c=some C
 mt:∀m x n,T.mts[m]?=some (x,n)->∃C fa fd ps f,Cls K C/\Meth K C x fa/\Dp P w K mg base CX0 k fa fd ps (spF nm W K (n+1) f)/\Binds K fd ps [] /\
  (∀c' cl',W.cls[c']?=some cl'->∀g,cl'.meths.lookup m=some g->nm.cls c'=some C/\g=f)/\∀i,nm.fld i≠x
 fl:∀f x,T.Oo[f]?=some x->x=nm.fld f/\∀c C,nm.cls c=some C->Cls K C/\Hx K C x
 cs:∀x i,(x,i)∈T.au2->∃t,mg x=some (.int i t)
 bt:∀x∈Ni,mg x=none
 xr:∀j x,T.xcs[j]?=some (x,true)->∃C,mg x=some (.ref C)/\nm.xc (j+1)=some C/\aj5 K C a1d "ValueError.__new__"
 xt:∀j x b,T.xcs[j]?=some (x,b)->∃D,mg x=some (.ref D)/\∀c C,nm.xc c=some C->PySem.W.kitOne K (.ref C) (.ref D)=some (c==j+1)
 xv:∀c C,nm.xc c=some C->aj6 K C=true/\PySem.W.kitOne K (.ref C) (.type "ValueError")=some true
 xb:∃B,mg T.xb=some (.ref B)/\∀c C,nm.xc c=some C->afh K C B=true
structure Ctx where
 N:List Str
 sc:List (Str×NameKind)
 fn:Bool
 qt:Bool
 cm:Bool
structure Dk(T:Tab)(nm:Nm)(W:Lp)(k:Nat)(c:Ctx)(X:Cx):Prop where
 N:X.N=c.N
 nd:c.N.Nodup
 sc:X.env.scope.names=c.sc
 kd:X.env.scope.kind=.function
 calm:c.qt=true->X.calm=true/\Fj (k+16) X.A
 room:Roo (k+16) X.A
 fnl:c.fn=true->(∀n,X.fn n=true)/\X.ex=[]/\(X.stack=X.env::X.outer/\X.env.frame=some X.env.locals)
 own:c.cm=true->PassesOwn (model X.prog X.w) X.A X.env X.xe
 tab:apx T nm W k X.prog X.w X.K X.mg X.base
noncomputable def Xb(n:Str):Bool:=!(n==("__debug__" : Str))&&(!(n==("__classdict__" : Str))&&!(n==("__name__" : Str)))
noncomputable def akm(c:Ctx)(n:Str):Bool:=match c.sc.lookup n with|some .local=>true|some .cell=>true|some .free=>true|_=>false
noncomputable def a1e(c:Ctx)(n:Str):Bool:=match c.sc.lookup n with|some .local=>true|some .cell=>c.fn|_=>false
def U0(c:Ctx)(n:Str):Bool:=Xb n&&(match c.sc.lookup n with|some .globalImplicit=>true|_=>false)
noncomputable def ade(c:Ctx)(i:Nat)(n:Str):Bool:=match c.N[i]? with|some m=>m==n|none=>false
def yt:List Expr->Bool
 |[]=>true|e::r=>noStar e&&yt r
noncomputable def Sv:Expr->Bool
 |.Name ..=>true|.Attribute ..=>true|.Subscript ..=>true|.Call (.Attribute ..) ..=>true|_=>false
def uq(h:Xb n=true):(n==("__debug__" : Str))=false/\(n==("__classdict__" : Str))=false/\n≠"__name__" := by simp only[Xb,ao,Bool.not_eq_true'] at h;exact⟨h.1,h.2.1,λz=>by have:=h.2.2;rw[z] at this;simp at this⟩
set_option tactic.hygienic true in
def a1f(h:Dk T nm W k c X)(Z:akm c n=true):Vis X.env.scope n:=by unfold Vis;rw[h.sc];unfold akm at Z;split at Z<;>rename_i e<;>first|exact .inl e|exact .inr (.inl e)|exact .inr (.inr e)|cases Z
set_option tactic.hygienic true in
def a1g(h:Dk T nm W k c X)(Z:a1e c n=true):L2.Loc X.env.scope n/\(X.fn n=true\/X.env.scope.names.lookup n=some .local):=by
 unfold L2.Loc;rw[h.sc];unfold a1e at Z;split at Z
 .rename_i e;exact⟨.inl e,.inr e⟩
 .rename_i e;exact⟨.inr e,.inl ((h.fnl Z).1 n)⟩
 .cases Z
set_option tactic.hygienic true in
def Iz(h:Dk T nm W k c X)(Z:U0 c n=true):Gl X n/\Xb n=true:=by
 unfold U0 at Z;rw[ao] at Z;refine⟨?_,Z.1⟩;have Z:=Z.2;unfold Gl Env.kindOf;rw[h.sc];split at Z
 .rename_i e;exact e
 .cases Z
set_option tactic.hygienic true in
def slot_of(h:Dk T nm W k c X)(Z:ade c i n=true):X.N[i]?=some n:=by
 rw[h.N];unfold ade at Z;split at Z
 .rename_i m e;rw[e,eq_of_beq Z]
 .cases Z
theorem Xc{Z:Env}:∀{G:Ya},yt G=true->starEach G Z=G.map λe=>(false,eval e Z)
 |[],_=>rfl
 |e::r,h=>by
  simp only[yt,ao] at h;rw[p6 h.1,Xc h.2];rfl
def yf(h:yt es=true):(backTo pos (starEach es env)).any (·.1)=false:=by rw[Xc h];simp[backTo]
def Xd(h:yt es=true):(backTo pos (starEach es env)).all (λx=>!x.1)=true:=by rw[Xc h];simp[backTo]
set_option tactic.hygienic true in
def Fl(h:Sv o=true):attributeBase o n env (eval o env)=eval o env:=by
 cases o<;>try first|rfl|(cases h;done)
 rename_i f Y Z p;cases f<;>first|rfl|(cases h)
def au3(h:Sv o=true)(hs:yt es=true)(R:es.length<29)(hp:(apos.endLine==pos.line)=true) :
 eval (.Call (.Attribute o m apos) es [] pos) env=(do
  let Z <- eval o env
  standAt apos.atName
  let (f,first) <- holding [Z] (getMethod Z m (do return (<- importBound o env).getD true))
  callWith pos f first (backTo pos (starEach es env)) (backToKw pos (keywordEach [] env))):=by
 have U:methodCallForm (es.length+0) (backTo pos (starEach es env)) (backToKw pos (keywordEach [] env))=true:=by unfold methodCallForm;rw[Xd hs];simp[keywordEach,backToKw];exact b_ R (by decide)
 show(do
  let Z <- attributeBase o m env (eval o env)
  standAt apos.atName
  methodCall o m apos pos env Z (es.length+0) (backTo pos (starEach es env)) (backToKw pos (keywordEach [] env)))=_
 rw[Fl h];unfold methodCall;rw[U];have G:methodCallPos true o env apos pos=pure pos:=by unfold methodCallPos;rw[hp];rfl
 rw[G];simp only[calleeOf,km,pure_bind]
noncomputable def Bq{Z:Type}(o:Option Z)(f:Z->Bool):Bool:=match o with|some x=>f x|none=>false
def jh(h:Bq o f=true):∃x,o=some x/\f x=true:=by
 cases o with
 |none=>cases h|some x=>exact⟨x,rfl,h⟩
noncomputable def Uh{α:Type}(l:List α):Option α:=match l with|[x]=>some x|_=>none
def Ce(h:Uh l=some x):l=[x]:=by
 cases l with
 |nil=>cases h
 |cons y r=>cases r with
  |nil=>cases h;rfl|cons _ _=>cases h
def Xe{Z:Type}{P:Z->Prop}{o:Option {x // P x}}{q:Z}(h:o.map Subtype.val=some q):P q:=by
 cases o with
 |none=>cases h|some x=>cases h;exact x.2
noncomputable def Oq(a:Expr):Option Str:=Option.map Subtype.val (α:={q:Str // ∃p,a=.Name q p}) (match a with|.Name n p=>some ⟨n,p,rfl⟩|_=>none)
noncomputable def afr(a:Expr):Option Const:=Option.map Subtype.val (α:={q:Const // ∃k p,a=.Constant q k p}) (match a with|.Constant n k p=>some ⟨n,k,p,rfl⟩|_=>none)
noncomputable def a8z(a:Expr):Option (Expr×Operator×Expr):=Option.map Subtype.val (α:={q:Expr×Operator×Expr // ∃p,a=.BinOp q.1 q.2.1 q.2.2 p}) (match a with|.BinOp l o r p=>some ⟨(l,o,r),p,rfl⟩|_=>none)
noncomputable def dUn(a:Expr):Option (UnaryOp×Expr):=Option.map Subtype.val (α:={q:UnaryOp×Expr // ∃p,a=.UnaryOp q.1 q.2 p}) (match a with|.UnaryOp o l p=>some ⟨(o,l),p,rfl⟩|_=>none)
noncomputable def a1h(a:Expr):Option (Expr×List CmpOp×List Expr):=Option.map Subtype.val (α:={q:Expr×List CmpOp×List Expr // ∃p,a=.Compare q.1 q.2.1 q.2.2 p}) (match a with|.Compare l o r p=>some ⟨(l,o,r),p,rfl⟩|_=>none)
noncomputable def aw6(a:Expr):Option (BoolOp×List Expr×Pos):=Option.map Subtype.val (α:={q:BoolOp×List Expr×Pos // a=.BoolOp q.1 q.2.1 q.2.2}) (match a with|.BoolOp o l p=>some ⟨(o,l,p),rfl⟩|_=>none)
noncomputable def akn(a:Expr):Option (List Expr):=Option.map Subtype.val (α:={q:List Expr // ∃k p,a=.Tuple q k p}) (match a with|.Tuple l k p=>some ⟨l,k,p,rfl⟩|_=>none)
noncomputable def a1i(a:Expr):Option (List Expr):=Option.map Subtype.val (α:={q:List Expr // ∃p,a=.List q p}) (match a with|.List l p=>some ⟨l,p,rfl⟩|_=>none)
noncomputable def a81(a:Expr):Option (List (Option Expr)×List Expr):=Option.map Subtype.val (α:={q:List (Option Expr)×List Expr // ∃p,a=.Dict q.1 q.2 p}) (match a with|.Dict k v p=>some ⟨(k,v),p,rfl⟩|_=>none)
noncomputable def ako(a:Expr):Option (Expr×Expr):=Option.map Subtype.val (α:={q:Expr×Expr // ∃p,a=.Subscript q.1 q.2 p}) (match a with|.Subscript l r p=>some ⟨(l,r),p,rfl⟩|_=>none)
noncomputable def dSl(a:Expr):Option (Option Expr×Option Expr×Option Expr):=Option.map Subtype.val (α:={q:Option Expr×Option Expr×Option Expr // ∃p,a=.Slice q.1 q.2.1 q.2.2 p}) (match a with|.Slice l r s p=>some ⟨(l,r,s),p,rfl⟩|_=>none)
noncomputable def apy(a:Expr):Option (Expr×List Expr×List Keyword×Pos):=Option.map Subtype.val (α:={q:Expr×List Expr×List Keyword×Pos // a=.Call q.1 q.2.1 q.2.2.1 q.2.2.2}) (match a with|.Call f l k p=>some ⟨(f,l,k,p),rfl⟩|_=>none)
noncomputable def apz(a:Expr):Option (Expr×Str×Pos):=Option.map Subtype.val (α:={q:Expr×Str×Pos // a=.Attribute q.1 q.2.1 q.2.2}) (match a with|.Attribute l n p=>some ⟨(l,n,p),rfl⟩|_=>none)
noncomputable def adf(a:Expr):Option (Expr×List Comprehension×Scope):=Option.map Subtype.val (α:={q:Expr×List Comprehension×Scope // ∃p,a=.ListComp q.1 q.2.1 q.2.2 p}) (match a with|.ListComp e g s p=>some ⟨(e,g,s),p,rfl⟩|_=>none)
def Gs(h:Oq a=some n):∃p,a=.Name n p:=(Xe h :)
def N6(h:afr a=some n):∃k p,a=.Constant n k p:=(Xe h :)
def au4(h:a8z a=some (l,o,r)):∃p,a=.BinOp l o r p:=(Xe h :)
def aa5(h:dUn a=some (o,l)):∃p,a=.UnaryOp o l p:=(Xe h :)
def ail(h:a1h a=some (l,o,r)):∃p,a=.Compare l o r p:=(Xe h :)
def ap0(h:aw6 a=some (o,r,p)):a=.BoolOp o r p:=(Xe h :)
def Rh(h:akn a=some l):∃k p,a=.Tuple l k p:=(Xe h :)
def ain(h:a1i a=some l):∃p,a=.List l p:=(Xe h :)
def au5(h:a81 a=some (k,l)):∃p,a=.Dict k l p:=(Xe h :)
def U3(h:ako a=some (l,r)):∃p,a=.Subscript l r p:=(Xe h :)
def ap1(h:dSl a=some (l,r,s)):∃p,a=.Slice l r s p:=(Xe h :)
def adg(h:apy a=some (f,l,k,p)):a=.Call f l k p:=(Xe h :)
def aa6(h:apz a=some (l,n,p)):a=.Attribute l n p:=(Xe h :)
def Xf(h:adf a=some (e,g,s)):∃p,a=.ListComp e g s p:=(Xe h :)
def dCN(a:Expr):Option (Str×List Expr):=(apy a).bind λq=>if q.2.2.1.isEmpty then(Oq q.1).map λn=>(n,q.2.1) else none
set_option tactic.hygienic true in
def Ib(h:dCN a=some (n,l)):∃p p',a=.Call (.Name n p) l [] p':=by
 obtain⟨⟨f,L,k,p⟩,J,Z⟩:=jc.mp h;split at Z
 .rename_i Y
  obtain⟨C,G,U⟩:=bw.mp Z;obtain⟨p',e⟩:=Gs G;have e:f=_:=e;have Y:k=[]:=nj.mp Y;cases U;exact⟨p',p,by rw[adg J,e,Y]⟩
 .cases Z
def dCA(a:Expr):Option (Expr×Str×Pos×List Expr×Pos):=(apy a).bind λq=>if q.2.2.1.isEmpty then(apz q.1).map λn=>(n.1,n.2.1,n.2.2,q.2.1,q.2.2.2) else none
set_option tactic.hygienic true in
def afs(h:dCA a=some (o,n,C,l,p)):a=.Call (.Attribute o n C) l [] p:=by
 obtain⟨⟨f,S,k,u⟩,U,Z⟩:=jc.mp h;split at Z
 .rename_i Y
  obtain⟨⟨o',R,G⟩,J,L⟩:=bw.mp Z;have e:f=_:=aa6 J;have Y:k=[]:=nj.mp Y;cases L;rw[adg U,e,Y]
 .cases Z
noncomputable def a82(l:Ya):List Str:=l.filterMap Oq
noncomputable def Fp(e:Expr):List Str:=match akn e with|some l=>a82 l|none=>a82 [e]
noncomputable def hid(i:Nat):Str:=⟨#[0,i]⟩
def akq(Z:Yf)(p:Str×Nat):Str:=if Z.contains p.1=true then hid p.2 else p.1
noncomputable def Ui(N Z:Yf):List Str:=N.zipIdx.map (akq Z)++Z
noncomputable def au6(c:Ctx)(Z:X0):List (Str×NameKind):=Z.map λy=>if(y.2==NameKind.free&&c.sc.lookup y.1==some .cell) then(y.1,NameKind.cell) else(y.1,y.2)
def adh(c:Ctx)(G:Scope)(Z:Yf):Ctx:=⟨Ui c.N Z,au6 c G.names,false,c.qt,false⟩
def a1j(c:Ctx)(Z:Scope)(G:Yf):Bool :=
 decide (Z.kind=.function)&&(Z.names.all (λy=>!(y.2==NameKind.cell))&&(Z.names.all (λy=>Z.names.lookup y.1==some y.2) &&
 (Z.names.all (λy=>!(y.2==NameKind.free)||(c.sc.lookup y.1==some .cell||c.sc.lookup y.1==some .free))&&(decide ((Ui c.N G).Nodup) &&
 c.N.zipIdx.all (λp=>!(akm (adh c Z G) (akq G p))||(akq G p==p.1&&Z.names.lookup (akq G p)==some .free))))))
noncomputable def a83:Op2->Operator
 |.add=>.Add|.sub=>.Sub|.mul=>.Mult|.fdiv=>.FloorDiv|.mod=>.Mod|.pow=>.Pow
noncomputable def au7:Cp->Option CmpOp
 |.eq=>some .Eq|.ne=>some .NotEq|.lt=>some .Lt|.le=>some .LtE|.gt=>some .Gt|.ge=>some .GtE|.inn=>some .In|.Xz=>some .NotIn
noncomputable def a1k:Blt->Option Str
 |.len=>some "len"|.tuple=>some "tuple"|.list=>some "list"|.max=>some "max"|.min=>some "min"
 |.all=>some "all"|.toInt=>some "int"
 |_=>none
noncomputable def bmN:Bm->Option Str
 |.append=>some "append"|.extend=>some "extend"|.setdefault=>some "setdefault"|.get=>some "get"|.index=>some "index"
def a1l(T:Tab)(c:Ctx)(d:MW.D)(a:Expr):Bool :=
 match d with
 |.int i=>Bq (afr a) (λk=>decide (k=.int i))||Bq (Oq a) λn=>U0 c n&&T.au2.contains (n,i)
 |.bl i=>Bq (afr a) λk=>decide (k=.bool i)
 |.str i=>Bq (afr a) λk=>decide (k=.str i)
 |.non=>Bq (afr a) λk=>decide (k=.none)
 |_=>false
def tg1(c:Ctx)(Z i:Nat)(e:Expr):Bool:=Bq (Oq e) λn=>ade c i n&&(a1e c n&&decide (Z<=i))
def au8(c:Ctx)(Z:Nat):List Nat->List Expr->Bool
 |[],[]=>true|i::is,e::ts=>tg1 c Z i e&&au8 c Z is ts|_,_=>false
def tgB(c:Ctx)(Z:Nat)(t:Tg)(e:Expr):Bool :=
 match t with
 |.name i=>tg1 c Z i e|.names is=>c.qt&&Bq (akn e) λG=>au8 c Z is G
noncomputable def Ri:Expr->Bool|.IfExp ..=>false|_=>true
noncomputable def fnB(l:List (Option (Str×Nat)))(f:Nat)(n:Str)(k:Nat):Bool:=decide (l[f]?=some (some (n,k)))
noncomputable def mtB(l:List (Str×Nat))(f:Nat)(n:Str)(k:Nat):Bool:=decide (l[f]?=some (n,k))
noncomputable def flB(l:Yf)(f:Nat)(n:Str):Bool:=decide (l[f]?=some n)
def aio(c:Ctx)(k:Nat)(t:Tg)(g:Comprehension)(Z:Scope):Bool :=
 (c.qt&&a1j c Z (Fp g.target))&&((k==(Fp g.target).length)&&(tgB (adh c Z (Fp g.target)) c.N.length t g.target&&(Ig g.iter&&decide (g.is_async=0))))
def ap2(o:BoolOp)(a:Expr)(x y:Expr->Bool):Bool :=
 Bq (aw6 a) λq=>decide (q.1=o)&&(match q.2.1 with
  |l::r::rest=>(Ri l&&x l)&&(match rest with|[]=>Ri r&&y r|_::_=>y (.BoolOp o (r::rest) q.2.2))
  | _=>false)
def a1m(c:Ctx)(G:Str)(a:Expr)(f:Expr->Bool):Bool:=Bq (dCN a) λq=>match q.2 with
 |[l,t]=>Bq (Oq t) λZ=>(decide (q.1 = "isinstance")&&decide (Z=G))&&((U0 c q.1&&U0 c Z)&&(noStar l&&f l))
 |_=>false
def au9(h:a1m c ty a f=true):∃l p p1 G,a=.Call (.Name "isinstance" p) [l,.Name ty p1] [] G/\U0 c "isinstance" = true/\U0 c ty=true/\noStar l=true/\f l=true:=by
 obtain⟨⟨n,ls⟩,Z,h0⟩:=jh h;clear h;obtain⟨p,p',rfl⟩:=Ib Z
 match ls,Z,h0 with
 |[l,t],Z,h =>
  replace h:=jh (f:=λU=>(decide (n = "isinstance")&&decide (U=ty))&&((U0 c n&&U0 c U)&&(noStar l&&f l))) h;obtain⟨U,R,h⟩:=h;obtain⟨G,rfl⟩:=Gs R;simp only[ao,d7] at h;obtain⟨⟨rfl,rfl⟩,⟨h3,h4⟩,h5,h6⟩:=h;exact⟨l,p,G,p',rfl,h3,h4,h5,h6⟩
 |[],_,h=>cases h|[_],_,h=>cases h|_::_::_::_,_,h=>cases h
def a1n(c:Ctx)(Z G:Str)(a:Expr)(f:Expr->Bool):Bool:=Bq (dCN a) λq=>Bq (Uh q.2) λr=>Bq (dCN r) λu=>Bq (Uh u.2) λl=>((decide (q.1=Z)&&decide (u.1=G))&&(U0 c q.1&&U0 c u.1))&&(noStar l&&f l)
def ava(h:a1n c ty G a f=true):∃l p p1 Z p3,a=.Call (.Name ty p) [.Call (.Name G p1) [l] [] Z] [] p3/\U0 c ty=true/\U0 c G=true/\noStar l=true/\f l=true:=by replace h:=jh h;obtain⟨⟨n,ls⟩,h1,h⟩:=h;obtain⟨p,p',rfl⟩:=Ib h1;replace h:=jh h;obtain⟨r,U,h⟩:=h;cases Ce U;replace h:=jh h;obtain⟨⟨m,ms⟩,h3,h⟩:=h;obtain⟨Z,q2,rfl⟩:=Ib h3;replace h:=jh h;obtain⟨l,h4,h⟩:=h;cases Ce h4;simp only[ao,d7] at h;obtain⟨⟨⟨rfl,rfl⟩,R,h6⟩,h7,h8⟩:=h;exact⟨l,p,Z,q2,p',rfl,R,h6,h7,h8⟩
noncomputable def xnO(T:Tab)(k:Nat):Option Str:=match k with|0=>some "ValueError"|k+1=>(T.xcs[k]?).map (·.1)
def a1o(a:Expr)(f:Expr->Bool):Bool:=Bq (ako a) λq=>Bq (dSl q.2) λs=>(s.1.isNone&&s.2.1.isNone)&&Bq s.2.2 λZ=>Bq (dUn Z) λu=>(decide (u.1=.USub)&&Bq (afr u.2) λk=>decide (k=.int 1))&&f q.1
def avb(h:a1o a f=true):∃l p U G Z j,a=.Subscript l (.Slice none none (some (.UnaryOp .USub (.Constant (.int 1) j p)  U)) G) Z/\f l=true:=by replace h:=jh h;obtain⟨⟨l,r⟩,h1,h⟩:=h;obtain⟨Z,rfl⟩:=U3 h1;replace h:=jh h;obtain⟨⟨u,v,st⟩,h2,h⟩:=h;obtain⟨G,e⟩:=ap1 h2;have e:r=_:=e;subst e;replace h:=j4.mp h;obtain⟨R,h⟩:=h;simp only[ao,Option.isNone_iff_eq_none] at R;obtain⟨rfl,rfl⟩:=R;replace h:=jh h;obtain⟨st,rfl,h⟩:=h;replace h:=jh h;obtain⟨⟨o,c⟩,h4,h⟩:=h;obtain⟨U,e⟩:=aa5 h4;have e:st=_:=e;subst e;simp only[ao,d7] at h;obtain⟨⟨rfl,h5⟩,h⟩:=h;obtain⟨k,h6,h7⟩:=jh h5;obtain⟨j,p,rfl⟩:=N6 h6;rw[iy h7];exact⟨l,p,U,G,Z,j,rfl,h⟩
mutual
def zp(T:Tab):Ex->Ctx->Expr->Bool
 |.var i,c,a=>Bq (Oq a) λn=>ade c i n&&(akm c n&&Xb n)
 |.tru _,_,_=>false|.cst d,c,a=>a1l T c d a|.bin op x y,c,a=>Bq (a8z a) λq=>decide (q.2.1=a83 op)&&(zp T x c q.1&&zp T y c q.2.2)
 |.neg x,c,a=>Bq (dUn a) λq=>decide (q.1=.USub)&&zp T x c q.2
 |.cmp op x y,c,a=>Bq (a1h a) λq=>Bq (Uh q.2.1) λo=>Bq (Uh q.2.2) λr=>decide (au7 op=some o)&&(Ig r&&(zp T x c q.1&&zp T y c r))
 |.chain o1 o2 x y z,c,a=>Bq (a1h a) λq=>match q.2.1,q.2.2 with
  |[p1,p2],[r,s]=>(decide (au7 o1=some p1)&&decide (au7 o2=some p2))&&(Ig s&&(zp T x c q.1&&(zp T y c r&&zp T z c s)))|_,_=>false
 |.and x y,c,a=>ap2 .And a (zp T x c) (zp T y c)|.or x y,c,a=>ap2 .Or a (zp T x c) (zp T y c)|.ntr x,c,a=>Bq (dUn a) λq=>decide (q.1=.Not)&&((Oq q.2).isSome&&zp T x c q.2)
 |.not x,c,a=>Bq (dUn a) λq=>decide (q.1=.Not)&&(Ri q.2&&zp T x c q.2)
 |.tup es,c,a=>Bq (akn a) λl=>decide (Eg.len es<=1000)&&Jq T es c l
 |.lst es,c,a=>Bq (a1i a) λl=>decide (Eg.len es<=1000)&&Jq T es c l
 |.Bg es,c,a=>Bq (a1i a) λl=>decide (Eg.len es<=1000)&&Jq T es c l
 |.abf,_,a=>Bq (a81 a) λq=>q.1.isEmpty&&q.2.isEmpty
 |.ix x y,c,a=>Bq (ako a) λq=>aau q.2&&(zp T x c q.1&&zp T y c q.2)
 |.cut x lo hi,c,a=>Bq (ako a) λq=>Bq (dSl q.2) λs=>s.2.2.isNone&&(zp T x c q.1&&(a1p T lo c s.1&&a1p T hi c s.2.1))
 |.call f es,c,a=>Bq (dCN a) λq=>(fnB T.fns f q.1 (Eg.len es)&&(c.qt&&(U0 c q.1&&!q.2.isEmpty)))&&Jq T es c q.2
 |.make f,c,a=>Bq (dCN a) λq=>fnB T.cls f q.1 0&&(c.qt&&(U0 c q.1&&q.2.isEmpty))
 |.meth o m es,c,a=>Bq (dCA a) λq=>(((mtB T.mts m q.2.1 (Eg.len es)&&c.qt)&&Sv q.1)&&(decide (q.2.2.2.1.length<29)&&((q.2.2.1.endLine==q.2.2.2.2.line)&&!q.2.2.2.1.isEmpty)))&&(zp T o c q.1&&Jq T es c q.2.2.2.1)
 |.fld o f,c,a=>Bq (apz a) λq=>(flB T.Oo f q.2.1&&Sv q.1)&&zp T o c q.1
 |.blt .Js (.cons x .nil),c,a=>c.qt&&a1n c "len" "set" a (zp T x c)|.blt .rev (.cons x .nil),c,a=>a1o a (zp T x c)|.blt (.Zi k) (.cons x .nil),c,a=>Bq (xnO T k) λn=>a1m c n a (zp T x c)
 |.blt b es,c,a=>Bq (dCN a) λq=>(decide (a1k b=some q.1)&&((c.qt||decide (q.1 = "int"))&&(U0 c q.1&&!q.2.isEmpty)))&&Jq T es c q.2
 |.bm m o es,c,a=>Bq (dCA a) λq=>((decide (bmN m=some q.2.1)&&Sv q.1)&&(decide (q.2.2.2.1.length<29)&&((q.2.2.1.endLine==q.2.2.2.2.line)&&!q.2.2.2.1.isEmpty)))&&(zp T o c q.1&&Jq T es c q.2.2.2.1)
 |.comp v k t it e,c,a=>Bq (adf a) λq=>Bq (Uh q.2.1) λg=>(aio c k t g q.2.2&&g.ifs.isEmpty)&&(avc T it c g.target g.iter&&zp T e (adh c q.2.2 (Fp g.target)) q.1)
 |.Av v k t it i e,c,a=>Bq (adf a) λq=>Bq (Uh q.2.1) λg=>Bq (Uh g.ifs) λd=>(aio c k t g q.2.2&&Ri d)&&(avc T it c g.target g.iter&&(zp T i (adh c q.2.2 (Fp g.target)) d&&zp T e (adh c q.2.2 (Fp g.target)) q.1))
def Jq(T:Tab):Eg->Ctx->List Expr->Bool
 |.nil,_,a=>a.isEmpty|.cons e es,c,a=>match a with|l::ls=>noStar l&&(zp T e c l&&Jq T es c ls)|_=>false
def a1p(T:Tab):OEx->Ctx->Option Expr->Bool
 |.none,_,a=>a.isNone|.some e,c,a=>Bq a (zp T e c)
def avc(T:Tab):Ox->Ctx->Expr->Expr->Bool
 |.val e,c,_,a=>zp T e c a|.Pu e,c,_,a=>Bq (dCN a) λq=>Bq (Uh q.2) λl=>(decide (q.1 = "range")&&U0 c q.1)&&(noStar l&&zp T e c l)
 |.enm e,c,tg,a=>Bq (dCN a) λq=>Bq (Uh q.2) λl=>((akn tg).isSome&&(decide (q.1 = "enumerate")&&U0 c q.1))&&(noStar l&&zp T e c l)
 |.zip es,c,tg,a=>Bq (dCN a) λq=>((akn tg).isSome&&(decide (q.1 = "zip")&&(U0 c q.1&&!q.2.isEmpty)))&&Jq T es c q.2
 |.vals e,c,_,a=>Bq (dCA a) λq=>((decide (q.2.1 = "values")&&Sv q.1)&&((q.2.2.1.endLine==q.2.2.2.2.line)&&q.2.2.2.1.isEmpty))&&zp T e c q.1
end
def Ot(h:Dk T nm W k c X)(G:Scope):(relabel G X.env).names=au6 c G.names:=by
 unfold relabel au6;refine rn λy _=>?_
 obtain⟨n,Z⟩:=y;show(if(Z==NameKind.free&&X.env.scope.kind==.function&&X.env.kindOf n==some .cell)=true then _ else _)=_;have e:(Z==NameKind.free&&X.env.scope.kind==.function&&X.env.kindOf n==some .cell)=(Z==NameKind.free&&c.sc.lookup n==some .cell):=by unfold Env.kindOf;rw[h.kd,h.sc];simp
 rw[e]
def a1q(h:Dk T nm W k c X)(hb:a1j c sc G=true):G4 X (Ui c.N G) sc/\∀C fp s H,Dk T nm W k (adh c sc G) (Lq X (Ui c.N G) sc C fp s H):=by
 simp only[a1j,ao,d7,jg] at hb;obtain⟨h1,h2,h3,h4,h5,h6⟩:=hb;have Z:∀x kd,(x,kd)∈sc.names->sc.names.lookup x=some kd:=λx kd m=>by have:=h3 (x,kd) m;simpa using this
 refine⟨⟨h1,λy m=>by have:=h2 y m;simpa using this,λy m e=>by rw[Z y.1 y.2 m,e],λy m e=>?_,Z,?_,λi x hi U R=>?_⟩,λC fp s H=>⟨rfl,h5,Ot h sc,h1,h.calm,h.room,(λz=>by cases z),(λz=>by cases z),h.tab⟩⟩
 .have:=h4 y m
  rw[e] at this;unfold Env.kindOf;rw[h.sc];simpa using this
 .rw[h.N];simp[Ui]
 .rw[h.N] at hi
  have hl:i<(c.N.zipIdx.map (akq G)).length:=by simpa using hi
  unfold Ui at U;rw[gw hl,ie,wy] at U;obtain⟨n,hn⟩:∃n,c.N[i]?=some n:=⟨c.N[i],by simp[hi]⟩;rw[hn] at U;have U:akq G (n,i)=x:=by simpa using U
  have m:(n,i)∈c.N.zipIdx:=by rw[n6];exact⟨i,by rw[wy,hn];simp⟩
  have q:=h6 (n,i) m;rw[U] at q;have v:akm (adh c sc G) x=true:=by unfold Vis at R;rw[Ot h] at R;unfold akm;show(match(au6 c sc.names).lookup x with|some .local=>true|some .cell=>true|some .free=>true|_=>false)=true;rcases R with e|e|e<;>rw[e]
  rw[v] at q;simp only[Bool.not_true,Bool.false_or,ao] at q;rw[h.N,hn];have e1:x=n:=eq_of_beq q.1;exact⟨by rw[e1],by have:=q.2;simpa using this⟩
def a85(h:o=a83 op):Dd X (binaryOp o) (rOp nm X.K (MW.Ax op)):=by
 subst h;cases op with
 |add=>exact a7v|sub=>exact a7r|mul=>exact a7u|fdiv=>exact a0n|mod=>exact a7s|pow=>exact a7t
def ap3(Z:Roo 8 X.A)(h:au7 op=some o):Dd X (compareOp o) (Xj nm X.K op):=by
 have G:Roo 6 X.A:=Z.mono (by decide);cases op with
 |eq=>cases h;exact bep G|ne=>cases h;exact ber G|lt=>cases h;exact bed|le=>cases h;exact bee|gt=>cases h;exact bef|ge=>cases h;exact beh|inn=>cases h;exact bet Z|Xz=>cases h;exact aub Z
def aft(h:Dk T nm W k c X)(hb:tg1 c lo i e=true):∃n p,e=.Name n p/\X.N[i]?=some n/\L2.Loc X.env.scope n/\(X.fn n=true\/X.env.scope.names.lookup n=some .local)/\lo<=i:=by obtain⟨n,R,Z⟩:=jh hb;obtain⟨p,rfl⟩:=Gs R;simp only[ao,d7] at Z;obtain⟨U,G⟩:=a1g h Z.2.1;exact⟨n,p,rfl,slot_of h Z.1,U,G,Z.2.2⟩
def a1r(h:Dk T nm W k c X)(e:au8 c lo is Z=true):Kz X Z is/\∀i∈is,lo<=i:=by
 induction is generalizing Z with
 |nil =>
  cases Z with
  |nil=>exact⟨.nil,by simp⟩|cons _ _=>cases e
 |cons i is ih =>
  cases Z with
  |nil=>cases e|cons a Z =>
  unfold au8 at e;rw[ao] at e;obtain⟨n,p,rfl,U,e2,R,e4⟩:=aft h e.1;obtain⟨g1,g2⟩:=ih e.2;refine⟨.cons U e2 R g1,λj G=>?_⟩;rcases dh.mp G with z|z
  .rw[z];exact e4
  .exact g2 j z
def adi(h:Dk T nm W k c X)(Z:tgB c lo t e=true):PG X e (tGt nm X.K t)/\∀i∈Bp t,lo<=i:=by
 have G:X.N.Nodup:=by rw[h.N];exact h.nd
 cases t with
 |name i =>
  obtain⟨n,p,rfl,e1,e2,e3,e4⟩:=aft h Z;exact⟨a0u G e1 e2 e3,λi hi=>by rw[jm.mp hi];exact e4⟩
 |names is =>
  obtain⟨h0,Z⟩:=j4.mp Z;obtain⟨ts,R,U⟩:=jh Z;obtain⟨k0,p,rfl⟩:=Rh R;obtain⟨g1,g2⟩:=a1r h U;exact⟨at4 (h.calm h0).1 G g1,g2⟩
structure Got(nm:Nm)(W:Lp)(X:Cx)(a:Expr)(e:Ex):Prop where
 v:PE X a (tE nm W X.K e)
 q:Ri a=true->PT X a (tQ nm W X.K e)
 w:∀op ls p,a=.BoolOp op ls p->PW X a (tQ nm W X.K e)
noncomputable def a86:Expr->Bool
 |.BoolOp ..=>false|.UnaryOp .Not _ _=>false|.IfExp ..=>false|.Compare ..=>false|_=>true
set_option tactic.hygienic true in
def vy(h:PE X a (tE nm W X.K e))(Y:a86 a=true):Got nm W X a e:=by
 refine⟨h,λJ=>a7x h λZ=>?_,λG U p z=>by subst z;cases Y⟩;cases a<;>first|rfl|(cases Y)|skip
 rename_i G x p;cases G<;>first|rfl|cases Y
def a1s(h:Dk T nm W k c X)(G:a1l T c d a=true):PE X a (tE nm W X.K (.cst d))/\a86 a=true:=by
 cases d with
 |int i =>
  simp only[a1l,Bool.or_eq_true] at G;rcases G with G|G
  .obtain⟨k,U,Z⟩:=jh G
   obtain⟨j,p,rfl⟩:=N6 U;rw[iy Z];exact⟨a7n,rfl⟩
  .obtain⟨n,U,Z⟩:=jh G
   obtain⟨p,rfl⟩:=Gs U;rw[ao] at Z;obtain⟨g1,g2⟩:=Iz h Z.1;obtain⟨t,R⟩:=h.tab.cs _ _ (List.contains_iff_mem.mp Z.2);exact⟨a0l g1 R (uq g2).1,rfl⟩
 |bl i =>
  obtain⟨k,U,Z⟩:=jh G;obtain⟨j,p,rfl⟩:=N6 U;rw[iy Z];exact⟨beb,rfl⟩
 |str i =>
  obtain⟨k,U,Z⟩:=jh G;obtain⟨j,p,rfl⟩:=N6 U;rw[iy Z];exact⟨a7p,rfl⟩
 |non =>
  obtain⟨k,U,Z⟩:=jh G;obtain⟨j,p,rfl⟩:=N6 U;rw[iy Z];exact⟨a7o,rfl⟩
 |_=>cases G
section
variable{T:Tab}{nm:Nm}{W:Lp}{k:Nat}
def Dk.r8(h:Dk T nm W k c X):Roo 8 X.A:=h.room.mono (by lia)
theorem Dk.mg(h:Dk T nm W k c X)(m:n∈Ni):X.mg n=none:=h.tab.bt n m
def ap4:(Ui N Z).length-N.length=Z.length:=by simp[Ui]
def Rj(G:Dk T nm W k c X)(h:aio c j t g sc=true) :
 X.calm=true/\Ig g.iter=true/\g.is_async=0/\G4 X (Ui c.N (Fp g.target)) sc/\(∀C Z s H,Dk T nm W k (adh c sc (Fp g.target)) (Lq X (Ui c.N (Fp g.target)) sc C Z s H)) /\
 (∀C Z s H,PG (Lq X (Ui c.N (Fp g.target)) sc C Z s H) g.target (tGt nm X.K t))/\(Ui c.N (Fp g.target)).length-X.N.length=j/\∀i∈Bp t,X.N.length<=i:=by
 simp only[aio,ao,d7] at h;obtain⟨⟨h1,h2⟩,h3,R,h5,h6⟩:=h;obtain⟨B,U⟩:=a1q G h2;exact⟨(G.calm h1).1,h5,h6,B,U,λC Z s H=>(adi (U C Z s H) R).1,by rw[G.N,ap4];exact(eq_of_beq h3).symm,λi hi=>by rw[G.N];exact(adi (U 0 [] X.s₀ X.H₀) R).2 i hi⟩
def aip(h:ap2 o a x y=true):(∃l r p,a=.BoolOp o [l,r] p/\Ri l=true/\x l=true/\Ri r=true/\y r=true) \/
 ∃l r s Z p,a=.BoolOp o (l::r::s::Z) p/\Ri l=true/\x l=true/\y (.BoolOp o (r::s::Z) p)=true:=by
 obtain⟨⟨o',U,p⟩,h1,G⟩:=jh h;cases ap0 h1;rw[ao] at G;obtain⟨R,G⟩:=G;cases iy R;cases U with
 |nil=>cases G
 |cons l U=>cases U with
  |nil=>cases G
  |cons r Z =>
   cases Z with
   |nil =>
    have G:((Ri l&&x l)&&(Ri r&&y r))=true:=G;simp only[ao] at G;exact .inl ⟨l,r,p,rfl,G.1.1,G.1.2,G.2.1,G.2.2⟩
   |cons s Z =>
    have G:((Ri l&&x l)&&y (.BoolOp o' (r::s::Z) p))=true:=G;simp only[ao] at G;exact .inr ⟨l,r,s,Z,p,rfl,G.1.1,G.1.2,G.2⟩
def a1t(hc:Dk T nm W k c X)(Z:a1k b=some n)(hq:c.qt=true\/n = "int")(hg:U0 c n=true)(U:PA X (l::ls) (tEs nm W X.K es))(e2:yt (l::ls)=true):PE X (.Call (.Name n p) (l::ls) [] p') (tE nm W X.K (.blt b es)):=by
 obtain⟨g1,g2⟩:=Iz hc hg;obtain⟨R,d2,d3⟩:=uq g2;simp only[yt,ao] at e2;have st:=p6 e2.1 ls X.env;have G:=yf (env:=X.env) (pos:=p') e2.2;have mg:n∈Ni->X.mg n=none:=hc.mg;cases b with
 |len=>cases Z;exact ah4 (id := "len") a8i g1 (mg (by decide+kernel)) (by decide+kernel) U d3 R st G|max=>cases Z;exact ah4 (id := "max") (a8l (hc.calm (hq.resolve_right (by decide))).1) g1 (mg (by decide+kernel)) (by decide+kernel) U d3 R st G|all=>cases Z;exact ah4 (id := "all") (a8x (hc.calm (hq.resolve_right (by decide))).1) g1 (mg (by decide+kernel)) (by decide+kernel) U d3 R st G|min=>cases Z;exact ah4 (id := "min") (a8n (hc.calm (hq.resolve_right (by decide))).1) g1 (mg (by decide+kernel)) (by decide+kernel) U d3 R st G|tuple=>cases Z;exact afj (T := "tuple") at7 g1 (mg (by decide+kernel)) (by decide+kernel) U d3 R st G|list=>cases Z;exact afj (T := "list") (a1c (hc.calm (hq.resolve_right (by decide))).1) g1 (mg (by decide+kernel)) (by decide+kernel) U d3 R st G|toInt=>cases Z;exact afj (T := "int") au1 g1 (mg (by decide+kernel)) (by decide+kernel) U d3 R st G|_=>cases Z
def O9{Z:Type}{l:List Z}(h:(!l.isEmpty)=true):∃x r,l=x::r:=by
 cases l with
 |nil=>cases h|cons x r=>exact⟨x,r,rfl⟩
set_option tactic.hygienic true in
mutual
theorem jr:∀(e:Ex){c:Ctx}{X:Cx}{a:Expr},Dk T nm W k c X->zp T e c a=true->Got nm W X a e
 |.var i,c,X,a,hc,h=>by
  replace h:=jh h;obtain⟨n,Z,h⟩:=h;obtain⟨p,rfl⟩:=Gs Z;simp only[ao] at h;exact vy (a7m (slot_of hc h.1) (a1f hc h.2.1) (uq h.2.2).1 (uq h.2.2).2.1) rfl
 |.tru e,c,X,a,hc,h=>by cases h
 |.cst d,c,X,a,hc,h=>by
  obtain⟨Z,G⟩:=a1s hc h;exact vy Z G
 |.bin op x y,c,X,a,hc,h=>by
  replace h:=jh h;obtain⟨⟨l,o,r⟩,Z,h⟩:=h;obtain⟨p,rfl⟩:=au4 Z;simp only[ao,d7] at h;exact vy (a7q (a85 h.1) (jr x hc h.2.1).v (jr y hc h.2.2).v) rfl
 |.neg x,c,X,a,hc,h=>by
  replace h:=jh h;obtain⟨⟨o,l⟩,Z,h⟩:=h;obtain⟨p,rfl⟩:=aa5 Z;simp only[ao,d7] at h;obtain⟨rfl,h⟩:=h;exact vy (a76 (jr x hc h).v) rfl
 |.cmp op x y,c,X,a,hc,h=>by
  replace h:=jh h;obtain⟨⟨l,o,r⟩,Z,h⟩:=h;obtain⟨p,rfl⟩:=ail Z;replace h:=jh h;obtain⟨o1,G,h⟩:=h;replace h:=jh h;obtain⟨r1,U,h⟩:=h;cases Ce G;cases Ce U;simp only[ao,d7] at h;have g:=ap3 (nm:=nm) hc.r8 h.1;have m:=T5 h.2.1 o1;exact⟨a7y g (jr x hc h.2.2.1).v (jr y hc h.2.2.2).v m,λ_=>a7z g (jr x hc h.2.2.1).v (jr y hc h.2.2.2).v m,λ_ _ _ z=>by cases z⟩
 |.chain o1 o2 x y z,c,X,a,hc,h=>by
  replace h:=jh h;obtain⟨⟨l,o,r⟩,Z,h⟩:=h;obtain⟨p,rfl⟩:=ail Z;dsimp only at h;split at h
  .rename_i p1 p2 r s
   simp only[ao,d7] at h;have g1:=ap3 (nm:=nm) hc.r8 h.1.1;have R:=ap3 (nm:=nm) hc.r8 h.1.2;have m:lastMarks [p1,p2] [r,s]=false:=T5 h.2.1 p2;exact⟨atz g1 R (jr x hc h.2.2.1).v (jr y hc h.2.2.2.1).v (jr z hc h.2.2.2.2).v m,λ_=>at3 g1 R (jr x hc h.2.2.1).v (jr y hc h.2.2.2.1).v (jr z hc h.2.2.2.2).v m,λ_ _ _ z=>by cases z⟩
  .cases h
 |.and x y,c,X,a,hc,h=>by
  rcases aip h with⟨l,r,p,rfl,Z,G,U,h4⟩|⟨l,r,s,qk,p,rfl,Z,G,U⟩
  .have g1:=jr x hc G
   have R:=jr y hc h4;have w:=awv (pos:=p) (rest:=[]) (g1.q Z) (asv (R.q U));exact⟨awu g1.v (aw3 R.v),λ_=>w.pt,λ_ _ _ _=>w⟩
  .have g1:=jr x hc G
   have R:=jr y hc U;have w:=awv (g1.q Z) (R.w _ _ _ rfl);exact⟨awu g1.v R.v,λ_=>w.pt,λ_ _ _ _=>w⟩
 |.or x y,c,X,a,hc,h=>by
  rcases aip h with⟨l,r,p,rfl,Z,G,U,h4⟩|⟨l,r,s,qk,p,rfl,Z,G,U⟩
  .have g1:=jr x hc G
   have R:=jr y hc h4;have w:=a72 (pos:=p) (rest:=[]) (g1.q Z) (azb (R.q U));exact⟨a70 g1.v (aw3 R.v),λ_=>w.pt,λ_ _ _ _=>w⟩
  .have g1:=jr x hc G
   have R:=jr y hc U;have w:=a72 (g1.q Z) (R.w _ _ _ rfl);exact⟨a70 g1.v R.v,λ_=>w.pt,λ_ _ _ _=>w⟩
 |.not x,c,X,a,hc,h=>by
  replace h:=jh h;obtain⟨⟨o,l⟩,Z,h⟩:=h;obtain⟨p,rfl⟩:=aa5 Z;simp only[ao,d7] at h;obtain⟨rfl,h⟩:=h;have g:=jr x hc h.2;exact⟨a71 g.v,λ_=>a73 (g.q h.1),λ_ _ _ z=>by cases z⟩
 |.ntr x,c,X,a,hc,h=>by
  replace h:=jh h;obtain⟨⟨o,l⟩,Z,h⟩:=h;obtain⟨p,rfl⟩:=aa5 Z;simp only[ao,d7] at h;obtain⟨rfl,G,U⟩:=h;obtain⟨z,G⟩:=iz.mp G;obtain⟨p',e⟩:=Gs G;have e:l=_:=e;subst e;have g:=(jr x hc U).v;exact⟨a1a g,λ_=>a1b g λ_=>rfl,λ_ _ _ z=>by cases z⟩
 |.tup es,c,X,a,hc,h=>by
  replace h:=jh h;obtain⟨l,Z,h⟩:=h;obtain⟨k0,p,rfl⟩:=Rh Z;simp only[ao,d7] at h;exact vy (a74 (Dq es hc h.2).1 h.1) rfl
 |.lst es,c,X,a,hc,h=>by
  replace h:=jh h;obtain⟨l,Z,h⟩:=h;obtain⟨p,rfl⟩:=ain Z;simp only[ao,d7] at h;exact vy (a75 (Dq es hc h.2).1 h.1) rfl
 |.Bg es,c,X,a,hc,h=>by
  replace h:=jh h;obtain⟨l,Z,h⟩:=h;obtain⟨p,rfl⟩:=ain Z;simp only[ao,d7] at h;exact vy (a0q (Dq es hc h.2).1 h.1) rfl
 |.abf,c,X,a,hc,h=>by
  replace h:=jh h;obtain⟨⟨q,l⟩,Z,h⟩:=h;obtain⟨p,rfl⟩:=au5 Z;simp only[ao,nj] at h;obtain⟨rfl,rfl⟩:=h;exact vy a02 rfl
 |.ix x y,c,X,a,hc,h=>by
  replace h:=jh h;obtain⟨⟨l,r⟩,Z,h⟩:=h;obtain⟨p,rfl⟩:=U3 Z;simp only[ao] at h;exact vy (bej hc.room.hu (jr x hc h.2.1).v (jr y hc h.2.2).v (ao8 h.1)) rfl
 |.cut x lo hi,c,X,a,hc,h=>by
  replace h:=jh h;obtain⟨⟨l,r⟩,Z,h⟩:=h;obtain⟨p,rfl⟩:=U3 Z;replace h:=jh h;obtain⟨⟨u,v,st⟩,G,h⟩:=h;obtain⟨p2,e⟩:=ap1 G;have e:r=_:=e;subst e;simp only[ao,Option.isNone_iff_eq_none] at h;obtain⟨rfl,h⟩:=h;exact vy (a8m (jr x hc h.1).v (aiq lo hc h.2.1) (aiq hi hc h.2.2)) rfl
 |.call f es,c,X,a,hc,h=>by
  replace h:=jh h;obtain⟨⟨n,ls⟩,Z,h⟩:=h;obtain⟨p,p',rfl⟩:=Ib Z;simp only[ao] at h;obtain⟨⟨G,hq,U,h4⟩,h5⟩:=h;obtain⟨l,ls,rfl⟩:=O9 h4;obtain⟨fa,fd,ps,F,_,m,kp,b⟩:=hc.tab.fn _ _ _ (iy G);obtain⟨g1,R⟩:=Iz hc U;obtain⟨e1,e2⟩:=Dq es hc h5;simp only[yt,ao] at e2;exact vy (s_call F ((hc.calm hq).2.mono x_) g1 m kp b rfl e1 (uq R).1 (p6 e2.1 _ _) (yf e2.2)) rfl
 |.make f,c,X,a,hc,h=>by
  replace h:=jh h;obtain⟨⟨n,ls⟩,Z,h⟩:=h;obtain⟨p,p',rfl⟩:=Ib Z;simp only[ao,nj] at h;obtain⟨G,hq,U,rfl⟩:=h;obtain⟨C,fa,fd,ps,cl,M0,F,m,b,d1,d2⟩:=hc.tab.cl _ _ _ (iy G);obtain⟨g1,R⟩:=Iz hc U;exact vy (a00 M0 F ((hc.calm hq).2.mono (w_ (by decide))) g1 m b d1 rfl d2 (uq R).1) rfl
 |.meth o m es,c,X,a,hc,h=>by
  replace h:=jh h;obtain⟨⟨lo,n,ap,ls,p⟩,h0,h⟩:=h;cases afs h0;simp only[ao,d7] at h;obtain⟨⟨⟨⟨Z,hq⟩,G⟩,U,h4,h7⟩,h5,h6⟩:=h;obtain⟨l,ls,rfl⟩:=O9 h7;obtain⟨C,fa,fd,ps,f,C0,Me,F,b,u,nf⟩:=hc.tab.mt _ _ _ (iy Z);obtain⟨e1,e2⟩:=Dq es hc h6;have g:=jr o hc h5;have e3:=e2;simp only[yt,ao] at e3;exact vy (a01 (ci:=0) (cl:=⟨0,[]⟩) g.v C0 Me F ((hc.calm hq).2.mono x_) b u nf rfl e1 (p6 e3.1 _ _) (yf e3.2) (au3 G e2 U h4)) rfl
 |.fld o f,c,X,a,hc,h=>by
  replace h:=jh h;obtain⟨⟨l,n,p⟩,Z,h⟩:=h;cases aa6 Z;simp only[ao] at h;obtain⟨t1,t2⟩:=hc.tab.fl _ _ (iy h.1.1);exact vy (a77 t1 t2 (jr o hc h.2).v (Fl h.1.2)) rfl
 |.blt b es,c,X,a,hc,h=>by
  have gen:(Bq (dCN a) λq=>(decide (a1k b=some q.1)&&((c.qt||decide (q.1 = "int"))&&(U0 c q.1&&!q.2.isEmpty)))&&Jq T es c q.2)=true->Got nm W X a (.blt b es):=λhh=>by clear h;replace hh:=jh hh;obtain⟨⟨n,ls⟩,Z,h⟩:=hh;obtain⟨p,p',rfl⟩:=Ib Z;simp only[ao,Bool.or_eq_true,d7] at h;obtain⟨⟨G,hq,U,h4⟩,h5⟩:=h;obtain⟨l,ls,rfl⟩:=O9 h4;obtain⟨e1,e2⟩:=Dq es hc h5;exact vy (a1t hc G hq U e1 e2) rfl
  match b,es,h,gen with
  |.len,_,h,gen=>exact gen h|.tuple,_,h,gen=>exact gen h|.list,_,h,gen=>exact gen h|.max,_,h,gen=>exact gen h|.min,_,h,gen=>exact gen h|.all,_,h,gen=>exact gen h|.toInt,_,h,gen=>exact gen h|.rev,.nil,h,gen=>exact gen h|.rev,.cons _ (.cons _ _),h,gen=>exact gen h
  |.rev,.cons x .nil,h,_ =>
   obtain⟨l,p,p1,p2,p3,j,rfl,h8⟩:=avb (show a1o a (zp T x c)=true from h);exact vy (a8q (jr x hc h8).v (PE.weak (awm anm ane) fun σ H Q z=>⟨1,rfl,z⟩)) rfl
  |.Zi _,.nil,h,gen=>exact gen h|.Zi _,.cons _ (.cons _ _),h,gen=>exact gen h
  |.Zi kk,.cons x .nil,h,_ =>
   obtain⟨ty,h0,h⟩:=jh (show Bq (xnO T kk) (λn=>a1m c n a (zp T x c))=true from h);obtain⟨l,p,p1,p2,rfl,U,h4,h5,h6⟩:=au9 h;obtain⟨g1,R⟩:=Iz hc U;obtain⟨g3,g4⟩:=Iz hc h4
   match kk,h0 with
   |0,h0 =>
    cases h0;exact vy (aw2 (cv:=.type "ValueError") (λI q=>Kv I g3 (hc.mg (by decide+kernel)) (by decide+kernel) q (uq g4).2.2 (uq g4).1) (λc C z=>⟨(hc.tab.xv c C z).2,(hc.tab.xv c C z).1⟩) g1 (hc.mg (by decide+kernel)) (by decide+kernel) (uq R).2.2 (uq R).1 (jr x hc h6).v (p6 h5 _ _) (p6 rfl _ _) (yf rfl)) rfl
   |j+1,h0 =>
    obtain⟨⟨y,b⟩,e1,e2⟩:=bw.mp h0;cases e2;obtain⟨D,m,z⟩:=hc.tab.xt j _ b e1;exact vy (aw2 (cv:=.ref D) (λI q=>Ny I g3 m q (uq g4).1) (λc C w=>⟨by rw[z c C w];simp,(hc.tab.xv c C w).1⟩) g1 (hc.mg (by decide+kernel)) (by decide+kernel) (uq R).2.2 (uq R).1 (jr x hc h6).v (p6 h5 _ _) (p6 rfl _ _) (yf rfl)) rfl
  |.Js,.nil,h,gen=>exact gen h|.Js,.cons _ (.cons _ _),h,gen=>exact gen h
  |.Js,.cons x .nil,h,_ =>
   obtain⟨hq,h⟩:=j4.mp (show(c.qt&&a1n c "len" "set" a (zp T x c))=true from h);obtain⟨l,p,p1,p2,p3,rfl,h5,h6,h7,h8⟩:=ava h;obtain⟨g1,R⟩:=Iz hc h5;obtain⟨g3,g4⟩:=Iz hc h6;exact vy (apt ((hc.calm hq).2.mono (by lia)) g1 (hc.mg (by decide+kernel)) (by decide+kernel) (uq R).2.2 (uq R).1 g3 (hc.mg (by decide+kernel)) (by decide+kernel) (uq g4).2.2 (uq g4).1
    (aas (jr x hc h8).v ah2 (p6 h7 _ _)) (p6 rfl _ _) (yf rfl) (p6 h7 _ _) (yf rfl)) rfl
 |.bm m o es,c,X,a,hc,h=>by
  replace h:=jh h;obtain⟨⟨lo,n,ap,ls,p⟩,h0,h⟩:=h;cases afs h0;simp only[ao,d7] at h;obtain⟨⟨⟨Z,G⟩,U,h4,q6⟩,h5,h6⟩:=h;obtain⟨l,ls,rfl⟩:=O9 q6;obtain⟨e1,e2⟩:=Dq es hc h6;have e3:=e2;simp only[yt,ao] at e3;have qq:((backTo p (starEach (l::ls) X.env)).all (λx=>!x.1)&&(backToKw p (keywordEach [] X.env)).all (λx=>x.1.isSome)&&decide ((l::ls).length+([]:List Keyword).length+(if([]:List Keyword).isEmpty then 0 else 1)<30))=true:=by rw[Xd e2];simp[keywordEach,backToKw];simp at U;exact b_ U (by decide)
  have g:=jr o hc h5;cases m with
  |append=>cases Z;exact vy (api (T := "list") (id := "list.append") (fun ι H M x v S r t=>ty_list S r t) PySem.F.plainAttrs_list PySem.F.slot_list_append PySem.F.type_list_append apj g.v e1 (Fl G) qq h4 (p6 e3.1 _ _) (yf e3.2)) rfl
  |extend=>cases Z;exact vy (api (T := "list") (id := "list.extend") (fun ι H M x v S r t=>ty_list S r t) PySem.F.plainAttrs_list PySem.F.slot_list_extend PySem.F.type_list_extend apk g.v e1 (Fl G) qq h4 (p6 e3.1 _ _) (yf e3.2)) rfl
  |setdefault=>cases Z;exact vy (api (T := "dict") (id := "dict.setdefault") (fun ι H M x v S r t=>ty_dict S r t) PySem.F.plainAttrs_dict PySem.F.slot_dict_setdefault PySem.F.type_dict_setdefault (a07 hc.room.hu) g.v e1 (Fl G) qq h4 (p6 e3.1 _ _) (yf e3.2)) rfl
  |index=>cases Z;exact vy (api (T := "list") (id := "list.index") (fun ι H M x v S r t=>ty_list S r t) PySem.F.plainAttrs_list PySem.F.slot_list_index PySem.F.type_list_index (auz hc.r8) g.v e1 (Fl G) qq h4 (p6 e3.1 _ _) (yf e3.2)) rfl
  |get=>cases Z;exact vy (api (T := "dict") (id := "dict.get") (fun ι H M x v S r t=>ty_dict S r t) PySem.F.plainAttrs_dict PySem.F.slot_dict_get PySem.F.type_dict_get (a8y hc.room.hu) g.v e1 (Fl G) qq h4 (p6 e3.1 _ _) (yf e3.2)) rfl
 |.comp v j t it e,c,X,a,hc,h=>by
  replace h:=jh h;obtain⟨⟨q7,gs,sc⟩,Z,h⟩:=h;obtain⟨p,rfl⟩:=Xf Z;replace h:=jh h;obtain⟨⟨tg,qv,q5,as⟩,G,h⟩:=h;cases Ce G;simp only[ao,nj] at h;obtain⟨⟨U,rfl⟩,h4,h5⟩:=h;obtain⟨q0,q1,q2,B,hB,hg,q3,q4⟩:=Rj hc U;cases q2;exact vy (a0z B q0 (Rk it hc h4) hg (λC fp s H=>(jr e (hB C fp s H) h5).v) q1 q3 q4) rfl
 |.Av v j t it i e,c,X,a,hc,h=>by
  replace h:=jh h;obtain⟨⟨q7,gs,sc⟩,Z,h⟩:=h;obtain⟨p,rfl⟩:=Xf Z;replace h:=jh h;obtain⟨⟨tg,qv,q5,as⟩,G,h⟩:=h;cases Ce G;replace h:=jh h;obtain⟨d,h6,h⟩:=h;cases Ce h6;simp only[ao] at h;obtain⟨⟨U,h7⟩,h4,h8,h5⟩:=h;obtain⟨q0,q1,q2,B,hB,hg,q3,q4⟩:=Rj hc U;cases q2;exact vy (ape B q0 (Rk it hc h4) hg (λC fp s H=>(jr i (hB C fp s H) h8).q h7) (λC fp s H=>(jr e (hB C fp s H) h5).v) q1 q3 q4) rfl
theorem Dq:∀(Z:Eg){c:Ctx}{X:Cx}{a:Ya},Dk T nm W k c X->Jq T Z c a=true->PA X a (tEs nm W X.K Z)/\yt a=true
 |.nil,c,X,a,hc,h=>by
  cases nj.mp h;exact⟨ah2,rfl⟩
 |.cons e Z,c,X,a,hc,h=>by
  cases a with
  |nil=>cases h
  |cons l G =>
   replace h:(noStar l&&(zp T e c l&&Jq T Z c G))=true:=h;simp only[ao] at h;obtain⟨R,U⟩:=Dq Z hc h.2.2;exact⟨aas (jr e hc h.2.1).v R (p6 h.1 _ _),by simp only[yt,ao];exact⟨h.1,U⟩⟩
theorem aiq:∀(e:OEx){c:Ctx}{X:Cx}{a:Option Expr},Dk T nm W k c X->a1p T e c a=true->PO X a (tO nm W X.K e)
 |.none,c,X,a,hc,h=>by
  cases Option.isNone_iff_eq_none.mp h;exact auf
 |.some e,c,X,a,hc,h=>by
  replace h:=jh h;obtain⟨l,rfl,h⟩:=h;exact auh (jr e hc h).v
theorem Rk:∀(it:Ox){c:Ctx}{X:Cx}{Z a:Expr},Dk T nm W k c X->avc T it c Z a=true->PI X Z a (tI nm W X.K it)
 |.val e,c,X,Z,a,hc,h=>a8e (jr e hc h).v
 |.Pu e,c,X,Z,a,hc,h=>by
  replace h:=jh h;obtain⟨⟨n,ls⟩,R,h⟩:=h;obtain⟨p,p',rfl⟩:=Ib R;replace h:=jh h;obtain⟨l,h2,h⟩:=h;cases Ce h2;simp only[ao,d7] at h;obtain⟨⟨rfl,h3⟩,G,U⟩:=h;exact a8f (Iz hc h3).1 (hc.mg (by decide+kernel)) (jr e hc U).v G
 |.enm e,c,X,Z,a,hc,h=>by
  replace h:=jh h;obtain⟨⟨n,ls⟩,R,h⟩:=h;obtain⟨p,p',rfl⟩:=Ib R;replace h:=jh h;obtain⟨l,h2,h⟩:=h;cases Ce h2;simp only[ao,d7] at h;obtain⟨⟨h6,rfl,h3⟩,G,U⟩:=h;obtain⟨ts,h7⟩:=iz.mp h6;obtain⟨k0,pt,rfl⟩:=Rh h7;exact a8v (Iz hc h3).1 (hc.mg (by decide+kernel)) (jr e hc U).v G
 |.zip es,c,X,Z,a,hc,h=>by
  replace h:=jh h;obtain⟨⟨n,ls⟩,R,h⟩:=h;obtain⟨p,p',rfl⟩:=Ib R;simp only[ao,d7] at h;obtain⟨⟨h6,rfl,h3,G⟩,h7⟩:=h;obtain⟨l,ls,rfl⟩:=O9 G;obtain⟨e1,e2⟩:=Dq es hc h7;obtain⟨ts,h9⟩:=iz.mp h6;obtain⟨k0,pt,rfl⟩:=Rh h9;simp only[yt,ao] at e2;obtain⟨f1,f2⟩:=e2;exact a8w (Iz hc h3).1 (hc.mg (by decide+kernel)) e1 (p6 f1 _ _) (yf f2)
 |.vals e,c,X,Z,a,hc,h=>by
  replace h:=jh h;obtain⟨⟨lo,n,ap,ls,p⟩,h0,h⟩:=h;cases afs h0;simp only[ao,d7,nj] at h;obtain⟨⟨⟨rfl,h2⟩,G,rfl⟩,U⟩:=h;exact a09 (jr e hc U).v (Fl h2) G
end
end
noncomputable def a87(e:Ex):Option {b:Bool // (∃v j t it x,e=.comp v j t it x)\/∃v j t it i x,e=.Av v j t it i x}:=match e with|.comp ..=>some ⟨true,.inl ⟨_,_,_,_,_,rfl⟩⟩|.Av ..=>some ⟨true,.inr ⟨_,_,_,_,_,_,rfl⟩⟩|_=>none
def a1u(T:Tab)(c:Ctx)(l:Lv)(e:Ex)(Z v:Expr):Bool :=
 match l with
 |.tg t=>(tgB c 0 t Z&&((O8 v&&((Oq Z).isSome||aww v))||(match t with|.name _=>(adf v).isSome&&(a87 e).isSome|_=>false)))&&zp T e c v
 |.sub o i=>Bq (ako Z) λq=>aau q.2&&(zp T e c v&&(zp T o c q.1&&zp T i c q.2))
 |.fld o f=>Bq (apz Z) λq=>(O8 v&&flB T.Oo f q.2.1)&&(zp T e c v&&zp T o c q.1)
noncomputable def a88(a:Stmt):Option (List Expr×Expr):=Option.map Subtype.val (α:={q:List Expr×Expr // ∃p,a=.Assign q.1 q.2 p}) (match a with|.Assign t v p=>some ⟨(t,v),p,rfl⟩|_=>none)
noncomputable def a1v(a:Stmt):Option Expr:=Option.map Subtype.val (α:={q:Expr // ∃p,a=.Expr q p}) (match a with|.Expr v p=>some ⟨v,p,rfl⟩|_=>none)
noncomputable def a89(a:Stmt):Option (Expr×List Stmt×List Stmt):=Option.map Subtype.val (α:={q:Expr×List Stmt×List Stmt // ∃p,a=.If q.1 q.2.1 q.2.2 p}) (match a with|.If t l r p=>some ⟨(t,l,r),p,rfl⟩|_=>none)
noncomputable def ap5(a:Stmt):Option (Expr×List Stmt×List Stmt):=Option.map Subtype.val (α:={q:Expr×List Stmt×List Stmt // ∃p,a=.While q.1 q.2.1 q.2.2 p}) (match a with|.While t l r p=>some ⟨(t,l,r),p,rfl⟩|_=>none)
noncomputable def a9a(a:Stmt):Option (Expr×Expr×List Stmt×List Stmt):=Option.map Subtype.val (α:={q:Expr×Expr×List Stmt×List Stmt // ∃p,a=.For q.1 q.2.1 q.2.2.1 q.2.2.2 p}) (match a with|.For t i l r p=>some ⟨(t,i,l,r),p,rfl⟩|_=>none)
noncomputable def a9b(a:Stmt):Option (Option Expr):=Option.map Subtype.val (α:={q:Option Expr // ∃p,a=.Return q p}) (match a with|.Return v p=>some ⟨v,p,rfl⟩|_=>none)
noncomputable def a9c(a:Stmt):Option Expr:=Option.map Subtype.val (α:={q:Expr // ∃p,a=.Raise (some q) none p}) (match a with|.Raise (some v) none p=>some ⟨v,p,rfl⟩|_=>none)
noncomputable def a9d(a:Stmt):Option (List Stmt×Str×Str×List Stmt):=Option.map Subtype.val (α:={q:List Stmt×Str×Str×List Stmt // ∃Z G p,a=.Try q.1 [.ExceptHandler (some (.Name q.2.1 Z)) (some q.2.2.1) q.2.2.2 G] [] [] p}) (match a with|.Try b [.ExceptHandler (some (.Name x Z)) (some n) s G] [] [] p=>some ⟨(b,x,n,s),Z,G,p,rfl⟩|_=>none)
def avd(h:a9c a=some v):∃p,a=.Raise (some v) none p:=(Xe h :)
def ave(h:a9d a=some (b,x,n,s)):∃Z G p,a=.Try b [.ExceptHandler (some (.Name x Z)) (some n) s G] [] [] p:=(Xe h :)
noncomputable def isStr(k:Const):Option Str:=Option.map Subtype.val (α:={q:Str // k=.str q}) (match k with|.str s=>some ⟨s,rfl⟩|_=>none)
noncomputable def xrB(T:Tab)(k:Nat)(x:Str):Bool:=match k with|0=>false|k+1=>decide (T.xcs[k]?=some (x,true))
noncomputable def isStub:Al->Bool|.stub=>true|_=>false
def avf(h:a88 a=some (t,v)):∃p,a=.Assign t v p:=(Xe h :)
def air(h:a1v a=some v):∃p,a=.Expr v p:=(Xe h :)
def avh(h:a89 a=some (t,l,r)):∃p,a=.If t l r p:=(Xe h :)
def ais(h:ap5 a=some (t,l,r)):∃p,a=.While t l r p:=(Xe h :)
def avi(h:a9a a=some (t,i,l,r)):∃p,a=.For t i l r p:=(Xe h :)
def avj(h:a9b a=some v):∃p,a=.Return v p:=(Xe h :)
mutual
def a1w(T:Tab):Al->Ctx->Stmt->Bool
 |.asg l e,c,a=>Bq (a88 a) λq=>Bq (Uh q.1) λt=>a1u T c l e t q.2
 |.expr e,c,a=>Bq (a1v a) λv=>O8 v&&zp T e c v
 |.iff t x y,c,a=>Bq (a89 a) λq=>Ri q.1&&(zp T t c q.1&&(Lg T x c q.2.1&&Lg T y c q.2.2))
 |.whl (.tru y) x,c,a=>c.cm&&Bq (ap5 a) λq=>((Oq q.1).isSome&&q.2.2.isEmpty)&&(zp T y c q.1&&Lg T x c q.2.1)
 |.whl t x,c,a=>c.cm&&Bq (ap5 a) λq=>(Ri q.1&&q.2.2.isEmpty)&&(zp T t c q.1&&Lg T x c q.2.1)
 |.for_ t it x,c,a=>(c.cm&&c.qt)&&Bq (a9a a) λq=>(tgB c 0 t q.1&&(Ig q.2.1&&q.2.2.2.isEmpty))&&(avc T it c q.1 q.2.1&&Lg T x c q.2.2.1)
 |.ret e,c,a=>Bq (a9b a) λv=>Bq v (zp T e c)
 |.stub,_,_=>false|.raise k,c,a=>(c.cm&&c.qt)&&Bq (a9c a) λe=>Bq (dCN e) λq=>Bq (Uh q.2) λs=>Bq (afr s) λt=>(isStr t).isSome&&(U0 c q.1&&xrB T k q.1)
 |.exq f es,c,a=>Bq (a1v a) λv=>O8 v&&Bq (dCN v) λq=>(fnB T.fns f q.1 (Eg.len es)&&(c.qt&&(U0 c q.1&&!q.2.isEmpty)))&&Jq T es c q.2
 |.try_ x i y,c,a=>Bq (a9d a) λq=>((decide (q.2.1=T.xb)&&U0 c q.2.1)&&(ade c i q.2.2.1&&(c.sc.lookup q.2.2.1==some NameKind.local&&!q.2.2.2.isEmpty)))&&(Lg T x ⟨c.N,c.sc,c.fn,c.qt,false⟩ q.1&&Lg T y ⟨c.N,c.sc,c.fn,false,false⟩ q.2.2.2)
def Lg(T:Tab):mj->Ctx->List Stmt->Bool
 |.nil,_,a=>a.isEmpty|.cons s r,c,a=>isStub s||(match a with|st::rest=>a1w T s c st&&Lg T r c rest|_=>false)
end
noncomputable def swB(c:Ctx)(t:Str)(pt Z:Pos)(G:Scope):Bool:=(c.sc.lookup t==some NameKind.local&&pt.line==Z.line)&&!(G.names.any λy=>y.1==t&&(y.2==.local||y.2==.cell))
def afu(Z:Dk T nm W k c X):swapsWith (.ListComp elt gs sc vp) (some (.Name t pt)) l X.env=pure (swB c t pt vp sc):=by
 have b:X.env.blockKind=.function:=by unfold Env.blockKind;rw[Z.kd];rfl
 show(pure (X.env.blockKind==.function&&X.env.kindOf t==some .local&&pt.line==vp.line&&!(sc.names.any λ(n,k)=>n==t&&(k==.local||k==.cell))):Sem Bool)=_;rw[b];unfold Env.kindOf;rw[Z.sc];simp[swB]
def ap6(Z:Dk T nm W k c X)(ht:tgB c 0 (.name i) tg=true)(hv:(adf v).isSome=true)(hw:(a87 e).isSome=true)(h:zp T e c v=true):PS X (.Assign [tg] v p) (tS nm W X.K EX (.asg (.tg (.name i)) e)):=by
 have nd:X.N.Nodup:=by rw[Z.N];exact Z.nd
 obtain⟨⟨G,gs,sc⟩,hq⟩:=iz.mp hv;obtain⟨y,py,rfl,hy,_⟩:=aft (nm:=nm) (W:=W) (k:=k) (T:=T) Z ht;obtain⟨⟨_,co⟩,_⟩:=iz.mp hw;obtain⟨vp,rfl⟩:=Xf hq;have U:=λl=>afu (T:=T) (nm:=nm) (W:=W) (k:=k) Z (elt:=G) (gs:=gs) (sc:=sc) (vp:=vp) (pt:=py) (t:=y) (l:=l)
 cases hs:swB c y py vp sc with
 |false =>
  rw[hs] at U;exact ao9 (jr e Z h).v (adi Z ht).1 (U p.line) rfl rfl
 |true =>
  rw[hs] at U;simp only[swB,ao] at hs;have hl:X.env.scope.names.lookup y=some .local:=by rw[Z.sc];have:=hs.1.1;simpa using this
  rcases co with⟨v,j,t,it,x,rfl⟩|⟨v,j,t,it,i',x,rfl⟩
  .replace h:=jh h
   obtain⟨⟨qv,qk,q5⟩,h1,h⟩:=h;cases h1;replace h:=jh h;obtain⟨⟨tg,R,qq,as⟩,h2,h⟩:=h;cases Ce h2;simp only[ao,nj] at h;obtain⟨⟨h3,rfl⟩,h4,h5⟩:=h;obtain⟨q0,q1,q2,B,hB,hg,q3,q4⟩:=Rj Z h3;cases q2;exact akd B q0 (Rk it Z h4) hg (λC fp s H=>(jr x (hB C fp s H) h5).v) q1 q3 q4 nd hy hl (U p.line)
  .replace h:=jh h
   obtain⟨⟨qv,qk,q5⟩,h1,h⟩:=h;cases h1;replace h:=jh h;obtain⟨⟨tg,R,qq,as⟩,h2,h⟩:=h;cases Ce h2;replace h:=jh h;obtain⟨d,h6,h⟩:=h;cases Ce h6;simp only[ao] at h;obtain⟨⟨h3,h7⟩,h4,h8,h5⟩:=h;obtain⟨q0,q1,q2,B,hB,hg,q3,q4⟩:=Rj Z h3;cases q2;exact acx B q0 (Rk it Z h4) hg (λC fp s H=>(jr i' (hB C fp s H) h8).q h7) (λC fp s H=>(jr x (hB C fp s H) h5).v) q1 q3 q4 nd hy hl (U p.line)
section
variable{T:Tab}{nm:Nm}{W:Lp}{k:Nat}
def avk(Z:Dk T nm W k c X)(h:a1u T c l e tg v=true):PS X (.Assign [tg] v p) (tS nm W X.K EX (.asg l e)):=by
 cases l with
 |tg t =>
  simp only[a1u,ao,Bool.or_eq_true] at h;obtain⟨⟨h1,h2⟩,R⟩:=h;rcases h2 with⟨G,U⟩|G
  .have g:=adi (nm:=nm) Z h1
   have sh:(∃n q,tg=.Name n q)\/∃ts k0 q,tg=.Tuple ts k0 q:=by
    cases t with
    |name i =>
     obtain⟨n,z1,_⟩:=jh h1;exact .inl ⟨n,Gs z1⟩
    |names is =>
     obtain⟨ts,z1,_⟩:=jh (j4.mp h1).2;exact .inr ⟨ts,Rh z1⟩
   rcases sh with⟨n,q,rfl⟩|⟨ts,k0,q,rfl⟩
   .exact ao9 (jr e Z R).v g.1 (W6 G _ _ _) rfl rfl
   .have w:aww v=true:=by
     rcases U with U|U
     .cases U
     .exact U
    have w2:swappedStores [.Tuple ts k0 q] v X.env=pure none:=by cases v<;>first|rfl|(cases w;done)
    exact ao9 (jr e Z R).v g.1 (W6 G _ _ _) w2 rfl
  .cases t with
   |name i=>rw[ao] at G;exact ap6 Z h1 G.1 G.2 R|names _=>cases G
 |sub o i =>
  replace h:=jh (show Bq (ako tg) _=true from h);obtain⟨⟨lo,li⟩,h0,h⟩:=h;obtain⟨p',rfl⟩:=U3 h0;simp only[ao] at h;obtain⟨h2,R,G,U⟩:=h;refine apg Z.room.hu (jr e Z R).v (jr o Z G).v (jr i Z U).v λv=>?_
  cases li<;>first|rfl|(cases h2;done)
 |fld o f =>
  replace h:=jh (show Bq (apz tg) _=true from h);obtain⟨⟨lo,n,p'⟩,h0,h⟩:=h;cases aa6 h0;simp only[ao] at h;obtain⟨⟨h1,h2⟩,R,G⟩:=h;obtain⟨t1,t2⟩:=Z.tab.fl _ _ (iy h2);exact aph t1 t2 (jr e Z R).v (jr o Z G).v h1
def be5(Z:Dk T nm W k c X):Dk T nm W k ⟨c.N,c.sc,c.fn,c.qt,false⟩ (xb X pn xe):=⟨Z.N,Z.nd,Z.sc,Z.kd,Z.calm,Z.room,Z.fnl,λz=>(dw z).elim,Z.tab⟩
def be6(Z:Dk T nm W k c X):Dk T nm W k ⟨c.N,c.sc,c.fn,false,false⟩ (xh X pn e):=⟨Z.N,Z.nd,Z.sc,Z.kd,λz=>(dw z).elim,⟨Z.room.un⟩,Z.fnl,λz=>(dw z).elim,Z.tab⟩
def avl:Nx X a (tSs nm W X.K EX (.cons .stub r)):=λZ s σ H D I G=>by obtain⟨ι,ρ,M,fl,U,M',S,R,e,q⟩:=G;rw[MW.Vi] at e;cases e
def akr(h:isStub s=true):s=.stub:=by cases s<;>first|rfl|(cases h)
def ap7(h:(isStr t).isSome=true):∃s,t=.str s:=by obtain⟨s,e⟩:=iz.mp h;exact⟨s,(Xe (P:=λq=>t=.str q) e :)⟩
mutual
theorem avm:∀(s:Al){c:Ctx}{X:Cx}{a:Stmt}{R:XK},Dk T nm W k c X->c.fn=true->XOn X R->(c.cm=true->aow X R)->a1w T s c a=true->PS X a (tS nm W X.K R s)
 |.asg l e,c,X,a,R,hc,hf,G,nw,h=>by
  replace h:=jh h;obtain⟨⟨ts,v⟩,Z,h⟩:=h;obtain⟨p,rfl⟩:=avf Z;replace h:=jh h;obtain⟨t,U,h⟩:=h;cases Ce U;exact avk hc h
 |.expr e,c,X,a,R,hc,hf,G,nw,h=>by
  replace h:=jh h;obtain⟨v,Z,h⟩:=h;obtain⟨p,rfl⟩:=air Z;simp only[ao] at h;exact apa (jr e hc h.2).v (Iw h.1 _ _ _)
 |.iff t x y,c,X,a,R,hc,hf,G,nw,h=>by
  replace h:=jh h;obtain⟨⟨q,l,r⟩,Z,h⟩:=h;obtain⟨p,rfl⟩:=avh Z;simp only[ao] at h;exact a8a ((jr t hc h.2.1).q h.1) (Dr x hc hf G nw h.2.2.1) (Dr y hc hf G nw h.2.2.2)
 |.whl t x,c,X,a,R,hc,hf,G,nw,h=>by
  by_cases ht:∃y,t=.tru y
  .obtain⟨y,rfl⟩:=ht
   replace h:=j4.mp (show(c.cm&&Bq (ap5 a) _)=true from h);obtain⟨hm,h⟩:=h;replace h:=jh h;obtain⟨⟨q,l,r⟩,Z,h⟩:=h;obtain⟨p,rfl⟩:=ais Z;simp only[ao,nj] at h;obtain⟨⟨U,rfl⟩,h3,h4⟩:=h;obtain⟨z,U⟩:=iz.mp U;obtain⟨p',rfl⟩:=Gs U;exact awx (hc.own hm) (aw5 (jr y hc h3).v λ_=>rfl) (Dr x hc hf G nw h4)
  replace h:(c.cm&&Bq (ap5 a) (λq=>(Ri q.1&&q.2.2.isEmpty)&&(zp T t c q.1&&Lg T x c q.2.1)))=true:=by cases t<;>first|exact h|exact absurd ⟨_,rfl⟩ ht
  replace h:=j4.mp h;obtain⟨hm,h⟩:=h;replace h:=jh h;obtain⟨⟨q,l,r⟩,Z,h⟩:=h;obtain⟨p,rfl⟩:=ais Z;simp only[ao,nj] at h;obtain⟨⟨U,rfl⟩,h3,h4⟩:=h;exact awx (hc.own hm) ((jr t hc h3).q U) (Dr x hc hf G nw h4)
 |.for_ t it x,c,X,a,R,hc,hf,G,nw,h=>by
  replace h:=j4.mp h;obtain⟨hm,h⟩:=h;obtain⟨hm,hq⟩:=j4.mp hm;replace h:=jh h;obtain⟨⟨tg,qq,l,r⟩,Z,h⟩:=h;obtain⟨p,rfl⟩:=avi Z;simp only[ao,nj] at h;obtain⟨⟨U,h3,rfl⟩,h4,h5⟩:=h;exact a8c (hc.own hm) (hc.calm hq).1 (Rk it hc h4) (adi hc U).1 (Dr x hc hf G nw h5) h3
 |.ret e,c,X,a,R,hc,hf,G,nw,h=>by
  replace h:=jh h;obtain⟨v,Z,h⟩:=h;obtain⟨p,rfl⟩:=avj Z;replace h:=jh h;obtain⟨w,rfl,h⟩:=h;exact a79 (jr e hc h).v
 |.stub,c,X,a,R,hc,hf,G,nw,h=>by cases h
 |.raise j,c,X,a,R,hc,hf,G,nw,h=>by
  replace h:=j4.mp h;obtain⟨hm,h⟩:=h;obtain⟨hm,hq⟩:=j4.mp hm;replace h:=jh h;obtain⟨e,Z,h⟩:=h;obtain⟨p,rfl⟩:=avd Z;replace h:=jh h;obtain⟨⟨x,ls⟩,U,h⟩:=h;obtain⟨p1,p2,e0⟩:=Ib U;have e0:e=_:=e0;subst e0;replace h:=jh h;obtain⟨l,h3,h⟩:=h;have e0:=Ce h3;have e0:ls=_:=e0;subst e0;replace h:=jh h;obtain⟨t,h4,h⟩:=h;obtain⟨k0,p3,e0⟩:=N6 h4;have e0:l=_:=e0;subst e0;simp only[ao] at h;obtain⟨h5,h6,h7⟩:=h;obtain⟨qk,e0⟩:=ap7 h5;subst e0;obtain⟨g1,g2⟩:=Iz hc h6
  match j,h7 with
  |0,h7=>cases h7
  |j+1,h7 =>
   obtain⟨C,m,z,xc⟩:=hc.tab.xr j x (iy h7);exact aui F.excBase_ValueError (by decide) F.excBase_ValueError xc (nw hm) (hc.calm hq).1 g1 m (uq g2).1 z
 |.exq f es,c,X,a,R,hc,hf,G,nw,h=>by
  replace h:=jh h;obtain⟨v,h0,h⟩:=h;obtain⟨p0,rfl⟩:=air h0;replace h:=j4.mp h;obtain⟨hp,h⟩:=h;replace h:=jh h;obtain⟨⟨n,ls⟩,Z,h⟩:=h;obtain⟨p,p',e0⟩:=Ib Z;have e0:v=_:=e0;subst e0;simp only[ao] at h;obtain⟨⟨U,hq,h3,h4⟩,h5⟩:=h;obtain⟨l,ls,rfl⟩:=O9 h4;obtain⟨fa,fd,ps,F,FE,m,kp,b⟩:=hc.tab.fn _ _ _ (iy U);obtain⟨g1,g2⟩:=Iz hc h3;obtain⟨e1,e2⟩:=Dq es hc h5;simp only[yt,ao] at e2;exact a8o F FE (hc.fnl hf).2.1 G ((hc.calm hq).2.mono x_) g1 m kp b rfl e1 (uq g2).1 (p6 e2.1 _ _) (yf e2.2) (Iw hp _ _ _)
 |.try_ x i y,c,X,a,R,hc,hf,G,nw,h=>by
  replace h:=jh h;obtain⟨⟨b,mx,n,s⟩,h0,h⟩:=h;obtain⟨np,hp,p,rfl⟩:=ave h0;simp only[ao,d7] at h;obtain⟨⟨⟨Z,U⟩,h3,h4,h5⟩,h6,h7⟩:=h;obtain⟨b0,s,rfl⟩:=O9 h5;obtain⟨g1,g2⟩:=Iz hc U;obtain⟨B,mB,hB⟩:=hc.tab.xb;refine a8p (hc.fnl hf).2.1 (hc.fnl hf).2.2 (by rw[hc.N];exact hc.nd) (slot_of hc h3) (by rw[hc.sc];simpa using h4) g1 (by rw[Z];exact mB) (uq g2).1 (λpn xe E G=>?_) (λpn e=>?_) hB
  .exact Dr x (be5 hc) hf G (λz=>(dw z).elim) h6
  .exact Dr y (be6 hc) hf (λ_ _ _ _ _ _ _ _ _ _ _ z=>z.elim) (λz=>(dw z).elim) h7
theorem Dr:∀(s:mj){c:Ctx}{X:Cx}{a:List Stmt}{EX:XK},Dk T nm W k c X->c.fn=true->XOn X EX->(c.cm=true->aow X EX)->Lg T s c a=true->Nx X a (tSs nm W X.K EX s)
 |.nil,c,X,a,EX,hc,hf,on,nw,h=>by
  cases nj.mp h;exact a0v
 |.cons s r,c,X,a,EX,hc,hf,on,nw,h=>by
  cases hs:isStub s with
  |true=>rw[akr hs];exact avl|false =>
  cases a with
  |nil =>
   replace h:(isStub s||false)=true:=h;rw[hs] at h;cases h
  |cons G Z =>
   replace h:(isStub s||(a1w T s c G&&Lg T r c Z))=true:=h;rw[hs,Bool.false_or] at h;simp only[ao] at h;exact at5 (avm s hc hf on nw h.1) (Dr r hc hf on nw h.2)
end
end
structure Def where
 x:Str
 qual:Str
 N:List Str
 ps:List Str
noncomputable def scB(N G:Yf)(Z:Scope):Bool :=
 (decide (Z.kind=.function)&&(!Z.isCoroutine&&!Z.isGenerator))&&((decide N.Nodup&&decide (N.take G.length=G)) &&
 (G.all (λx=>Z.names.lookup x==some .local||Z.names.lookup x==some .cell)&&Z.names.all (λy=>!(y.2==NameKind.free))))
def a1x(h:scB N ps sc=true):Uy N ps sc:=by simp only[scB,ao,d7,Bool.not_eq_true',jg] at h;obtain⟨⟨h1,Z,R⟩,⟨h4,G⟩,h6,U⟩:=h;exact⟨h1,Z,R,h4,G,λx m=>by have:=h6 x m;simpa using this,λy m=>by have:=U y m;simpa using this⟩
def aks(T:Tab)(d:Def)(F:MW.Fn)(Z:Stmt):Bool :=
 (scB d.N d.ps (yx Z)&&(decide (F.np=d.ps.length)&&decide (F.ns=d.N.length)))&&Lg T F.body ⟨d.N,(yx Z).names,true,true,true⟩ (Gp Z)
set_option tactic.hygienic true in
def avn{F:MW.Fn}(h:F.run W ds M=.ok d U):ds.length=F.np/\∃Y Z,F.body.den W (ds.map some++List.replicate (F.ns-F.np) none) M=.ok (Y,Z) U/\(Y=.ret d\/(Y=.next/\d=.non)):=by
 unfold MW.Fn.run at h;split at h
 .rename_i J
  obtain⟨⟨Y,Z⟩,C,G,e⟩:=dz h;refine⟨J,Y,Z,?_⟩;cases Y with
  |ret z=>cases e;exact⟨G,.inl rfl⟩|next=>cases e;exact⟨G,.inr ⟨rfl,rfl⟩⟩|brk=>cases e|cont=>cases e|err=>cases e
 .cases h
set_option tactic.hygienic true in
def ap8{F:MW.Fn}(h:F.Hg W ds M=some (c,M')):ds.length=F.np/\∃Z,F.body.den W (ds.map some++List.replicate (F.ns-F.np) none) M=.ok (.err c,Z) M':=by
 unfold MW.Fn.Hg at h;split at h
 .rename_i Y
  refine⟨Y,?_⟩;split at h
  .rename_i e
   cases h;exact⟨_,e⟩
  .cases h
 .cases h
abbrev wld(IR:MW.Prog)(n:Nat):Lp:=⟨IR.call n,IR.cls,IR.Uj n⟩
def a1y{R:MW.Prog}(U:Fun K d.x d.qual st f fd)(hF:R.fns[i]?=some F)(h:aks T d F st=true)(hT:apx T nm (wld R n) k P w K mg base):Dp P w K mg base CX0 (k+17) f fd d.ps (spF nm (wld R (n+1)) K F.np i)/\Dp P w K mg base (CXE P w) (k+17) f fd d.ps (spE nm (wld R (n+1)) K F.np i):=by
 simp only[aks,ao,d7] at h;obtain⟨⟨h1,h2,h3⟩,h4⟩:=h;have S:=a1x h1;have go:∀Z M d' M',MW.Lp.call (wld R (n+1)) i Z M=.ok d' M'->F.run (wld R n) Z M=.ok d' M':=λZ M d' M' e=>by have e:(match R.fns[i]? with|some F=>F.run (wld R n) Z M|none=>.bad)=Res.ok d' M':=e;rw[hF] at e;exact e
 have q2:∀Z M c M',MW.Lp.Uj (wld R (n+1)) i Z M=some (c,M')->F.Hg (wld R n) Z M=some (c,M'):=λZ M c M' e=>by have e:(match R.fns[i]? with|some F=>F.Hg (wld R n) Z M|none=>none)=some (c,M'):=e;rw[hF] at e;exact e
 have q0:∀{ι H Z vs},mz K ι H Z vs->Z.length=F.np->qm K ι H (Z.map some++List.replicate (F.ns-F.np) none) (L2.start d.N vs):=λr l=>by unfold L2.start;exact(qm.ao6 r).append (qm.acp _ (by rw[nu,h3,<- r.length,l]))
 constructor
 .refine U.ok (k:=k+16) S (λvs H Q E z_=>by obtain⟨ι,M,Z,d',M',_,r,l,e,_⟩:=z_;rw[<- r.length,l,h2]) (λqk A G s H vs Q E hr z_=>?_)
  obtain⟨ι,M,Z,d',M',SM,r,l,e,q⟩:=z_;have hc:Dk T nm (wld R n) k ⟨d.N,(yx st).names,true,true,true⟩ (O6 CX0 P w K mg base d.N d.qual (yx st) f qk A G s H E).nox :=
   ⟨rfl,S.nd,rfl,S.kind,λ_=>⟨rfl,hr⟩,hr.roo,λ_=>⟨λ_=>rfl,rfl,rfl,rfl⟩,λ_=>PassesOwn.never,hT⟩
  refine⟨_,Dr F.body (EX:=λ_ _ _=>False) hc rfl (λ_ _ _ _ _ _ _ _ _ _ _ z=>z.elim) (λ_ _ _ _ _ _ _ _ _ _ _ z=>z.elim) h4,?_⟩;obtain⟨hl,fl,qv,e1,e2⟩:=avn (go _ _ _ _ e);refine⟨ι,_,M,fl,qv,M',SM,q0 r l,e1,λqq H' q1 le S' R'=>?_⟩;rcases e2 with rfl|⟨rfl,rfl⟩
  .exact λv rv=>q qq H' v le S' rv
  .exact q qq H' _ le S' .non
 .obtain⟨oc,od,kV,q4,pm,an,qk,ct,q5,rfl,lk,q3⟩:=U.ex
  refine awo (k:=k+16) lk q3 S (λvs H Q E z_=>by obtain⟨ι,M,Z,c,M',_,r,l,e,_⟩:=z_;rw[<- r.length,l,h2]) (λA G s H vs Q E hr z_=>?_);obtain⟨ι,M,Z,c,M',SM,r,l,e,q⟩:=z_;have hc:Dk T nm (wld R n) k ⟨d.N,(yx st).names,true,true,true⟩ (O6 (CXE P w) P w K mg base d.N d.qual (yx st) f qk A G s H E) :=
   ⟨rfl,S.nd,rfl,S.kind,λ_=>⟨rfl,hr⟩,hr.roo,λ_=>⟨λ_=>rfl,rfl,rfl,rfl⟩,λ_=>PassesOwn.leaving,hT⟩
  refine⟨_,Dr F.body (EX:=E) hc rfl a0e (λ_=>atp) h4,?_⟩;obtain⟨hl,qv,e1⟩:=ap8 (q2 _ _ _ _ e);exact⟨ι,_,M,_,qv,M',SM,q0 r l,e1,λqq H' q1 le S' R' C hC=>q C hC qq H' le S'⟩
theorem ait{nm:Nm}{P:Program}{w:World}{K:Fg}{mg:Zs}{base:Heap}{IR:MW.Prog}{T:Tab}{D:Nat->Def}{st:Nat->Stmt}{fa:Nat->Addr}{fd:Nat->FuncData}
 (U:∀i,i<IR.fns.length->Fun K (D i).x (D i).qual (st i) (fa i) (fd i)) (h:∀i F,IR.fns[i]?=some F->aks T (D i) F (st i)=true)
 (mk:∀n,(∀i F,IR.fns[i]?=some F->Dp P w K mg base CX0 (17*n) (fa i) (fd i) (D i).ps (spF nm (wld IR n) K F.np i)/\Dp P w K mg base (CXE P w) (17*n) (fa i) (fd i) (D i).ps (spE nm (wld IR n) K F.np i))->apx T nm (wld IR n) (17*n) P w K mg base) :
 ∀n i F,IR.fns[i]?=some F->Dp P w K mg base CX0 (17*n) (fa i) (fd i) (D i).ps (spF nm (wld IR n) K F.np i)/\Dp P w K mg base (CXE P w) (17*n) (fa i) (fd i) (D i).ps (spE nm (wld IR n) K F.np i)
 | 0,i,F,hF=>⟨⟨(λR H Q E z_=>by obtain⟨ι,M,ds,d',M',_,r,l,e,_⟩:=z_;cases e),λA Z s H G us R Q E hr he hb hv z_=>by obtain⟨ι,M,ds,d',M',_,r,l,e,_⟩:=z_;cases e⟩,
  ⟨(λR H Q E z_=>by obtain⟨ι,M,ds,c,M',_,r,l,e,_⟩:=z_;cases e),λA Z s H G us R Q E hr he hb hv z_=>by obtain⟨ι,M,ds,c,M',_,r,l,e,_⟩:=z_;cases e⟩⟩
 |n+1,i,F,hF=>a1y (U i (ak.mp hF).1) hF (h i F hF) (mk n (ait U h mk n))
noncomputable def a1z(s:Str):Bool:=s.cps[0]?==some 0
def ap9(Z:Yf):Bool:=decide Z.Nodup&&Z.all λs=>!a1z s
noncomputable def adk(Z:Yf)(i:Nat):Str:=match Z[i]? with|some s=>s|none=>⟨#[0,0,i]⟩
def aqa(h:ap9 Oo=true)(i j:Nat)(e:adk Oo i=adk Oo j):i=j:=by
 simp only[ap9,ao,d7,jg] at h;have Z:∀k,a1z ⟨#[0,0,k]⟩=true:=λk=>rfl
 unfold adk at e;cases hi:Oo[i]? with
 |some a =>
  rw[hi] at e;cases hj:Oo[j]? with
  |some b =>
   rw[hj] at e;have e:a=b:=e;subst e;obtain⟨l1,G⟩:=ak.mp hi;obtain⟨R,U⟩:=ak.mp hj;exact(zf h.1).mp (G.trans U.symm)
  |none =>
   rw[hj] at e;have e:a=⟨#[0,0,j]⟩:=e;have:=h.2 a (bc hi);rw[e,Z] at this;cases this
 |none =>
  rw[hi] at e;cases hj:Oo[j]? with
  |some b =>
   rw[hj] at e;have e:(⟨#[0,0,i]⟩:Str)=b:=e;have:=h.2 b (bc hj);rw[<- e,Z] at this;cases this
  |none =>
   rw[hj] at e;have e:(⟨#[0,0,i]⟩:Str)=⟨#[0,0,j]⟩:=e;simpa using e
def avo(G:List (Option Addr))(Z:List (Nat×Addr))(U:Yf)(h:ap9 U=true):Nm:=⟨λc=>(G[c]?).join,λc=>Z.lookup c,adk U,aqa h⟩
def aqc(Z:Yf)(x:Str):Bool:=!(Z.contains x)&&!a1z x
def aqd(h:aqc Oo x=true)(i:Nat):adk Oo i≠x:=λe=>by
 simp only[aqc,ao,Bool.not_eq_true'] at h;unfold adk at e;cases hi:Oo[i]? with
 |some a =>
  rw[hi] at e;have e:a=x:=e;rw[<- e] at h;have:=List.contains_iff_mem.mpr (bc hi);rw[this] at h;cases h.1
 |none =>
  rw[hi] at e;have e:(⟨#[0,0,i]⟩:Str)=x:=e;rw[<- e] at h;cases h.2
def AllP{Z:Type}(P:Z->Prop):List Z->Prop
 |x::r=>P x/\AllP P r|[]=>True
def AllP.get(h:AllP P l)(m:x∈l):P x:=by
 induction l with
 |nil=>cases m
 |cons y r Z =>
  rcases dh.mp m with z|z
  .rw[z];exact h.1
  .exact Z h.2 z
section
variable(K:Fg)(mg:Zs)
def adl:List Def->List Stmt->List Addr->List FuncData->Prop
 |d::ds,s::ss,a::as,f::fs=>(Fun K d.x d.qual s a f/\Binds K f d.ps [])/\adl ds ss as fs|[],[],[],[]=>True|_,_,_,_=>False
def Xg:List (Option (Str×Nat))->List Addr->Prop
 |some p::r,a::as=>mg p.1=some (.ref a)/\Xg r as|none::r,_::as=>Xg r as|_,_=>True
noncomputable abbrev avp(C:Addr)(mts:List (Str×Nat))(Oa:X1):=AllP λ(q:Nat×Nat)=>∃p a,mts[q.1]?=some p/\Oa[q.2]?=some a/\Meth K C p.1 a
noncomputable abbrev aqe(C:Addr):=AllP λx=>Hx K C x
structure ClF(T:Tab)(Oa:X1)(x:Str)(C:Addr)(cl:MW.Cl):Prop where
 mg:mg x=some (.ref C)
 cs:Cls K C
 ini:∃f,Oa[cl.init]?=some f/\Mk K C f
 me:avp K C T.mts Oa cl.meths
 na:aqe K C T.Oo
def Pa(T:Tab)(Z:X1):List (Option (Str×Nat))->List (Option Addr)->List MW.Cl->Prop
 |some p::r,some C::cs,cl::cls=>ClF K mg T Z p.1 C cl/\Pa T Z r cs cls|none::r,none::cs,_::cls=>Pa T Z r cs cls|[],[],[]=>True|_,_,_=>False
noncomputable abbrev AllK(D:Addr)(j:Nat):=AllP λ(p:Nat×Addr)=>PySem.W.kitOne K (.ref p.2) (.ref D)=some (p.1==j+1)
def adm(Z:List (Nat×Addr)):List (Str×Bool)->List Addr->Nat->Prop
 |p::r,D::ds,j=>(mg p.1=some (.ref D)/\(p.2=true->Z.lookup (j+1)=some D)/\AllK K D j Z)/\adm Z r ds (j+1)|[],_,_=>True|_::_,[],_=>False
abbrev aqf(B:Addr):=AllP λ(p:Nat×Addr)=>aj5 K p.2 a1d "ValueError.__new__"/\aj6 K p.2=true/\PySem.W.kitOne K (.ref p.2) (.type "ValueError")=some true/\afh K p.2 B=true
noncomputable abbrev aqg :=AllP λ(p:Str×Int)=>∃t,mg p.1=some (.int p.2 t)
noncomputable abbrev AllB :=AllP λ(x:Str)=>mg x=none
end
def adl.get{U:List Def}{i:Nat}{d:Def}(h:adl K U Z G fs)(e:U[i]?=some d):∃s a f,Z[i]?=some s/\G[i]?=some a/\fs[i]?=some f/\Fun K d.x d.qual s a f/\Binds K f d.ps []:=by
 induction U generalizing Z G fs i with
 |nil=>simp at e
 |cons d0 U R =>
  cases Z with
  |nil=>exact h.elim|cons s Z =>
  cases G with
  |nil=>exact h.elim|cons a G =>
  cases fs with
  |nil=>exact h.elim|cons f fs =>
  cases i with
  |zero=>cases e;exact⟨s,a,f,rfl,rfl,rfl,h.1⟩|succ i=>exact(R h.2 e :)
def Xg.get{l:List (Option (Str×Nat))}{Z:X1}{i:Nat}{p:Str×Nat}{a:Addr}(h:Xg mg l Z)(e:l[i]?=some (some p))(G:Z[i]?=some a):mg p.1=some (.ref a):=by
 induction l generalizing Z i with
 |nil=>simp at e
 |cons q l U =>
  cases Z with
  |nil=>simp at G|cons b Z =>
  cases i with
  |zero=>cases e;cases G;exact h.1
  |succ i =>
   cases q with
   |none=>exact U h e G|some q=>exact U h.2 e G
def Pa.get{l:List (Option (Str×Nat))}{c:Nat}{p:Str×Nat}(h:Pa K mg T G l Z cls)(e:l[c]?=some (some p)):∃C cl,Z[c]?=some (some C)/\cls[c]?=some cl/\ClF K mg T G p.1 C cl:=by
 induction l generalizing Z cls c with
 |nil=>simp at e
 |cons q l U =>
  cases Z with
  |nil=>cases q<;>exact h.elim|cons C Z =>
  cases cls with
  |nil=>cases q<;>cases C<;>exact h.elim|cons cl cls =>
  cases q with
  |none =>
   cases C with
   |some C=>exact h.elim
   |none =>
    cases c with
    |zero=>cases e
    |succ c =>
     have h:Pa K mg T G l Z cls:=h;exact(U h e :)
  |some q =>
   cases C with
   |none=>exact h.elim
   |some C =>
    cases c with
    |zero=>cases e;exact⟨C,cl,rfl,rfl,h.1⟩|succ c=>exact(U h.2 e :)
theorem Pa.at{Z:List (Option Addr)}{c:Nat}{C:Addr}(h:Pa K mg T U l Z cls)(e:Z[c]?=some (some C)):Cls K C/\aqe K C T.Oo:=by
 induction l generalizing Z cls c with
 |nil =>
  cases Z with
  |nil=>simp at e|cons C Z=>cases cls<;>exact h.elim
 |cons q l G =>
  cases Z with
  |nil=>simp at e|cons C Z =>
  cases cls with
  |nil=>cases q<;>cases C<;>exact h.elim|cons R cls =>
  cases q with
  |none =>
   cases C with
   |some C=>exact h.elim
   |none =>
    cases c with
    |zero=>cases e
    |succ c =>
     have h:Pa K mg T U l Z cls:=h;exact(G h e :)
  |some q =>
   cases C with
   |none=>exact h.elim
   |some C =>
    cases c with
    |zero=>cases e;exact⟨h.1.cs,h.1.na⟩|succ c=>exact(G h.2 e :)
def adm.get{l:List (Str×Bool)}{i j:Nat}{p:Str×Bool}(h:adm K mg xas l Z j)(e:l[i]?=some p):∃D,mg p.1=some (.ref D)/\(p.2=true->xas.lookup (j+i+1)=some D)/\AllK K D (j+i) xas:=by
 induction l generalizing Z j i with
 |nil=>simp at e
 |cons q l U =>
  cases Z with
  |nil=>exact h.elim|cons D Z =>
  cases i with
  |zero=>cases e;exact⟨D,h.1⟩
  |succ i =>
   obtain⟨G,R⟩:=U h.2 e;exact⟨G,by rw[show j+(i+1)=j+1+i by lia];exact R⟩
def avq(T:Tab):List MW.Fn->List Def->List Stmt->Bool
 |F::Fs,d::ds,s::ss=>aks T d F s&&avq T Fs ds ss|[],[],[]=>true|_,_,_=>false
noncomputable def npB(Z:List MW.Fn)(f n:Nat):Bool:=match Z[f]? with|some F=>F.np==n|none=>false
def tfB(Z:List MW.Fn)(l:List (Option (Str×Nat))):Bool:=l.zipIdx.all λq=>match q.1 with|some p=>npB Z q.2 p.2|none=>true
def tcB(Z:MW.Prog)(l:List (Option (Str×Nat))):Bool:=l.zipIdx.all λq=>match q.1 with|some p=>(match Z.cls[q.2]? with|some G=>npB Z.fns G.init (p.2+1)|none=>false)|none=>true
noncomputable def be9(Z:List MW.Cl)(m c f:Nat):Bool:=Z.zipIdx.all λq=>match q.1.meths.lookup m with|none=>true|some g=>q.2==c&&g==f
def tmB(G:MW.Prog)(T:Tab)(mcs:List (Nat×Nat)):Bool:=T.mts.zipIdx.all λq=>match mcs[q.2]? with
 |some Z=>(be9 G.cls q.2 Z.1 Z.2&&(npB G.fns Z.2 (q.1.2+1)&&aqc T.Oo q.1.1))&&((match T.cls[Z.1]? with|some (some _)=>true|_=>false)&&(match G.cls[Z.1]? with|some U=>U.meths.lookup q.2==some Z.2|none=>false))
 |none=>false
def K1{Z:Type}{l:List Z}{g:Z×Nat->Bool}(h:l.zipIdx.all g=true){x:Z}(e:l[i]?=some x):g (x,i)=true:=by rw[jg] at h;exact h (x,i) (by rw[n6];exact⟨i,by rw[wy,e];simp⟩)
set_option tactic.hygienic true in
def afv(h:npB fns f n=true):∃F,fns[f]?=some F/\F.np=n:=by
 unfold npB at h;split at h
 .rename_i F e;exact⟨F,e,eq_of_beq h⟩
 .cases h
def adn{G:List MW.Fn}{i:Nat}{F:MW.Fn}(h:avq T G U Z=true)(e:G[i]?=some F):∃d s,U[i]?=some d/\Z[i]?=some s/\aks T d F s=true:=by
 induction G generalizing U Z i with
 |nil=>simp at e
 |cons F0 G R =>
  cases U with
  |nil=>cases h|cons d U =>
  cases Z with
  |nil=>cases h|cons s Z =>
  replace h:=j4.mp h;cases i with
  |zero=>cases e;exact⟨d,s,rfl,rfl,h.1⟩|succ i=>exact(R h.2 e :)
set_option tactic.hygienic true in
def aem(U:ap9 T.Oo=true)(hP:avq T IR.fns Ds ss=true)(h1:tfB IR.fns T.fns=true)(h2:tcB IR T.cls=true)(h3:tmB IR T mcs=true)(aF:adl K Ds ss R fds)(aG:Xg mg T.fns R)(aC:Pa K mg T R T.cls cas IR.cls)(aV:aqg mg T.au2)(aB:AllB mg Ni)(aX:adm K mg xas T.xcs xds 0)(aE:aqf K B xas)(mB:mg T.xb=some (.ref B))(hF:IR.fns[i]?=some F) :
 ∃d a f,Ds[i]?=some d/\R[i]?=some a/\fds[i]?=some f/\Binds K f d.ps []/\Dp P w K mg base CX0 (17*n) a f d.ps (spF (avo cas xas T.Oo U) (wld IR n) K F.np i):=by
 let dd:Def:=⟨Str.empty,Str.empty,[],[]⟩
 let sd:Stmt:=.Pass ⟨0,0,0,0⟩
 obtain⟨d,s,g1,g2,g3⟩:=adn hP hF;have all:∀(i:Nat)(F:MW.Fn),IR.fns[i]?=some F->∃d s a f,Ds[i]?=some d/\ss[i]?=some s/\R[i]?=some a/\fds[i]?=some f/\Fun K d.x d.qual s a f/\Binds K f d.ps []/\aks T d F s=true:=λi F e=>by
  refine hG λ_ _k=>?_
  obtain⟨d,s,g1,g2,g3⟩:=adn hP e;obtain⟨s',a,f,Y,u,Z,L,k5⟩:=aF.get g1;rw[g2] at Y;cases Y;apply _k;exact⟨d,s,a,f,g1,g2,u,Z,L,k5,g3⟩
 have df:∀{j:Nat}{a:Addr}{f:FuncData}{d:Def},R[j]?=some a->fds[j]?=some f->Ds[j]?=some d->(R[j]?).getD 0=a/\Ds[j]?.getD dd=d:=λJ S e3=>⟨by rw[J];rfl,by rw[e3];rfl⟩
 obtain⟨qk,q6⟩:∃qk:FuncData,True:=by obtain⟨s',a,f,_⟩:=aF.get g1;exact⟨f,trivial⟩
 have qq:=ait (nm:=avo cas xas T.Oo U) (P:=P) (w:=w) (K:=K) (mg:=mg) (base:=base) (IR:=IR) (T:=T) (D:=λi=>Ds[i]?.getD dd) (st:=λi=>ss[i]?.getD sd) (fa:=λi=>(R[i]?).getD 0) (fd:=λi=>(fds[i]?).getD qk)
  (λi hi=>by
   refine hG λ_ _k=>?_
   obtain⟨d,s,a,f,Y,u,Z,L,k5,k6,k7⟩:=all i IR.fns[i] (by simp[hi]);apply _k;rw[Y,u,Z,L];exact k5)
  (λi F e=>by
   refine hG λ_ _k=>?_
   obtain⟨d,s,a,f,Y,u,Z,L,k5,k6,k7⟩:=all i F e;apply _k;rw[Y,u];exact k7)
  (λn G=>?_) n i F hF
 .refine hG λ_ _k=>?_
  obtain⟨d',s',a,f,Y,u,Z,L,k5,k6,k7⟩:=all i F hF;apply _k;refine⟨d',a,f,Y,Z,L,k6,?_⟩;have:=qq.1;rw[Y,Z,L] at this;exact this
 ·
  have at_:∀{j:Nat}{F:MW.Fn}{a:Addr},IR.fns[j]?=some F->R[j]?=some a->∃(f:FuncData)(d:Def),Binds K f d.ps []/\Dp P w K mg base CX0 (17*n) a f d.ps (spF (avo cas xas T.Oo U) (wld IR n) K F.np j)/\Dp P w K mg base (CXE P w) (17*n) a f d.ps (spE (avo cas xas T.Oo U) (wld IR n) K F.np j)/\PySem.W.keepIn K (.ref a)=true:=fun{j F a} J S=>by
   refine hG λ_ _k=>?_
   obtain⟨d,s,a',f,Y,u,Z,L,k5,k6,k7⟩:=all j F J;rw[S] at Z;cases Z;have g:=G j F J;rw[Y,S,L] at g;apply _k;exact⟨f,d,k6,g.1,g.2,k5.kp⟩
  have addr:∀{j:Nat}{F:MW.Fn},IR.fns[j]?=some F->∃a,R[j]?=some a:=fun{j F} e=>by
   refine hG λ_ _k=>?_
   obtain⟨d,s,a',f,Y,u,Z,_⟩:=all j F e;apply _k;exact⟨a',Z⟩
  refine⟨λf x m e=>?_,λc x m e=>?_,λm x j e=>?_,λf x e=>?_,λx i m=>aV.get m,λx m=>aB.get m,λj x e=>?_,λj x b e=>?_,λc C e=>?_,⟨B,mB,λc C e=>(aE.get (mem_of_lookup e)).2.2.2⟩⟩
  .refine hG λ_ _k=>?_
   obtain⟨F,J,S⟩:=afv (K1 h1 e);obtain⟨a,e3⟩:=addr J;obtain⟨fd,d,b,g,ge,kp⟩:=at_ J e3;rw[S] at g ge;apply _k;exact⟨a,fd,d.ps,g,ge,aG.get e e3,kp,b⟩
  .refine hG λ_ _k=>?_
   obtain⟨C,cl,q1,q2,q3⟩:=aC.get e;have z:=K1 h2 e;simp only[q2] at z;obtain⟨F,J,S⟩:=afv z;obtain⟨f,f1,f2⟩:=q3.ini;obtain⟨fd,d,b,g,_,kp⟩:=at_ J f1;rw[S] at g;apply _k;exact⟨C,f,fd,d.ps,cl,f2,g,q3.mg,b,q2,by show(cas[c]?).join=some C;rw[q1];rfl⟩
  .have z:=K1 h3 e
   simp only at z;split at z
   .rename_i cf q5
    simp only[ao] at z;refine hG λ_ _k=>?_
    obtain⟨⟨z1,z2,z3⟩,z4,z5⟩:=z;obtain⟨F,J,S⟩:=afv z2;apply _k;split at z4
    .rename_i p hp
     refine hG λ_ _k=>?_
     obtain⟨C,cl,q1,q2,q3⟩:=aC.get hp;rw[q2] at z5;simp only at z5;have mem:(m,cf.2)∈cl.meths:=mem_of_lookup (eq_of_beq z5);obtain⟨p',a,r1,r2,r3⟩:=q3.me.get mem;rw[e] at r1;cases r1;obtain⟨fd,d,b,g,_,kp⟩:=at_ J r2;rw[S] at g;apply _k;refine⟨C,a,fd,d.ps,cf.2,q3.cs,r3,g,b,λc' q7 q4 g' qv=>?_,aqd z3⟩;have y:=K1 z1 q4;simp only[qv,ao] at y;have y1:c'=cf.1:=eq_of_beq y.1;exact⟨by show(cas[c']?).join=some C;rw[y1,q1];rfl,eq_of_beq y.2⟩
    .cases z4
   .cases z
  .refine⟨by show x=adk T.Oo f;unfold adk;rw[e],λc C hC=>?_⟩
   have hC:(cas[c]?).join=some C:=hC;have q0:cas[c]?=some (some C):=by
    cases q:cas[c]? with
    |none=>rw[q] at hC;cases hC
    |some o=>rw[q] at hC;cases o with
     |none=>cases hC|some C'=>cases hC;rfl
   obtain⟨y1,y2⟩:=aC.at q0;exact⟨y1,y2.get (bc e)⟩
  .obtain⟨D,m,z,_⟩:=aX.get e
   have z:=z rfl;rw[sy] at z;exact⟨D,m,z,(aE.get (mem_of_lookup z)).1⟩
  .obtain⟨D,m,_,z⟩:=aX.get e
   rw[sy] at z;exact⟨D,m,λc C e=>z.get (mem_of_lookup e)⟩
  .have:=aE.get (mem_of_lookup e)
   exact⟨this.2.1,this.2.2.1⟩
def fN:adl K [] [] [] []:=trivial
def gN:Xg mg [] as:=trivial
def gS(h:mg p.1=some (.ref a))(t:Xg mg r Z):Xg mg (some p::r) (a::Z):=⟨h,t⟩
def gO(t:Xg mg r Z):Xg mg (none::r) (a::Z):=t
def mN:avp K C mts Z []:=trivial
def mC(U:mts[q.1]?=some p)(G:Z[q.2]?=some a)(m:Meth K C p.1 a)(t:avp K C mts Z r):avp K C mts Z (q::r):=⟨⟨p,a,U,G,m⟩,t⟩
def nN:aqe K C []:=trivial
def nC(h:Hx K C x)(t:aqe K C r):aqe K C (x::r):=⟨h,t⟩
def cN:Pa K mg T Z [] [] []:=trivial
def cO(t:Pa K mg T Z r cs cls):Pa K mg T Z (none::r) (none::cs) (cl::cls):=t
def cS(h:ClF K mg T Z p.1 C cl)(t:Pa K mg T Z r cs cls):Pa K mg T Z (some p::r) (some C::cs) (cl::cls):=⟨h,t⟩
def kN:AllK K D j []:=trivial
def kC(h:PySem.W.kitOne K (.ref p.2) (.ref D)=some (p.1==j+1))(t:AllK K D j r):AllK K D j (p::r):=⟨h,t⟩
def xN:adm K mg xas [] ds j:=trivial
def xC(m:mg p.1=some (.ref D))(z:p.2=true->xas.lookup (j+1)=some D)(h:AllK K D j xas)(t:adm K mg xas r ds (j+1)):adm K mg xas (p::r) (D::ds) j:=⟨⟨m,z,h⟩,t⟩
def eN:aqf K B []:=trivial
def N7(c:PySem.W.clsIn K D=some q)(t:PySem.W.typeIn K (.ref D)=some (.type "type"))(h:PySem.W.subIn K (.ref C) (.ref D)=some b)(e:(C==D)=false):PySem.W.kitOne K (.ref C) (.ref D)=some b:=by
 unfold PySem.W.kitOne;split
 .rename_i z
  rw[Value.ref.inj (xn.mp z)] at e;simp at e
 .unfold PySem.W.kitCls
  dsimp only;rw[c,t,h];rfl
def W8(h:C=D):PySem.W.kitOne K (.ref C) (.ref D)=some true:=by subst h;unfold PySem.W.kitOne;simp
def avr(h:PySem.W.subIn K (.ref C) (.type "ValueError")=some true):PySem.W.kitOne K (.ref C) (.type "ValueError")=some true:=by
 unfold PySem.W.kitOne;split
 .rfl
 .unfold PySem.W.kitCls
  have:PySem.W.kitMeta "ValueError" = true:=by decide+kernel
  simp only[this,h];rfl
def eC(x:PySem.W.excIn K p.2 a1d "ValueError.__new__" = true)(G:PySem.W.findIn K (.ref p.2) "__getattribute__" = some (some (.builtin "BaseException.__getattribute__")))(nh:PySem.W.findIn K (.ref p.2) "__getattr__" = some none)(cl:PySem.W.findIn K (.ref p.2) "__class__" = some (some (.builtin "object.__class__")))
 (Z:PySem.W.subIn K (.ref p.2) (.type "BaseException")=some true) (sO:PySem.W.subIn K (.ref p.2) (.type "object")=some true) (is:PySem.W.clsIn K p.2=some q) (U:PySem.W.subIn K (.ref p.2) (.type "ValueError")=some true)
 (R:PySem.W.subIn K (.ref p.2) (.ref B)=some true) (m2:PySem.W.subIn K (.ref B) (.type "BaseException")=some true) (m3:PySem.W.typeIn K (.ref B)=some (.type "type")) (m4:PySem.W.clsIn K B=some q') (t:aqf K B r):aqf K B (p::r) :=
 ⟨⟨⟨x⟩,by unfold aj6;rw[G,nh,cl,Z,sO,is];rfl,avr U,by unfold afh;rw[R,m2,m3,m4];rfl⟩,t⟩
def vN:aqg mg []:=trivial
def vC(h:mg p.1=some (.int p.2 t))(q:aqg mg r):aqg mg (p::r):=⟨⟨t,h⟩,q⟩
def bN:AllB mg []:=trivial
def bC(h:mg x=none)(q:AllB mg r):AllB mg (x::r):=⟨h,q⟩
abbrev Lk(K:Fg)(f:Addr)(x q:Str)(st:Stmt)(oc:Value)(od:Option Addr)(kV dc pm:Value)(an:Option Addr)(cd ct:Value)(sl:Array (Option Value)):Prop :=
 K.lookup f=some ⟨oc,od,.func (PySem.W.fnOf x q (Iu st) (Gp st) (yx st) .none kV dc pm an cd ct),sl⟩/\PySem.W.codeIn K cd q=true/\PySem.W.keepIn K (.ref f)=true
noncomputable def a2a:Nat->(List Value->Prop)->Prop|0,P=>P []|n+1,P=>∀a,a2a n λZ=>P (a::Z)
theorem aiu:∀{us:Zl}{P:List Value->Prop},a2a us.length P->P us|[],_,h=>h|a::us,_,h=>aiu (us:=us) (h a)
def fE{kV:Value}(l:Lk K a d.x d.qual s oc od kV dc pm Z cd G sl)(r:adl K ds ss as fs)
 (b:∀(kV U pm:Value)(Z:Option Addr)(R G:Value),a2a d.ps.length λus=>bindArgs (PySem.W.fnOf d.x d.qual (Iu s) (Gp s) (yx s) .none kV U pm Z R G) ⟨us,[]⟩=pure (d.ps.zip us):=by(repeat intro _);rfl) :
 adl K (d::ds) (s::ss) (a::as) (PySem.W.fnOf d.x d.qual (Iu s) (Gp s) (yx s) .none kV dc pm Z cd G::fs):=⟨⟨aop l.1 l.2.1 l.2.2,(aop l.1 l.2.1 l.2.2).binds λ_ _ _ _ _ _ _ e=>aiu (e▸b _ _ _ _ _ _)⟩,r⟩
noncomputable def aiv(K:Fg):Sp:=λG H Q _=>∃(a:Addr)(Z:X9),G=[.ref a]/\Only H/\Gm K H a (Z.map V.int)/\Z.length<=63/\∀U,Q (.bl true) U
def avs(o:Only H)(h:Gm K H a vs):aan K H a vs:=by
 rcases h with(h|h)|h
 .rcases o a with z|⟨ob,xs,z⟩<;>rw[z] at h<;>cases h
 .exact .inl h
 .exact .inr h
def avt(run:∀(Z:X9),Z.length<=63->∃G,W.call i [.fz (Z.map MW.D.int)] []=.ok (.bl true) G)(h:aiv K U H Q E):spF nm W K 1 i U H Q E:=by obtain⟨a,Z,rfl,o,R,hl,k⟩:=h;obtain⟨G,e⟩:=run Z hl;refine⟨⟨[],[]⟩,[],_,_,G,⟨rfl,List.nodup_nil,by simp,λn o a h=>by simp at h⟩,.cons (.fz (avs o R) (mz.ints Z)) .nil,rfl,e,λqq H' v le S' r=>?_⟩;cases r;exact k H'
def walk{l:PySem.W.OpenLaw}{K:Params->Fg}(hn:l.most=some 63)(G:d.params.defaults=[])(hY:∀(w:World) (h:Heap),YP w h->(K w.params).In h)(F:∀(w:World) (mg:Zs) (U:Addr) (h:Heap),(K w.params).In h->h.Ns mainGlobals mg->mg d.name=some (.ref U) ->
 ∃R:FuncData,(∀(s:Shared) (u:Value),BindsTo s R ⟨[u],[]⟩ [("script",u)])/\∀Z:Heap,(K w.params).In Z->Z.Ns mainGlobals mg->Dp l.prog w (K w.params) mg Z CX0 170 U R ["script"] (aiv (K w.params))) :
 PySem.W.WalkO q loose XP YP l.row.toRowW d [] (λf vs=>PySem.call f vs) :=
 L2.atm (n:=63) (k:=170) (x := "script") (CX:=λ_=>CX0) (sp:=λw=>aiv (K w.params)) hn (by decide) G ⟨rfl,by decide,by decide⟩ hY F (λ_ _ a ns hl ho hS=>⟨a,ns,rfl,ho,hS,hl,λ_=>rfl⟩) λ_ _ _ _ _ z=>z
end Ck
namespace K71
open PySem L2
noncomputable def top(i:Nat):Stmt:=PySem.Challenge.pw_mapwright_k71_sayings_refused.main.body.getD i (.Pass ⟨0,0,0,0⟩)
def sts:List Stmt:=[top 44,top 45,top 46,top 11,top 12,top 13,top 14,top 15,top 16,top 17,top 18,top 19,top 20,top 21,top 22,inClass (top 24) 0,inClass (top 24) 1,inClass (top 24) 2,inClass (top 24) 3,inClass (top 24) 4,top 25,top 26,top 27,top 34,top 35,top 36,top 37,top 38,top 39,top 40,top 41,top 42,top 47,top 48,top 49,top 50,top 51,top 52,top 53,top 54,top 55,top 56]
noncomputable def Ds:List Ck.Def:=[⟨"_law_cell_at", "_law_cell_at",["script", "k"],["script", "k"]⟩,⟨"_law_state", "_law_state",["script", "k", "cell"],["script", "k"]⟩,⟨"_law_take", "_law_take",["state", "many", "found", "mixed"],["state", "many"]⟩,⟨"check_saying", "check_saying",["saying", "ends"],["saying"]⟩,⟨"check_ends", "check_ends",["ends", "start", "goal"],["ends"]⟩,⟨"comes_back", "comes_back",["ends", "left", "many", "goals"],["ends"]⟩,⟨"check_given", "check_given",["ends", "given", "told"],["ends", "given"]⟩,⟨"can_be_given", "can_be_given",["ends", "told"],["ends", "told"]⟩,⟨"is_arrow", "is_arrow",["ends", "number"],["ends", "number"]⟩,⟨"is_way", "is_way",["ends", "way"],["ends", "way"]⟩,⟨"way_start", "way_start",["ends", "way"],["ends", "way"]⟩,⟨"way_goal", "way_goal",["ends", "way"],["ends", "way"]⟩,⟨"are_beside", "are_beside",["ends", "one", "other"],["ends", "one", "other"]⟩,⟨"all_ways", "all_ways",["ends", "told", "fresh", "longer", "way", "goal"],["ends"]⟩,⟨"apart_arrows", "apart_arrows",["given"],["given"]⟩,⟨"__init__", "Ties.__init__",["self"],["self"]⟩,⟨"mark", "Ties.mark",["self", "way"],["self", "way"]⟩,⟨"are_tied", "Ties.are_tied",["self", "one", "other"],["self", "one", "other"]⟩,⟨"take", "Ties.take",["self", "step", "kept", "gone", "way"],["self", "step"]⟩,⟨"offer", "Ties.offer",["self", "one", "other", "why"],["self", "one", "other", "why"]⟩,⟨"all_ties", "all_ties",["saying", "ties", "place", "told", "many"],["saying"]⟩,⟨"put_around", "put_around",["ties", "ends", "one", "other", "why", "arrow", "some"],["ties", "ends"]⟩,⟨"take_off", "take_off",["ties", "ends", "arrows", "arrow", "firsts", "way", "first"],["ties", "ends", "arrows"]⟩,⟨"judged", "judged",["saying", "ties"],["saying"]⟩,⟨"breaking_sets", "breaking_sets",["ends", "ties", "start", "rows", "way", "row", "maps", "arrow", "some", "goals"],["ends", "ties", "start"]⟩,⟨"set_count", "set_count",["ends"],["ends"]⟩,⟨"follows", "follows",["saying", "steps", "ties", "step"],["saying", "steps"]⟩,⟨"breaks", "breaks",["saying", "sizes", "maps", "things"],["saying", "sizes", "maps"]⟩,⟨"are_sets", "are_sets",["ends", "sizes", "maps", "row", "some"],["ends", "sizes", "maps"]⟩,⟨"is_so", "is_so",["ends", "sizes", "maps", "told", "row"],["ends", "sizes", "maps", "told"]⟩,⟨"same_for", "same_for",["maps", "things", "one", "other"],["maps", "things", "one", "other"]⟩,⟨"led_along", "led_along",["maps", "way", "thing", "here", "arrow"],["maps", "way", "thing"]⟩,⟨"_law_all_ways", "_law_all_ways",["ends", "found", "at", "last"],["ends"]⟩,⟨"_law_alike_ends", "_law_alike_ends",["ends", "rows", "way", "pairs", "row", "one"],["ends"]⟩,⟨"_law_saying", "_law_saying",["state", "ends", "k", "one", "known", "pairs", "given", "turn", "unlike"],["state"]⟩,⟨"_law_ends_of", "_law_ends_of",["ends", "way", "k"],["ends", "way"]⟩,⟨"_law_refused", "_law_refused",["way", "saying", "e", "kinds"],["way", "saying"]⟩,⟨"_law_bad_way", "_law_bad_way",["state", "ends", "far", "some", "apart", "one"],["state", "ends"]⟩,⟨"_law_unlike", "_law_unlike",["state", "ends", "ways", "one", "some", "pair"],["state", "ends"]⟩,⟨"_law_spoilt", "_law_spoilt",["state", "saying", "ends", "given", "aim", "way", "far", "arrow", "bad"],["state", "saying"]⟩,⟨"_law_layers", "_law_layers",["counts", "ends", "k"],["counts"]⟩,⟨"law", "law",["script", "state", "turn", "saying", "spoilt", "way", "aim", "many", "few", "told"],["script"]⟩]
noncomputable def tab:Ck.Tab:=⟨[(some ("_law_cell_at",2):Y2),(some ("_law_state",2):Y2),(some ("_law_take",2):Y2),(some ("check_saying",1):Y2),(some ("check_ends",1):Y2),(some ("comes_back",1):Y2),(some ("check_given",2):Y2),(some ("can_be_given",2):Y2),(some ("is_arrow",2):Y2),(some ("is_way",2):Y2),(some ("way_start",2):Y2),(some ("way_goal",2):Y2),(some ("are_beside",3):Y2),(some ("all_ways",1):Y2),(some ("apart_arrows",1):Y2),none,none,none,none,none,(some ("all_ties",1):Y2),(some ("put_around",2):Y2),(some ("take_off",3):Y2),(some ("judged",1):Y2),(some ("breaking_sets",3):Y2),(some ("set_count",1):Y2),(some ("follows",2):Y2),(some ("breaks",3):Y2),(some ("are_sets",3):Y2),(some ("is_so",4):Y2),(some ("same_for",4):Y2),(some ("led_along",3):Y2),(some ("_law_all_ways",1):Y2),(some ("_law_alike_ends",1):Y2),(some ("_law_saying",1):Y2),(some ("_law_ends_of",2):Y2),(some ("_law_refused",2):Y2),(some ("_law_bad_way",2):Y2),(some ("_law_unlike",2):Y2),(some ("_law_spoilt",2):Y2),(some ("_law_layers",1):Y2),(some ("law",1):Y2)],[none,none,none,none,none,some ("Ties",0)],[("mark",1),("are_tied",2),("take",1),("offer",3)],["marks", "steps"],[("MOST_ARROWS",10),("LAST_SET",7),("MOST_GIVEN",8),("MOST_WAYS",60)],[("NoPattern",false),("NoMap",false),("TooMany",true),("NoSaying",true)], "MapError"⟩
noncomputable def mcs:List (Nat×Nat):=[(5,16),(5,17),(5,18),(5,19)]
def chk:Ck.avq tab prog.fns Ds sts=true:=by decide+kernel
def bfa:Ck.ap9 tab.Oo=true:=by decide+kernel
def bfb:Ck.tfB prog.fns tab.fns=true:=by decide+kernel
def bfc:Ck.tcB prog tab.cls=true:=by decide+kernel
def bfd:Ck.tmB prog tab mcs=true:=by decide+kernel
open PySem.W
set_option maxHeartbeats 0 in
def all_mk{l:OpenLaw}{K:Frag}{h:Heap}(X:K.In h)(G:h.Ns mainGlobals mg)(hfa:mg "law" = some (.ref fa))
 (x2:nsIn K mainGlobals "Ties" = some (some (.ref C5)))
 (a0:nsIn K mainGlobals "_law_cell_at" = some (some (.ref f0)))
 (l0:Ck.Lk K f0 "_law_cell_at" "_law_cell_at" (top 44) oc0 od0 kV0 dc0 pm0 an0 cd0 ct0 sl0)
 (a1:nsIn K mainGlobals "_law_state" = some (some (.ref f1)))
 (l1:Ck.Lk K f1 "_law_state" "_law_state" (top 45) oc1 od1 kV1 dc1 pm1 an1 cd1 ct1 sl1)
 (a2:nsIn K mainGlobals "_law_take" = some (some (.ref f2)))
 (l2:Ck.Lk K f2 "_law_take" "_law_take" (top 46) oc2 od2 kV2 dc2 pm2 an2 cd2 ct2 sl2)
 (a3:nsIn K mainGlobals "check_saying" = some (some (.ref f3)))
 (l3:Ck.Lk K f3 "check_saying" "check_saying" (top 11) oc3 od3 kV3 dc3 pm3 an3 cd3 ct3 sl3)
 (a4:nsIn K mainGlobals "check_ends" = some (some (.ref f4)))
 (l4:Ck.Lk K f4 "check_ends" "check_ends" (top 12) oc4 od4 kV4 dc4 pm4 an4 cd4 ct4 sl4)
 (a5:nsIn K mainGlobals "comes_back" = some (some (.ref f5)))
 (l5:Ck.Lk K f5 "comes_back" "comes_back" (top 13) oc5 od5 kV5 dc5 pm5 an5 cd5 ct5 sl5)
 (a6:nsIn K mainGlobals "check_given" = some (some (.ref f6)))
 (l6:Ck.Lk K f6 "check_given" "check_given" (top 14) oc6 od6 kV6 dc6 pm6 an6 cd6 ct6 sl6)
 (a7:nsIn K mainGlobals "can_be_given" = some (some (.ref f7)))
 (l7:Ck.Lk K f7 "can_be_given" "can_be_given" (top 15) oc7 od7 kV7 dc7 pm7 an7 cd7 ct7 sl7)
 (a8:nsIn K mainGlobals "is_arrow" = some (some (.ref f8)))
 (l8:Ck.Lk K f8 "is_arrow" "is_arrow" (top 16) oc8 od8 kV8 dc8 pm8 an8 cd8 ct8 sl8)
 (a9:nsIn K mainGlobals "is_way" = some (some (.ref f9)))
 (l9:Ck.Lk K f9 "is_way" "is_way" (top 17) oc9 od9 kV9 dc9 pm9 an9 cd9 ct9 sl9)
 (yv:nsIn K mainGlobals "way_start" = some (some (.ref f10)))
 (l10:Ck.Lk K f10 "way_start" "way_start" (top 18) blr bls blu blv blw blx bly blz bl0)
 (y6:nsIn K mainGlobals "way_goal" = some (some (.ref f11)))
 (l11:Ck.Lk K f11 "way_goal" "way_goal" (top 19) bl4 bl5 bl6 bl7 bl8 bl9 bma bmb bmc)
 (a12:nsIn K mainGlobals "are_beside" = some (some (.ref f12)))
 (l12:Ck.Lk K f12 "are_beside" "are_beside" (top 20) bme bmf bmg bmh bmi bmj bmk bml bmm)
 (a13:nsIn K mainGlobals "all_ways" = some (some (.ref f13)))
 (l13:Ck.Lk K f13 "all_ways" "all_ways" (top 21) bmo bmp bmq bmr bms bmt bmu bmv bmw)
 (uj:nsIn K mainGlobals "apart_arrows" = some (some (.ref f14)))
 (l14:Ck.Lk K f14 "apart_arrows" "apart_arrows" (top 22) bmy bmz bm0 bm1 bm2 bm3 bm4 bm5 bm6)
 (yk:findIn K (.ref C5) "__init__" = some (some (.ref f15)))
 (i15:isFn K (.ref f15)=true)
 (uk:Ck.Lk K f15 "__init__" "Ties.__init__" (inClass (top 24) 0) bm9 bna bnb bnc bnf bng bnh bni bnj)
 (a16:findIn K (.ref C5) "mark" = some (some (.ref f16)))
 (y7:isFn K (.ref f16)=true)
 (q1:Ck.Lk K f16 "mark" "Ties.mark" (inClass (top 24) 1) bnl bnm bnn bno bnp bnq bnr bns bnt)
 (a17:findIn K (.ref C5) "are_tied" = some (some (.ref f17)))
 (i17:isFn K (.ref f17)=true)
 (q6:Ck.Lk K f17 "are_tied" "Ties.are_tied" (inClass (top 24) 2) bnv bnw bnx bny bnz bn0 bn1 bn2 bn3)
 (a18:findIn K (.ref C5) "take" = some (some (.ref f18)))
 (i18:isFn K (.ref f18)=true)
 (qk:Ck.Lk K f18 "take" "Ties.take" (inClass (top 24) 3) bn5 bn6 bn7 bn8 bn9 boa bob boc bod)
 (a19:findIn K (.ref C5) "offer" = some (some (.ref f19)))
 (u4:isFn K (.ref f19)=true)
 (q7:Ck.Lk K f19 "offer" "Ties.offer" (inClass (top 24) 4) bof bog boh boi boj bon boo bop boq)
 (a20:nsIn K mainGlobals "all_ties" = some (some (.ref f20)))
 (l20:Ck.Lk K f20 "all_ties" "all_ties" (top 25) bou bov bow boy boz bo0 bo1 bo2 bo3)
 (x4:nsIn K mainGlobals "put_around" = some (some (.ref f21)))
 (l21:Ck.Lk K f21 "put_around" "put_around" (top 26) bo5 bo6 bo7 bo8 bo9 bpa bpb bpc bpd)
 (a22:nsIn K mainGlobals "take_off" = some (some (.ref f22)))
 (l22:Ck.Lk K f22 "take_off" "take_off" (top 27) bpf bpg bph bpi bpj bpk bpl bpm bpn)
 (a23:nsIn K mainGlobals "judged" = some (some (.ref f23)))
 (l23:Ck.Lk K f23 "judged" "judged" (top 34) bpp bpq bpr bps bpt bpu bpv bpw bpx)
 (a24:nsIn K mainGlobals "breaking_sets" = some (some (.ref f24)))
 (l24:Ck.Lk K f24 "breaking_sets" "breaking_sets" (top 35) bpz bp0 bp1 bp2 bp3 bp4 bp5 bp6 bp7)
 (y9:nsIn K mainGlobals "set_count" = some (some (.ref f25)))
 (u2:Ck.Lk K f25 "set_count" "set_count" (top 36) bp9 bqa bqb bqc bqd bqe bqf bqg bqh)
 (a26:nsIn K mainGlobals "follows" = some (some (.ref f26)))
 (l26:Ck.Lk K f26 "follows" "follows" (top 37) bqj bqk bql bqm bqn bqo bqp bqq bqr)
 (a27:nsIn K mainGlobals "breaks" = some (some (.ref f27)))
 (l27:Ck.Lk K f27 "breaks" "breaks" (top 38) bqt bqu bqv bqw bqx bqy bqz bq0 bq1)
 (x8:nsIn K mainGlobals "are_sets" = some (some (.ref f28)))
 (l28:Ck.Lk K f28 "are_sets" "are_sets" (top 39) bq3 bq4 bq5 bq6 bq7 bq8 bq9 bra brb)
 (a29:nsIn K mainGlobals "is_so" = some (some (.ref f29)))
 (x7:Ck.Lk K f29 "is_so" "is_so" (top 40) brd bre brf brg brh bri brj brl brm)
 (a30:nsIn K mainGlobals "same_for" = some (some (.ref f30)))
 (x9:Ck.Lk K f30 "same_for" "same_for" (top 41) bro brp brq brr brs brt bru brv brw)
 (a31:nsIn K mainGlobals "led_along" = some (some (.ref f31)))
 (l31:Ck.Lk K f31 "led_along" "led_along" (top 42) bry brz br0 br1 br2 br3 br4 br5 br6)
 (u7:nsIn K mainGlobals "_law_all_ways" = some (some (.ref f32)))
 (l32:Ck.Lk K f32 "_law_all_ways" "_law_all_ways" (top 47) br8 br9 bsa bsb bsc bsd bse bsf bsg)
 (y4:nsIn K mainGlobals "_law_alike_ends" = some (some (.ref f33)))
 (l33:Ck.Lk K f33 "_law_alike_ends" "_law_alike_ends" (top 48) bsi bsj bsk bsl bsm bsn bso bsp bsq)
 (a34:nsIn K mainGlobals "_law_saying" = some (some (.ref f34)))
 (l34:Ck.Lk K f34 "_law_saying" "_law_saying" (top 49) bss bst bsu bsv bsw bsx bsy bs2 bs4)
 (a35:nsIn K mainGlobals "_law_ends_of" = some (some (.ref f35)))
 (j1:Ck.Lk K f35 "_law_ends_of" "_law_ends_of" (top 50) bs6 bs7 bs8 bs9 bta btb btc btd bte)
 (a36:nsIn K mainGlobals "_law_refused" = some (some (.ref f36)))
 (xv:Ck.Lk K f36 "_law_refused" "_law_refused" (top 51) btg bth bti btj btk btl btm btn bto)
 (a37:nsIn K mainGlobals "_law_bad_way" = some (some (.ref f37)))
 (l37:Ck.Lk K f37 "_law_bad_way" "_law_bad_way" (top 52) btq btr bts btt btu btv btw btx bty)
 (y8:nsIn K mainGlobals "_law_unlike" = some (some (.ref f38)))
 (l38:Ck.Lk K f38 "_law_unlike" "_law_unlike" (top 53) bt0 bt1 bt2 bt3 bt4 bt5 bt6 bt7 bt8)
 (j2:nsIn K mainGlobals "_law_spoilt" = some (some (.ref f39)))
 (l39:Ck.Lk K f39 "_law_spoilt" "_law_spoilt" (top 54) bua bub buc bud bue buh bui buj buk)
 (a40:nsIn K mainGlobals "_law_layers" = some (some (.ref f40)))
 (l40:Ck.Lk K f40 "_law_layers" "_law_layers" (top 55) bum bun buo bup buq bur bus buu buv)
 (zz:nsIn K mainGlobals "law" = some (some (.ref f41)))
 (l41:Ck.Lk K f41 "law" "law" (top 56) buy buz bfe bff bfg bfh bfi bfj bu0)
 (xw:plainGet K C5 Str.empty=true)
 (hd5:hasDictIn K C5=true)
 (po5:plainOver K C5=true)
 (sa5:findIn K (.ref C5) "__setattr__" = some (some (.builtin "object.__setattr__")))
 (u3:makesIn K C5=true)
 (kc5:keepIn K (.ref C5)=true)
 (bfk:findIn K (.ref C5) "marks" = some none)
 (y0:findIn K (.ref C5) "steps" = some none)
 (v0:nsIn K mainGlobals "MOST_ARROWS" = some (some (.int (10) tk0)))
 (v1:nsIn K mainGlobals "LAST_SET" = some (some (.int (7) tk1)))
 (v2:nsIn K mainGlobals "MOST_GIVEN" = some (some (.int (8) tk2)))
 (v3:nsIn K mainGlobals "MOST_WAYS" = some (some (.int (60) tk3)))
 (z0:nsIn K mainGlobals "len" = some none)
 (z1:nsIn K mainGlobals "tuple" = some none)
 (z2:nsIn K mainGlobals "list" = some none)
 (z3:nsIn K mainGlobals "max" = some none)
 (z4:nsIn K mainGlobals "min" = some none)
 (z5:nsIn K mainGlobals "isinstance" = some none)
 (z6:nsIn K mainGlobals "range" = some none)
 (z7:nsIn K mainGlobals "enumerate" = some none)
 (z8:nsIn K mainGlobals "set" = some none)
 (z9:nsIn K mainGlobals "zip" = some none)
 (x1:nsIn K mainGlobals "all" = some none)
 (xk:nsIn K mainGlobals "bool" = some none)
 (z12:nsIn K mainGlobals "int" = some none)
 (u1:nsIn K mainGlobals "ValueError" = some none)
 (xa0:nsIn K mainGlobals "MapError" = some (some (.ref Ea0)))
 (x3:nsIn K mainGlobals "NoPattern" = some (some (.ref Ea1)))
 (xa2:nsIn K mainGlobals "NoMap" = some (some (.ref Ea2)))
 (x5:nsIn K mainGlobals "TooMany" = some (some (.ref U)))
 (xa4:nsIn K mainGlobals "NoSaying" = some (some (.ref Z)))
 (qv:typeIn K (.ref Ea0)=some (.type "type"))
 (zk:clsIn K Ea0=some xq0)
 (q2:typeIn K (.ref Ea1)=some (.type "type"))
 (q5:clsIn K Ea1=some xq1)
 (q0:typeIn K (.ref Ea2)=some (.type "type"))
 (q4:clsIn K Ea2=some xq2)
 (xt3:typeIn K (.ref U)=some (.type "type"))
 (q3:clsIn K U=some xq3)
 (y1:typeIn K (.ref Z)=some (.type "type"))
 (qq:clsIn K Z=some xq4)
 (xm:subIn K (.ref Ea0) (.type "BaseException")=some true)
 (bfm:excIn K U [.type "ValueError",.type "Exception",.type "BaseException",.type "object"] "ValueError.__new__" = true)
 (x6:findIn K (.ref U) "__getattribute__" = some (some (.builtin "BaseException.__getattribute__")))
 (bfo:findIn K (.ref U) "__getattr__" = some none)
 (bfp:findIn K (.ref U) "__class__" = some (some (.builtin "object.__class__")))
 (bfq:subIn K (.ref U) (.type "BaseException")=some true)
 (bfr:subIn K (.ref U) (.type "object")=some true)
 (bfs:subIn K (.ref U) (.type "ValueError")=some true)
 (bft:subIn K (.ref U) (.ref Ea0)=some true)
 (a9k:subIn K (.ref U) (.ref Ea1)=some false)
 (a9l:(U==Ea1)=false)
 (jv:subIn K (.ref U) (.ref Ea2)=some false)
 (a9n:(U==Ea2)=false)
 (uu:subIn K (.ref U) (.ref Z)=some false)
 (a9p:(U==Z)=false)
 (zv:excIn K Z [.type "ValueError",.type "Exception",.type "BaseException",.type "object"] "ValueError.__new__" = true)
 (xy:findIn K (.ref Z) "__getattribute__" = some (some (.builtin "BaseException.__getattribute__")))
 (y3:findIn K (.ref Z) "__getattr__" = some none)
 (bfx:findIn K (.ref Z) "__class__" = some (some (.builtin "object.__class__")))
 (y5:subIn K (.ref Z) (.type "BaseException")=some true)
 (j3:subIn K (.ref Z) (.type "object")=some true)
 (bf0:subIn K (.ref Z) (.type "ValueError")=some true)
 (bf1:subIn K (.ref Z) (.ref Ea0)=some true)
 (y2:subIn K (.ref Z) (.ref Ea1)=some false)
 (a9r:(Z==Ea1)=false)
 (a9s:subIn K (.ref Z) (.ref Ea2)=some false)
 (yy:(Z==Ea2)=false)
 (a9u:subIn K (.ref Z) (.ref U)=some false)
 (zw:(Z==U)=false)
 : ∃fd:FuncData,(∀(s:Shared)(v:Value),BindsTo s fd ⟨[v],[]⟩ [("script",v)])/\∀R:Heap,K.In R->R.Ns mainGlobals mg->Dp l.prog w K mg R CX0 170 fa fd ["script"] (Ck.aiv K):=by
 have e:=(dg X G zz).symm.trans hfa;cases e;have aF:Ck.adl K Ds sts [f0,f1,f2,f3,f4,f5,f6,f7,f8,f9,f10,f11,f12,f13,f14,f15,f16,f17,f18,f19,f20,f21,f22,f23,f24,f25,f26,f27,f28,f29,f30,f31,f32,f33,f34,f35,f36,f37,f38,f39,f40,fa] [_,_,_,_,_,_,_,_,_,_,_,_,_,_,_,_,_,_,_,_,_,_,_,_,_,_,_,_,_,_,_,_,_,_,_,_,_,_,_,_,_,_]:=(Ck.fE l0 (Ck.fE l1 (Ck.fE l2 (Ck.fE l3 (Ck.fE l4 (Ck.fE l5 (Ck.fE l6 (Ck.fE l7 (Ck.fE l8 (Ck.fE l9 (Ck.fE l10 (Ck.fE l11 (Ck.fE l12 (Ck.fE l13 (Ck.fE l14 (Ck.fE uk (Ck.fE q1 (Ck.fE q6 (Ck.fE qk (Ck.fE q7 (Ck.fE l20 (Ck.fE l21 (Ck.fE l22 (Ck.fE l23 (Ck.fE l24 (Ck.fE u2 (Ck.fE l26 (Ck.fE l27 (Ck.fE l28 (Ck.fE x7 (Ck.fE x9 (Ck.fE l31 (Ck.fE l32 (Ck.fE l33 (Ck.fE l34 (Ck.fE j1 (Ck.fE xv (Ck.fE l37 (Ck.fE l38 (Ck.fE l39 (Ck.fE l40 (Ck.fE l41 Ck.fN))))))))))))))))))))))))))))))))))))))))));have aG:Ck.Xg mg tab.fns [f0,f1,f2,f3,f4,f5,f6,f7,f8,f9,f10,f11,f12,f13,f14,f15,f16,f17,f18,f19,f20,f21,f22,f23,f24,f25,f26,f27,f28,f29,f30,f31,f32,f33,f34,f35,f36,f37,f38,f39,f40,fa]:=(Ck.gS (dg X G a0) (Ck.gS (dg X G a1) (Ck.gS (dg X G a2) (Ck.gS (dg X G a3) (Ck.gS (dg X G a4) (Ck.gS (dg X G a5) (Ck.gS (dg X G a6) (Ck.gS (dg X G a7) (Ck.gS (dg X G a8) (Ck.gS (dg X G a9) (Ck.gS (dg X G yv) (Ck.gS (dg X G y6) (Ck.gS (dg X G a12) (Ck.gS (dg X G a13) (Ck.gS (dg X G uj) (Ck.gO (Ck.gO (Ck.gO (Ck.gO (Ck.gO (Ck.gS (dg X G a20) (Ck.gS (dg X G x4) (Ck.gS (dg X G a22) (Ck.gS (dg X G a23) (Ck.gS (dg X G a24) (Ck.gS (dg X G y9) (Ck.gS (dg X G a26) (Ck.gS (dg X G a27) (Ck.gS (dg X G x8) (Ck.gS (dg X G a29) (Ck.gS (dg X G a30) (Ck.gS (dg X G a31) (Ck.gS (dg X G u7) (Ck.gS (dg X G y4) (Ck.gS (dg X G a34) (Ck.gS (dg X G a35) (Ck.gS (dg X G a36) (Ck.gS (dg X G a37) (Ck.gS (dg X G y8) (Ck.gS (dg X G j2) (Ck.gS (dg X G a40) (Ck.gS (dg X G zz) Ck.gN))))))))))))))))))))))))))))))))))))))))));have aC:Ck.Pa K mg tab [f0,f1,f2,f3,f4,f5,f6,f7,f8,f9,f10,f11,f12,f13,f14,f15,f16,f17,f18,f19,f20,f21,f22,f23,f24,f25,f26,f27,f28,f29,f30,f31,f32,f33,f34,f35,f36,f37,f38,f39,f40,fa] tab.cls [none,none,none,none,none,some C5] prog.cls:=(Ck.cO (Ck.cO (Ck.cO (Ck.cO (Ck.cO (Ck.cS ⟨dg X G x2,⟨xw,hd5,po5,sa5⟩,⟨_,rfl,⟨u3,yk,i15,kc5⟩⟩,(Ck.mC rfl rfl ⟨a16,y7,q1.2.2⟩ (Ck.mC rfl rfl ⟨a17,i17,q6.2.2⟩ (Ck.mC rfl rfl ⟨a18,i18,qk.2.2⟩ (Ck.mC rfl rfl ⟨a19,u4,q7.2.2⟩ Ck.mN)))),(Ck.nC bfk (Ck.nC y0 Ck.nN))⟩ Ck.cN))))));have aV:Ck.aqg mg tab.au2:=(Ck.vC (dg X G v0) (Ck.vC (dg X G v1) (Ck.vC (dg X G v2) (Ck.vC (dg X G v3) Ck.vN))));have aB:Ck.AllB mg Ck.Ni:=(Ck.bC (jw X G z0) (Ck.bC (jw X G z1) (Ck.bC (jw X G z2) (Ck.bC (jw X G z3) (Ck.bC (jw X G z4) (Ck.bC (jw X G z5) (Ck.bC (jw X G z6) (Ck.bC (jw X G z7) (Ck.bC (jw X G z8) (Ck.bC (jw X G z9) (Ck.bC (jw X G x1) (Ck.bC (jw X G xk) (Ck.bC (jw X G z12) (Ck.bC (jw X G u1) Ck.bN))))))))))))));have aE:Ck.aqf K Ea0 [(3,U),(4,Z)]:=(Ck.eC bfm x6 bfo bfp bfq bfr q3 bfs bft xm qv zk (Ck.eC zv xy y3 bfx y5 j3 qq bf0 bf1 xm qv zk Ck.eN));have aX:Ck.adm K mg [(3,U),(4,Z)] tab.xcs [Ea1,Ea2,U,Z] 0:=(Ck.xC (dg X G x3) (λz=>(dw z).elim) (Ck.kC (Ck.N7 q5 q2 a9k a9l) (Ck.kC (Ck.N7 q5 q2 y2 a9r) Ck.kN)) (Ck.xC (dg X G xa2) (λz=>(dw z).elim) (Ck.kC (Ck.N7 q4 q0 jv a9n) (Ck.kC (Ck.N7 q4 q0 a9s yy) Ck.kN)) (Ck.xC (dg X G x5) (λ_=>rfl) (Ck.kC (Ck.W8 rfl) (Ck.kC (Ck.N7 q3 xt3 a9u zw) Ck.kN)) (Ck.xC (dg X G xa4) (λ_=>rfl) (Ck.kC (Ck.N7 qq y1 uu a9p) (Ck.kC (Ck.W8 rfl) Ck.kN)) Ck.xN))));refine⟨fnOf "law" "law" (Iu (top 56)) (Gp (top 56)) (yx (top 56)) .none bfe bff bfg bfh bfi bfj,λs v=>.of_eq rfl,λR _ _=>?_⟩;obtain⟨d,a,f,g1,g2,g3,g4,g5⟩:=Ck.aem (P:=l.prog) (w:=w) (base:=R) (n:=10) (i:=41) (F:=als) bfa chk bfb bfc bfd aF aG aC aV aB aX aE (dg X G xa0) rfl;cases g1;cases g2;cases g3;exact g5.imp λvs H Q E hh=>Ck.avt (λns hl=>ayy (m:=10) (by decide)) hh
end K71
open PySem PySem.W PyProof.Rows
namespace PySem.W.Fast
def tw3883370595696956365:=Nat
def tw15102902798838317202:=Nat
def tw12227431828796635858:=Nat
def tw15756490356485101335:=Nat
def tw1672585412936218743:=Nat
def tw3058161702427976041:=Nat
def tw18158585969474464945:=Nat
def tw4536190416388403016:=Nat
def tw11463442600078929262:=Nat
def tw6952720730389174231:=Nat
def tw16027094915610629312:=Nat
def tw2731246050247576779:=Nat
def tw10926780117554213287:=Nat
def tw5906176346998707319:=Nat
def tw2296233314563713033:=Nat
def tw10124954308522808124:=Nat
def tw12840295018635913615:=Nat
def tw9732544675168643846:=Nat
def tw9866407834676267132:=Nat
def tw17454572654540035408:=Nat
def tw14651061955026945302:=Nat
def tw7822454840635646817:=Nat
def tw2510268934004011014:=Nat
def tw371648246394064150:=Nat
def tw3873600623705048448:=Nat
def tw4802723431076745092:=Nat
def tw15985302514133835424:=Nat
def tw3310595732927928667:=Nat
def tw460533982937716057:=Nat
def tw407173890297410592:=Nat
def tw13007440003551133063:=Nat
def tw4862950716591930554:=Nat
def tw6733681835116039722:=Nat
def tw16596425448408061287:=Nat
def tw12424593856385404401:=Nat
def tw10564411552169747954:=Nat
def tw3581418320569356592:=Nat
def tw4941194512116999736:=Nat
def tw12475885995433049846:=Nat
def tw532981035040923698:=Nat
def tw11422383133134449312:=Nat
def tw15949842630192273825:=Nat
def tw3286152856500184276:=Nat
def tw12773189257305873865:=Nat
def tw8279518272265118226:=Nat
def tw11208688626464802843:=Nat
def tw14424643474586998874:=Nat
def tw3585245859902522533:=Nat
def tw6062760536972397251:=Nat
def tw8715557175035509086:=Nat
def tw13653747895205964230:=Nat
def tw13022870627847135937:=Nat
def tw2343628564089428028:=Nat
def tw10789990632326184222:=Nat
def tw3843523368554549511:=Nat
def tw3610753893486043772:=Nat
def tw9473091015417858282:=Nat
def tw16675617305215859376:=Nat
def tw10932269717643655611:=Nat
def tw11697323389471171872:=Nat
def tw17977804849971434407:=Nat
def tw440125235213150082:=Nat
def tw664073844763758883:=Nat
def tw1072123516962529887:=Nat
def tw1188125805047697517:=Nat
def tw15976562662818648254:=Nat
def tw12769286027370759055:=Nat
def tw3048419066730854439:=Nat
def tw4358769248360337618:=Nat
def tw4087037044792800700:=Nat
def tw13197031249577349191:=Nat
def tw15593186438523018465:=Nat
def tw4903273453785273663:=Nat
def tw13601276258625902714:=Nat
def tw3593974068686354907:=Nat
def tw7018669276096689431:=Nat
def tw10568250108785262524:=Nat
def tw3556093539145302307:=Nat
def tw16294939488466238745:=Nat
def tw2882575673852039002:=Nat
def tw16458172742722162044:=Nat
def tw431015246443285845:=Nat
def tw2602004976963111739:=Nat
def tw13851204560466421931:=Nat
def tw157538547459384711:=Nat
def tw14487091631626856763:=Nat
def tw293101321163637247:=Nat
def tw7733756935518205765:=Nat
def tw7804085794787547505:=Nat
def tw3663148420839530925:=Nat
def tw15192503063126521740:=Nat
def tw1806681257378935649:=Nat
def tw13603462086856624974:=Nat
def tw1181105100185472666:=Nat
def tw9173969627478997473:=Nat
def tw10146028300636727207:=Nat
def tw17715439243971109231:=Nat
def tw4590539241009026930:=Nat
def tw4663624291807234773:=Nat
def tw1209475869997325494:=Nat
def tw13502722792154588400:=Nat
def tw2611746040656592654:=Nat
def tw10824349769333122116:=Nat
def tw11047461657298626992:=Nat
def tw1289266344889911163:=Nat
def tw8500972790185012252:=Nat
def tw8980167944486500436:=Nat
def tw15963021800006404815:=Nat
def tw12584204323761797149:=Nat
def tw16969596607423363461:=Nat
def tw17566957865316701382:=Nat
def tw8784514029740049582:=Nat
def tw16542245038484060746:=Nat
def tw5961652492265454534:=Nat
def tw10697865906999050914:=Nat
def tw79968257252390744:=Nat
def tw2064700555398571837:=Nat
def tw13467785186735678121:=Nat
def tw17880939781071271263:=Nat
def tw879087078204676091:=Nat
def tw12016217501144145433:=Nat
def tw3049778906424329218:=Nat
def tw8093418536298396434:=Nat
def tw10425436174835984063:=Nat
def tw1425450697602330838:=Nat
def tw16718180148867131980:=Nat
def tw13783644592132098626:=Nat
def tw12507881237515354660:=Nat
def tw3376103850808649062:=Nat
def tw17296048016928581418:=Nat
def tw7777241063006313616:=Nat
def tw8193234154642085985:=Nat
def tw16376386180072572350:=Nat
def tw13025547864927335713:=Nat
def tw10717934520992953982:=Nat
def tw12795634428710346930:=Nat
def tw10590919307162802040:=Nat
def tw1512573240087686620:=Nat
def tw8293990893625105747:=Nat
def tw18159165139898882763:=Nat
def tw3129819557697439431:=Nat
def tw11616671995580779747:=Nat
def tw13395015205686274768:=Nat
def tw13119049903144142434:=Nat
def tw8496898685608137591:=Nat
def tw16991738558105119870:=Nat
def tw1453998002565863697:=Nat
def tw16637603265050846849:=Nat
def tw17009327565011628730:=Nat
def tw16827767409500860281:=Nat
def tw6579123370631397243:=Nat
def tw9024380240797853383:=Nat
def tw10829517854369657430:=Nat
def tw9817361166562530123:=Nat
def tw9316604784796019624:=Nat
def tw15265439138023790710:=Nat
def tw146227533470992134:=Nat
def tw1415277918365321730:=Nat
def tw13862117430008132980:=Nat
def tw13349094217901296824:=Nat
def tw10543610208801189835:=Nat
def tw14412626000121317874:=Nat
def tw5576616803791195132:=Nat
def tw15171108762273277903:=Nat
def tw2962078318015853703:=Nat
def tw8342505335802068366:=Nat
def tw5369766493353113019:=Nat
def tw6580531070463399635:=Nat
def tw17084821687761814067:=Nat
def tw17921046994871718149:=Nat
def tw8686725169940104294:=Nat
def tw11271179975055336064:=Nat
def tw2058722467555467005:=Nat
def tw6517896846622990296:=Nat
def tw18302402700942513006:=Nat
def tw6338247130247100874:=Nat
def tw4875213022267495447:=Nat
def tw709285851800298003:=Nat
def tw6004976718651663078:=Nat
def tw3597174508217045387:=Nat
def tw5019389690855081563:=Nat
def tw1634049240800444749:=Nat
def tw14335398713724398187:=Nat
def tw9095047702234027346:=Nat
def tw17088268898424792388:=Nat
def tw1283440929515940550:=Nat
def tw9672866591648644325:=Nat
def tw18140293208954444642:=Nat
def tw6275910891817686014:=Nat
def tw5413219608841514023:=Nat
def tw4212446412723965193:=Nat
def tw11117210532335004455:=Nat
def tw18421132711589003102:=Nat
def tw16674020335161636502:=Nat
def tw1304227688723133153:=Nat
def tw14052949122115666882:=Nat
def tw4312107744409812788:=Nat
def tw107771568865066877:=Nat
def tw6347988920339009721:=Nat
def tw10119731325558563693:=Nat
def tw956373780810452798:=Nat
def tw7158830855515670610:=Nat
def tw6168167878954554165:=Nat
def tw8083738473487232861:=Nat
def tw7593927925650280229:=Nat
def tw4690509676597629870:=Nat
def tw203297798660149189:=Nat
def tw12943448361227242740:=Nat
def tw777946490511884194:=Nat
def tw5258707993993169861:=Nat
def tw17554135254002216252:=Nat
def tw10468134128204996560:=Nat
def tw16618519360021283422:=Nat
def tw6657914708343843823:=Nat
def tw13234786640052989878:=Nat
def tw16605012012939528487:=Nat
def tw11116753490425798145:=Nat
def tw15526686595645398530:=Nat
def tw13185063632433246228:=Nat
def tw12919045780470439309:=Nat
def tw14616540539684870840:=Nat
def tw7239588022511015995:=Nat
def tw6876336583731919307:=Nat
def tw7099500383821552719:=Nat
def tw4828029049447224826:=Nat
def tw17938721479853812674:=Nat
def tw18117808430328458851:=Nat
def tw14335392910255542505:=Nat
def tw11222813691725191576:=Nat
def tw4084564054858145408:=Nat
def tw227875221835351033:=Nat
def tw17555397861049717674:=Nat
def tw16429996929309665767:=Nat
def tw11996786719689191183:=Nat
def tw16340961568721096415:=Nat
def tw4769483612560095614:=Nat
def tw2075064918010962297:=Nat
def tw10601120040875214177:=Nat
def tw2756938644357930014:=Nat
def tw2016625669575161810:=Nat
def tw11322582148361041412:=Nat
def tw12824300460457880704:=Nat
def tw9943154524702397797:=Nat
def tw9369738412587863545:=Nat
def tw2257266803815070108:=Nat
def tw14518584109784726256:=Nat
def tw2856463713212060392:=Nat
def tw4066175247466090130:=Nat
def tw5191421252933913672:=Nat
def tw7431691300380714485:=Nat
def tw7523192778354732724:=Nat
def tw7507309436619560166:=Nat
def tw3083283965319499924:=Nat
def tw16556422569950577990:=Nat
def tw14445522170826037495:=Nat
def tw13958767335021434092:=Nat
def tw1158452612777431580:=Nat
def tw9699255263573490936:=Nat
def tw7133074728558424082:=Nat
def tw666511265925247921:=Nat
def tw18003629735924653127:=Nat
def tw131950387167586404:=Nat
def tw10639789144176588358:=Nat
def tw7642727245495869578:=Nat
def tw8709528855612566415:=Nat
def tw7165590825946566121:=Nat
def tw3963838681111217350:=Nat
def tw2419986793737850097:=Nat
def tw9165977217595386348:=Nat
def tw5433880097001756078:=Nat
def tw374339750402191278:=Nat
def tw14277636790972074908:=Nat
def tw12442223629581921824:=Nat
def tw11915760092563019951:=Nat
def tw98804849820107111:=Nat
def tw983197556842377283:=Nat
def tw9511681452401528544:=Nat
def tw9181624418626921889:=Nat
def tw8954764378831539630:=Nat
def tw8732487427798672498:=Nat
def tw8072617804892184612:=Nat
def tw7698608097411570005:=Nat
def tw7479644427542951124:=Nat
def tw7182791274219558125:=Nat
def tw6538833508546602327:=Nat
def tw6344163038233254280:=Nat
def tw6203652111673018241:=Nat
def tw6070585933575035614:=Nat
def tw5855990118206894053:=Nat
def tw5632186866350359222:=Nat
def tw5500540409333165241:=Nat
def tw536880726378858529:=Nat
def tw5303293491948855448:=Nat
def tw5111488543733238339:=Nat
def tw5021160107556466865:=Nat
def tw4478786293560609628:=Nat
def tw4389006418518648801:=Nat
def tw4267327579450367951:=Nat
def tw4254009357349401959:=Nat
def tw4209810950753285301:=Nat
def tw3844823336067436399:=Nat
def tw3683667707166915643:=Nat
def tw3455860080734711768:=Nat
def tw3302600376212093427:=Nat
def tw2973791009403705291:=Nat
def tw2838257086001027551:=Nat
def tw2472987937465717333:=Nat
def tw247282309211333723:=Nat
def tw2004362874062192519:=Nat
def tw18254203468396896764:=Nat
def tw18217023282017589334:=Nat
def tw1791074183717871034:=Nat
def tw17569842408510875439:=Nat
def tw17543428548633479409:=Nat
def tw17497895272793612961:=Nat
def tw17397224594225822504:=Nat
def tw17387235360172115301:=Nat
def tw16690783808938356530:=Nat
def tw16542606541456472455:=Nat
def tw16529203575856721614:=Nat
def tw16515780610017623429:=Nat
def tw1649497581572565805:=Nat
def tw16201191019855115278:=Nat
def tw16079323871690984959:=Nat
def tw16036628635352070954:=Nat
def tw15999299907319836341:=Nat
def tw15933298717161086586:=Nat
def tw15881240462773675929:=Nat
def tw15430393784412533773:=Nat
def tw15391337633709483039:=Nat
def tw15166393361919342289:=Nat
def tw14949846786235083260:=Nat
def tw14840727735490895600:=Nat
def tw14661256273301952687:=Nat
def tw14567911580672174421:=Nat
end PySem.W.Fast
set_option maxRecDepth 100000 in
set_option maxHeartbeats 0 in
theorem PySem.Challenge.cw_mapwright_k71_sayings_refused_holds : PySem.Challenge.rw_mapwright_k71_sayings_refused.Holds := by
 w_on;o_law;k_head;(case hw=>w_witness2)
 k_fill
 refine Ck.walk (l:=PySem.Challenge.rw_mapwright_k71_sayings_refused) rfl rfl (λw h Y=>PySem.W.kIn_of Y) ?F
 case F =>
  intro w mg fa h KX G hmg;apply K71.all_mk KX G hmg<;>(try refine⟨?_,?_,?_⟩)<;>first|k_is|k_exc|rfl
