import PyProof.Rows.All
import Wide.All
import OpenK.AllK
import Wide.FinOn
import Lean
import PyProof.EqAt
import PyProof.EqKinds
import PyProof.TupleCall
import PyProof.Rows.ListMul
import PyProof.NeKinds
import PyProof.SetScanFacts
import PyProof.TupleKey
import PyProof.SetKind
import PyProof.IsRules
import PyProof.Rules
import PyProof.Rows.SetFrom
import PyProof.SetRoads
import KE.KDictOf
import PyProof.Rows.MinMaxN
import PyProof.ListRange
import PyProof.TupleOfGen
import PyProof.EnumMake
import PyProof.ZipIter
import PyProof.Rows.ZipGen
import PyProof.CollectWalk
import PyProof.ForAny
import PyProof.Rows.SortWalk
import PyProof.CollectIter
import PyProof.Rows.SortRuns
import KE.KSortTup
import KE.KDictSum
import PyProof.FactsAll.tuple_2
import PySem.Challenge.RW_mapwright_k33_sums
set_option Elab.async false
set_option linter.all false
set_option tactic.hygienic false
set_option genSizeOf false
set_option bootstrap.genMatcherCode false
set_option compiler.extract_closed false
set_option compiler.reuse false
set_option genInjectivity false
set_option maxRecDepth 100000
local macro_rules|`(tactic|refine_lift $e)=>`(tactic|refine $e)
abbrev Zl:=List PySem.Value
abbrev Zp:=List (PySem.Addr×PySem.Obj)
abbrev Zs:=PySem.Str->Option PySem.Value
abbrev Y1:=PySem.Value->PySem.Shared->Prop
abbrev Y2:=Option (PySem.Str×Nat)
abbrev Y3:=List Nat
abbrev Ya:=List PySem.Expr
abbrev Yf:=List PySem.Str
abbrev X0:=List (PySem.Str×PySem.NameKind)
abbrev X9:=List PySem.Addr
abbrev Xs:=List Int
abbrev Xt:=List (PySem.Str×PySem.Addr)
abbrev U1:=Array PySem.Value
def j0:=@Array.getElem?_eq_some_iff
def m7:=@Array.getElem?_toList
def u9:=@Array.length_toList
def Bl:=@Array.toList_push
def Bo:=@Array.toList_setIfInBounds
def az:=@Bool.and_eq_true
def zr:=@Bool.eq_iff_iff
def du:=@Bool.false_eq_true
def jo:=@Bool.false_ne_true
def Ag:=@Bool.not_false
def qz:=@Bool.not_true
def xg:=@Classical.byContradiction
def Ba:=@Int.emod_lt_of_pos
def Cj:=@Int.emod_nonneg
def z7:=@Int.ofNat_inj
def wg:=@Int.toNat_natCast
def Ah:=@List.Perm.refl
def jf:=@List.all_eq_true
def Am:=@List.any_eq_true
def wj:=@List.append_assoc
def Be:=@List.append_nil
def Cm:=@List.cons.injEq
def zc:=@List.cons_append
def zp:=@List.drop_eq_getElem_cons
def t7:=@List.ext_getElem?
def An:=@List.filter_cons
def ud:=@List.find?_cons
def xj:=@List.findIdx?_eq_none_iff
def q9:=@List.findIdx?_eq_some_iff_getElem
def cz:=@List.getD_eq_getElem?_getD
def gn:=@List.getElem?_append_left
def ji:=@List.getElem?_append_right
def bx:=@List.getElem?_eq_getElem
def pq:=@List.getElem?_eq_none
def ao:=@List.getElem?_eq_some_iff
def ig:=@List.getElem?_map
def wy:=@List.getElem?_range
def vy:=@List.getElem?_set_ne
def Ax:=@List.getElem?_set_self
def z8:=@List.getElem?_zipIdx
def my:=@List.getElem_mem
def p8:=@List.getElem_of_mem
def rm:=@List.isEmpty_iff
def jc:=@List.length_append
def iw:=@List.length_cons
def ue:=@List.length_eq_zero_iff
def qw:=@List.length_filter_le
def dm:=@List.length_map
def yh:=@List.length_range
def zj:=@List.length_replicate
def qu:=@List.lookup_cons
def iu:=@List.map_append
def yu:=@List.map_congr_left
def gq:=@List.map_cons
def Ar:=@List.map_map
def dw:=@List.mem_append
def qi:=@List.mem_append_left
def jn:=@List.mem_append_right
def dh:=@List.mem_cons
def bw:=@List.mem_cons_of_mem
def fc:=@List.mem_cons_self
def jg:=@List.mem_filter
def Ao:=@List.mem_flatMap
def vf:=@List.mem_iff_getElem?
def bf:=@List.mem_map
def bh:=@List.mem_of_getElem?
def jk:=@List.mem_range
def ie:=@List.mem_singleton
def yj:=@List.nil_append
def Aa:=@List.nodup_append
def uf:=@List.nodup_cons
def mz:=@List.nodup_iff_pairwise_ne
def Bs:=@List.nodup_nil
def vq:=@List.not_mem_nil
def Bf:=@List.of_mem_zip
def zg:=@List.pairwise_cons
def wk:=@List.pairwise_map
def qd:=@List.range_succ
def gm:=@List.size_toArray
def u0:=@List.sum_cons
def Bu:=@List.take_length
def Ay:=@List.take_of_length_le
def Ai:=@List.take_succ
def By:=@Nat.add_le_add_left
def Bg:=@Nat.le_add_left
def Bv:=@Nat.le_add_right
def yq:=@Nat.le_of_lt
def Ab:=@Nat.le_of_lt_succ
def bz:=@Nat.le_refl
def vd:=@Nat.le_succ
def gf:=@Nat.le_trans
def uc:=@Nat.lt_irrefl
def Cq:=@Nat.lt_of_le_of_lt
def iz:=@Nat.lt_of_lt_of_le
def Av:=@Nat.lt_or_ge
def wu:=@Nat.lt_succ_of_lt
def j4:=@Nat.lt_succ_self
def yr:=@Nat.ne_of_gt
def gh:=@Nat.ne_of_lt
def ug:=@Nat.not_lt_zero
def u5:=@Nat.zero_add
def jd:=@Nat.zero_le
def km:=@Ne.symm
def ik:=@Option.bind_eq_some_iff
def uw:=@Option.bind_some
def zf:=@Option.getD_some
def qp:=@Option.isSome_iff_exists
def dg:=@Option.map_eq_some_iff
def wz:=@Option.map_some
def lg:=@Option.some.inj
def Ad:=@Option.some.injEq
def uy:=@PyProof.Rows.F.entry_set_update_loop
def ou:=@PyProof.Rows.F.plain_set_update_loop
def xq:=@PyProof.Rows.callWith_builtin1
def jx:=@PyProof.Rows.callWith_type1
def ak:=@PyProof.Rows.wpS_bind
def ir:=@PyProof.Rows.wpS_forRange
def jy:=@PyProof.Rows.wpS_mono
def aq:=@PyProof.Rows.wpS_pure
def m5:=@PySem.Around.under_plainId
def mq:=@PySem.Calls.spliced_cons
def uh:=@PySem.Calls.spliced_nil
def vm:=@PySem.F.called_set
def yw:=@PySem.F.slot_enumerate_next
def v7:=@PySem.F.slot_tuple_iterator_next
def zb:=@PySem.F.slot_tuple_mul
def jw:=@PySem.Heap.SameBut.update
def au:=@PySem.Heap.get?_push_of_some
def cu:=@PySem.Heap.get?_push_size
def vh:=@PySem.Heap.get?_update_other
def o6:=@PySem.Heap.get?_update_self
def bu:=@PySem.Heap.lt_size
def j7:=@PySem.Heap.size_push
def um:=@PySem.W.kia_one
def p7:=@PySem.codeAny_builtin
def yc:=@PySem.codeAny_mono
def Aj:=@PySem.mem_of_lookup
def t8:=@PySem.sizeLine_eq
def yf:=@PySem.tupleKind_room_in1
def jm:=@PySem.wpAny_Call_Name_kw
def w5:=@PySem.wpAny_attempt
def aa:=@PySem.wpAny_bind
def m6:=@PySem.wpAny_callSpecial?_slot
def jt:=@PySem.wpAny_call_entry
def uo:=@PySem.wpAny_dictEntries
def ju:=@PySem.wpAny_field
def qj:=@PySem.wpAny_forIn_list
def jh:=@PySem.wpAny_holding
def o5:=@PySem.wpAny_isInstance
def xr:=@PySem.wpAny_ite_false
def j9:=@PySem.wpAny_mono
def uq:=@PySem.wpAny_newObj_type
def vg:=@PySem.wpAny_passesOwn
def aj:=@PySem.wpAny_pure
def o4:=@PySem.wpAny_rule
def ur:=@PySem.wpAny_seqItems
def nq:=@PySem.wpAny_setEntries_of
def jr:=@PySem.wpAny_setField_rec
def j8:=@PySem.wpAny_setState_of
def m8:=@PySem.wpAny_truthy_bool
def vo:=@PySem.wpAny_typeOf
def w6:=@beq_eq_false_iff_ne
def Aq:=@beq_self_eq_true
def ym:=@bne_self_eq_false
def qt:=@congrArg
def kj:=@decide_eq_false
def v8:=@decide_eq_true
def f9:=@decide_eq_true_eq
def jq:=@if_false
def cj:=@if_neg
def dj:=@if_pos
def lz:=@if_true
def kh:=@of_decide_eq_true
abbrev Fg:=PySem.W.Frag
noncomputable section
namespace Sr
open PySem PyProof.Rows
noncomputable def at8:Bool->Keyed->Array Keyed->Nat->Nat->Nat->StateT SortSt Sem (Option Nat):=sortPriv% PySem.Builtin.gallop
noncomputable def anc:Array Keyed->Array Keyed->StateT SortSt Sem (Array Keyed):=sortPriv% PySem.Builtin.mergeLo
noncomputable def ane:Array Keyed->Array Keyed->StateT SortSt Sem (Array Keyed):=sortPriv% PySem.Builtin.mergeHi
noncomputable abbrev setG(sx:SortSt)(g:Nat):SortSt:=SortSt.mk' (kindOf sx) (arrOf sx) (pendingOf sx) g (failedOf sx)
def Sg(T Y:SortSt):Prop:=∃g,Y=setG T g
def Sg.kd(h:Sg sx Z):kindOf Z=kindOf sx:=by obtain⟨g,rfl⟩:=h;rfl
def Sg.gal(h:Sg U Z):Sg U (setG Z g):=by obtain⟨g,rfl⟩:=h;exact⟨_,rfl⟩
def Al(p:Keyed->Prop)(a:Array Keyed):Prop:=∀x,x∈a.toList->p x
section
variable{p:Keyed->Prop}{a b:Array Keyed}
theorem Al.push(h:Al p a)(T:p x):Al p (a.push x):=λy Y=>by
 rw[Bl]at Y;rcases dw.mp Y with z|z
 .exact h y z
 .rw[ie.mp z];exact T
def Al.app(h:Al p a)(g:Al p b):Al p (a++b):=λy Y=>by rw[Array.toList_append]at Y;exact(dw.mp Y).elim (h y) (g y)
def Al.ext(h:Al p a)(i j:Nat):Al p (a.extract i j):=λy Y=>by rw[Array.toList_extract,List.extract_eq_take_drop]at Y;exact h y (List.mem_of_mem_drop (List.mem_of_mem_take Y))
def Al.rev(h:Al p a):Al p a.reverse:=λy Y=>by rw[Array.toList_reverse]at Y;exact h y (List.mem_reverse.mp Y)
def Al.at(h:Al p a)(Y:i<a.size):∃x,a[i]?=some x/\p x:=⟨a[i],Array.getElem?_eq_getElem Y,h _ (by simp)⟩
end
section
variable{prog:Program}{w:World}{A:Around}{E:Y1}{s:Shared}{sx:SortSt}{κ:SortKind}{p:Keyed->Prop}
def zx{M:Model}{Y G:Type}{c:Prop}[Decidable c]{J T:StateT Y Sem G}{Q:G->Y->Prop}{sx:Y}(O:c->wpS M A E s J Q sx)(B:¬c->wpS M A E s T Q sx):wpS M A E s (if c then J else T) Q sx:=by
 by_cases h:c
 .rw[dj h];exact O h
 .rw[cj h];exact B h
def Cz{M:Model}{Y G:Type}{x y:Nat}{J T:StateT Y Sem G}{Q:G->Y->Prop}{sx:Y}(O:x=y->wpS M A E s J Q sx)(B:x≠y->wpS M A E s T Q sx):wpS M A E s (if(x==y)=true then J else T) Q sx:=
 zx (λh=>O (beq_iff_eq.mp h)) (λh=>B λz=>h (beq_iff_eq.mpr z))
def ang{M:Model}{Y G T:Type}{c:Prop}[Decidable c]{F:T->StateT Y Sem G}{x y:T}{Q:G->Y->Prop}{sx:Y}(h:∀z,wpS M A E s (F z) Q sx):wpS M A E s (if c then F x else F y) Q sx:=zx (λ_=>h _) λ_=>h _
def aib{M:Model}{Y T J G:Type}{F:J->G->StateT Y Sem T}{m:StateT Y Sem T}{Q:T->Y->Prop}{sx:Y}(P:J->G->Prop)(B:∀x y,P x y->wpS M A E s (F x y) Q sx)(h:(∀x y,P x y->wpS M A E s (F x y) Q sx)->wpS M A E s m Q sx):wpS M A E s m Q sx:=h B
def Rk(prog:Program)(w:World)(A:Around)(s:Shared)(κ:SortKind)(p:Keyed->Prop):Prop:=
 ∀x y (E:Y1) (Q:Bool->Shared->Prop),p x->p y->(∀b,Q b s)->wpAny (model prog w) A (keyLt' κ x.1 y.1) Q E s
def adq{Q:Option Bool->SortSt->Prop}(K:Rk prog w A s κ p)(Y:kindOf sx=κ)(G:p x)(T:p y)(h:∀b,Q (some b) sx):wpS (model prog w) A E s (lt' x y) Q sx:=by rw[lt'_eq];refine ak (wpS_get ?_);rw[Y];exact ak (wpS_lift (w5 (K x y _ _ G T λb=>⟨rfl,aq (h b)⟩)))
def Ak{Q:Keyed->SortSt->Prop}(e:arr[i]?=some x)(h:Q x sx):wpS (model prog w) A E s (elem' arr i) Q sx:=by rw[elem'_eq,e];exact aq h
def gal{Q:Option Nat->SortSt->Prop}(K:Rk prog w A s κ p)(T:kindOf sx=κ)(J:p key)(P:∀i,i<n->∃x,arr[base+i]?=some x/\p x)(R:hint<n)(h:∀k,k<=n->Q (some k) sx) :
 wpS (model prog w) A E s (at8 left key arr base n hint) Q sx:=by
 have O:∀i (Q:Option Bool->SortSt->Prop),i<n->(∀b,Q (some b) sx)->wpS (model prog w) A E s (elem' arr (base+i)>>=λx=>if left=true then lt' x key else lt' key x>>=λo=>pure (o.map λb=>!b)) Q sx:=λi Q G q=>by
  obtain⟨x,e,L⟩:=P i G;refine ak (Ak e ?_);cases left with
  |true=>exact adq K T L J q|false=>exact ak (adq K T J L λb=>aq (q !b))
 have B:∀N G (Q:Option (Option Nat)×Nat×Nat->SortSt->Prop),G<=n->(∀l k,k<=n->Q (none,l,k) sx)->wpS (model prog w) A E s (forIn [:n] ((none,N,G):Option (Option Nat)×Nat×Nat) (λ_ q=>if q.2.1 >= q.2.2 then pure (.done (none,q.2.1,q.2.2))else do
  let x<-elem' arr (base+(q.2.1+(q.2.2-q.2.1)/2))>>=λx=>if left=true then lt' x key else lt' key x>>=λo=>pure (o.map λb=>!b)
  match x with
  |some m=>if m=true then pure (.yield (none,q.2.1+(q.2.2-q.2.1)/2+1,q.2.2))else pure (.yield (none,q.2.1,q.2.1+(q.2.2-q.2.1)/2))
  | _=>pure (.done (some none,q.2.1,q.2.2)))) Q sx:=λN G Q C h=>by
  refine ir (I:=λ_ (q:Option (Option Nat)×Nat×Nat) Y=>Y=sx/\∃l k,q=(none,l,k)/\k<=n) ?_ (λq Y ⟨e,l,k,e',T⟩=>by rw[e,e'];exact h l k T) ⟨rfl,N,G,rfl,C⟩;rintro t q Y _ _ ⟨rfl,l,k,rfl,C⟩;refine zx (λz=>aq (h l k C)) λz=>?_
  have z:¬l >= k:=z;refine ak (O _ _ (by show l+(k-l)/2<n;omega) λb=>?_);cases b with
  |true=>exact aq ⟨rfl,_,_,rfl,C⟩|false=>exact aq ⟨rfl,_,_,rfl,by show l+(k-l)/2<=n;omega⟩
 refine ak (O hint _ R λb=>?_);cases b with
 |true =>
  refine ak (jy (ir (Q:=λq Y=>Y=sx/\q.1=none) (I:=λ_ q Y=>Y=sx/\q.1=none) ?_ (λq Y h=>h) ⟨rfl,rfl⟩) ?_)
  .rintro t ⟨o,l,k⟩ Y _ _ ⟨rfl,_⟩
   refine zx (λz=>aq ⟨rfl,rfl⟩) λz=>?_
   have z:¬k >= n-hint:=z;refine ak (O _ _ (by show hint+k<n;omega) λb=>?_);cases b<;>exact aq ⟨rfl,rfl⟩
  .rintro⟨o,l,k⟩ Y ⟨rfl,rfl⟩
   exact ak (B _ _ _ (by show hint+min k (n-hint)<=n;omega) λl k T=>aq (h k T))
 |false =>
  refine ak (jy (ir (Q:=λq Y=>Y=sx/\q.1=none) (I:=λ_ q Y=>Y=sx/\q.1=none) ?_ (λq Y h=>h) ⟨rfl,rfl⟩) ?_)
  .rintro t ⟨o,l,k⟩ Y _ _ ⟨rfl,_⟩
   refine zx (λz=>aq ⟨rfl,rfl⟩) λz=>?_
   refine ak (O _ _ (by show hint-k<n;omega) λb=>?_);cases b<;>exact aq ⟨rfl,rfl⟩
  .rintro⟨o,l,k⟩ Y ⟨rfl,rfl⟩
   exact ak (B _ _ _ (by show hint-l<=n;omega) λl k T=>aq (h k T))
end
structure Iv(p:Keyed->Prop)(a b:Array Keyed)(t:Nat)(out:Array Keyed)(ia ib:Nat):Prop where
 L:Al p out
 ba:ia+1<a.size
 bb:ib<b.size
 bt:t<ia+ib
def Ps(p:Keyed->Prop)(a b:Array Keyed)(t:Nat)(o:Option (Array Keyed))(out:Array Keyed)(Y T:Nat):Prop:=(∃x,o=some x/\Al p x)\/(o=none/\Iv p a b t out Y T)
def Iv.le(h:Iv p a b t out Z ib)(z:u<=t):Iv p a b u out Z ib:=⟨h.L,h.ba,h.bb,Cq z h.bt⟩
def Ps.go(h:Iv p a b t out Z ib):Ps p a b t none out Z ib:=.inr ⟨rfl,h⟩
def Ps.gd(h:Al p x):Ps p a b t (some x) out Z ib:=.inl ⟨x,rfl,h⟩
section
variable{prog:Program}{w:World}{A:Around}{E:Y1}{s:Shared}{sx:SortSt}{κ:SortKind}{p:Keyed->Prop}{a b:Array Keyed}
def mlo{Q:Array Keyed->SortSt->Prop}(K:Rk prog w A s κ p)(N:kindOf sx=κ)(B:Al p a)(G:Al p b)(h1:0<a.size)(h2:0<b.size)(h:∀Z out,Sg sx Z->Al p out->Q out Z):wpS (model prog w) A E s (anc a b) Q sx:=by
 have S0:Sg sx sx:=⟨gallopOf sx,rfl⟩;refine ak (wpS_lift (o4 ⟨rfl,?_⟩))
 extract_lets -underBinder total done last
 obtain⟨y,ey,hy⟩:=G.at h2;refine ak (Ak ey ?_);have L0:Al p #[y]:=λx hx=>by rw[ie.mp hx];exact hy
 have D:∀{out T ib},Al p out->Al p (done out T ib):=λL=>(L.app (B.ext _ _)).app (G.ext _ _)
 have X:∀{out T ib},Al p out->Al p (last out T ib):=λL=>(L.app (G.ext _ _)).app (B.ext _ _)
 have ht:total=a.size+b.size:=rfl
 clear_value done last total
 extract_lets -underBinder o0 i0 i1
 refine Cz (λc1=>aq (h _ _ S0 (D L0))) λc1=>Cz (λc2=>aq (h _ _ S0 (X L0))) λc2=>ak (wpS_get ?_)
 refine ak (jy (ir (Q:=λq Z=>Sg sx Z/\∃o,q.1=some o/\Al p o) (I:=λt q Z=>Sg sx Z/\q.1=none/\Iv p a b t q.2.1 q.2.2.1 q.2.2.2.1) ?_ ?_ ⟨S0,rfl,show Iv p a b 0 #[y] 0 1 from⟨L0,by lia,by lia,by lia⟩⟩) ?_)
 .intro t q Z _ _ I
  obtain⟨S,_,I⟩:=I
  extract_lets -underBinder s1 out s2 T s3 ib mg
  have I:Iv p a b t out T ib:=I
  clear_value out T ib mg
  refine ak (jy (ir (Q:=λq Y=>Y=Z/\Ps p a b (t+1) q.1 q.2.1 q.2.2.1 q.2.2.2.1) (I:=λu q Y=>Y=Z/\q.1=none/\Iv p a b (t+u) q.2.1 q.2.2.1 q.2.2.2.1) ?_ ?_ ⟨rfl,rfl,I⟩) ?_)
  .intro u q Z _ hu I
   obtain⟨rfl,_,I⟩:=I
   extract_lets -underBinder s1 out s2 T s3 ib s4 ac bc
   have I:Iv p a b (t+u) out T ib:=I
   clear_value out T ib ac bc
   obtain⟨L,U,H,b3⟩:=I;obtain⟨x,P,C⟩:=G.at H;obtain⟨o,W,O⟩:=B.at (i:=T) (by lia);refine ak (Ak P (ak (Ak W (ak (adq K (S.kd.trans N) C O λ_=>?_)))));refine zx (λz=>ak (Ak P ?_)) λz=>ak (Ak W ?_)
   .exact Cz (λw=>aq ⟨rfl,.gd (D (L.push C))⟩) λw=>have J:Iv p a b (t+u+1) (out.push x) T (ib+1):=⟨L.push C,U,by lia,by lia⟩;zx (λ_=>aq ⟨rfl,.go (J.le (by lia))⟩) λ_=>aq ⟨rfl,rfl,J⟩
   .exact Cz (λw=>aq ⟨rfl,.gd (X (L.push O))⟩) λw=>have J:Iv p a b (t+u+1) (out.push o) (T+1) ib:=⟨L.push O,by lia,H,by lia⟩;zx (λ_=>aq ⟨rfl,.go (J.le (by lia))⟩) λ_=>aq ⟨rfl,rfl,J⟩
  .intro q Y I
   exact⟨I.1,.inr ⟨I.2.1,I.2.2.le (by lia)⟩⟩
  .intro q Z I
   obtain⟨o,q⟩:=q;obtain⟨rfl,⟨x,rfl,z⟩|⟨rfl,I⟩⟩:=I
   .exact aq ⟨S,x,rfl,z⟩
   .extract_lets -underBinder o1 s1 out s2 T s3 ib s4 ac bc
    have I:Iv p a b (t+1) out T ib:=I
    clear_value out T ib ac bc
    refine ak (wpS_lift (o4 ⟨rfl,?_⟩));refine ak (jy (ir (Q:=λq Y=>Sg sx Y/\Ps p a b (t+1) q.1 q.2.1 q.2.2.1 q.2.2.2.1) (I:=λu q Y=>Sg sx Y/\q.1=none/\Iv p a b (t+1) q.2.1 q.2.2.1 q.2.2.2.1) ?_ ?_ ⟨S,rfl,I⟩) ?_)
    .intro u q Z _ hu I
     obtain⟨S,_,I⟩:=I
     extract_lets -underBinder s1 out s2 T s3 ib s4 mg s5 ac bc jp
     have I:Iv p a b (t+1) out T ib:=I
     clear_value out T ib mg ac bc
     obtain⟨L,U,H,b3⟩:=I;obtain⟨x,P,C⟩:=G.at H;refine ang (F:=jp ()) λm=>?_
     refine ak (wpS_modify ?_);have N:kindOf (setG Z m)=κ:=S.kd.trans N;have S:Sg sx (setG Z m):=S.gal;refine ak (Ak P (ak (gal K N C (λi hi=>B.at (by lia)) (by lia) λk d1=>?_)));dsimp -zeta only
     extract_lets -underBinder ac jp2
     refine aib (F:=jp2 ()) (λout R=>Al p out/\T<=R/\R+1<a.size) (λout R J=>?_) λV=>?_
     .obtain⟨L1,a1,a2⟩:=J
      obtain⟨o,W,O⟩:=B.at (i:=R) (by lia);refine ak (Ak P ?_)
      extract_lets -underBinder anh ib2
      have M:Al p anh:=L1.push C;have q:ib2=ib+1:=rfl
      clear_value anh ib2
      refine Cz (λw=>aq ⟨S,.gd (D M)⟩) λw=>?_
      refine ak (Ak W (ak (gal K N O (λi hi=>G.at (by lia)) (by lia) λk1 e1=>?_)));dsimp -zeta only
      extract_lets -underBinder bc jp3
      refine aib (F:=jp3 ()) (λout jb=>Al p out/\ib2<=jb/\jb<b.size) (λout jb J=>?_) λV=>?_
      .obtain⟨L4,c1,c2⟩:=J
       exact ak (Ak W (Cz (λw=>aq ⟨S,.gd (X (L4.push O))⟩) λw=>have J:Iv p a b (t+1) (out.push o) (R+1) jb:=⟨L4.push O,by lia,c2,by lia⟩;zx (λ_=>aq ⟨S,.go J⟩) λ_=>aq ⟨S,rfl,J⟩))
      .clear_value jp3 bc
       exact zx (λz=>Cz (λw=>aq ⟨S,.gd (D (M.app (G.ext _ _)))⟩) λw=>V _ _ ⟨M.app (G.ext _ _),by lia,by lia⟩) λz=>V _ _ ⟨M,bz _,by lia⟩
     .clear_value jp2 ac
      exact zx (λz=>Cz (λw=>aq ⟨S,.gd (X (L.app (B.ext _ _)))⟩) λw=>Cz (λw=>aq ⟨S,.gd (D (L.app (B.ext _ _)))⟩) λw=>V _ _ ⟨L.app (B.ext _ _),by lia,by lia⟩) λz=>V _ _ ⟨L,bz _,U⟩
    .intro q Y I
     exact⟨I.1,.inr I.2⟩
    .intro q Z I
     obtain⟨o,q⟩:=q;obtain⟨S,⟨x,rfl,z⟩|⟨rfl,I⟩⟩:=I
     .exact aq ⟨S,x,rfl,z⟩
     .exact ak (wpS_modify (aq ⟨S.gal,rfl,I⟩))
 .intro q Z I
  obtain⟨_,_,_,U,H,b3⟩:=I
  lia
 .intro q Z I
  obtain⟨o,q⟩:=q;obtain⟨S,x,rfl,z⟩:=I;exact aq (h _ _ S z)
end
structure Ih(p:Keyed->Prop)(a b:Array Keyed)(t:Nat)(na nb:Nat)(out:Array Keyed):Prop where
 L:Al p out
 ba:0<na
 bb:1<nb
 bt:t+na+nb<a.size+b.size
 sa:na<a.size
 sb:nb<=b.size
def Ph(p:Keyed->Prop)(a b:Array Keyed)(t:Nat)(o:Option (Array Keyed))(Y T:Nat)(out:Array Keyed):Prop:=(∃x,o=some x/\Al p x)\/(o=none/\Ih p a b t Y T out)
def Ih.le(h:Ih p a b t na nb out)(z:u<=t):Ih p a b u na nb out:=⟨h.L,h.ba,h.bb,by have:=h.bt;lia,h.sa,h.sb⟩
def Ph.go(h:Ih p a b t na nb out):Ph p a b t none na nb out:=.inr ⟨rfl,h⟩
def Ph.gd(h:Al p x):Ph p a b t (some x) na nb out:=.inl ⟨x,rfl,h⟩
section
variable{prog:Program}{w:World}{A:Around}{E:Y1}{s:Shared}{sx:SortSt}{κ:SortKind}{p:Keyed->Prop}{a b:Array Keyed}
def mhi{Q:Array Keyed->SortSt->Prop}(K:Rk prog w A s κ p)(R:kindOf sx=κ)(O:Al p a)(N:Al p b)(h1:0<a.size)(h2:0<b.size)(h:∀Z out,Sg sx Z->Al p out->Q out Z):wpS (model prog w) A E s (ane a b) Q sx:=by
 have S0:Sg sx sx:=⟨gallopOf sx,rfl⟩;refine ak (wpS_lift (o4 ⟨rfl,?_⟩))
 extract_lets -underBinder total done first Y T
 obtain⟨x,ex,hx⟩:=O.at (i:=a.size-1) (by lia);refine ak (Ak ex ?_);have L0:Al p #[x]:=λy hy=>by rw[ie.mp hy];exact hx
 have D:∀{out Y T},Al p out->Al p (done out Y T):=λL=>((O.ext _ _).app (N.ext _ _)).app L.rev
 have F:∀{out Y T},Al p out->Al p (first out Y T):=λL=>((N.ext _ _).app (O.ext _ _)).app L.rev
 have ht:total=a.size+b.size:=rfl;have qa:Y=a.size-1:=rfl;have qb:T=b.size:=rfl
 clear_value done first total Y T
 extract_lets -underBinder o0
 refine Cz (λc1=>aq (h _ _ S0 (D L0))) λc1=>Cz (λc2=>aq (h _ _ S0 (F L0))) λc2=>ak (wpS_get ?_)
 refine ak (jy (ir (Q:=λq Z=>Sg sx Z/\∃o,q.1=some o/\Al p o) (I:=λt q Z=>Sg sx Z/\q.1=none/\Ih p a b t q.2.1 q.2.2.1 q.2.2.2.1) ?_ ?_ ⟨S0,rfl,show Ih p a b 0 Y T #[x]from⟨L0,by lia,by lia,by lia,by lia,by lia⟩⟩) ?_)
 .intro t q Z _ _ I
  obtain⟨S,_,I⟩:=I
  extract_lets -underBinder s1 Y s2 T s3 out mg ac bc
  have I:Ih p a b t Y T out:=I
  clear_value out Y T mg
  refine ak (jy (ir (Q:=λq G=>G=Z/\Ph p a b (t+1) q.1 q.2.1 q.2.2.1 q.2.2.2.1) (I:=λu q G=>G=Z/\q.1=none/\Ih p a b (t+u) q.2.1 q.2.2.1 q.2.2.2.1) ?_ ?_ ⟨rfl,rfl,I⟩) ?_)
  .intro u q Z _ hu I
   obtain⟨rfl,_,I⟩:=I
   extract_lets -underBinder s1 Y s2 T s3 out s4 ac bc
   have I:Ih p a b (t+u) Y T out:=I
   clear_value out Y T ac bc
   obtain⟨L,U,b2,b3,b4,b5⟩:=I;obtain⟨n,rfl⟩:∃n,Y=n+1:=⟨Y-1,by lia⟩;obtain⟨m,rfl⟩:∃m,T=m+1:=⟨T-1,by lia⟩;obtain⟨x,H,P⟩:=N.at (i:=m) (by lia);obtain⟨o,M,C⟩:=O.at (i:=n) (by lia);refine ak (Ak H (ak (Ak M (ak (adq K (S.kd.trans R) P C λ_=>?_)))));refine zx (λz=>ak (Ak M ?_)) λz=>ak (Ak H ?_)
   .exact Cz (λw=>aq ⟨rfl,.gd (D (L.push C))⟩) λw=>have J:Ih p a b (t+u+1) n (m+1) (out.push o):=⟨L.push C,Nat.pos_of_ne_zero w,b2,by lia,by lia,b5⟩;zx (λ_=>aq ⟨rfl,.go (J.le (by lia))⟩) λ_=>aq ⟨rfl,rfl,J⟩
   .exact Cz (λw=>aq ⟨rfl,.gd (F (L.push P))⟩) λw=>have w:m≠1:=w;have J:Ih p a b (t+u+1) (n+1) m (out.push x):=⟨L.push P,U,by lia,by lia,b4,by lia⟩;zx (λ_=>aq ⟨rfl,.go (J.le (by lia))⟩) λ_=>aq ⟨rfl,rfl,J⟩
  .intro q G I
   exact⟨I.1,.inr ⟨I.2.1,I.2.2.le (by lia)⟩⟩
  .intro q Z I
   obtain⟨o,q⟩:=q;obtain⟨rfl,⟨x,rfl,z⟩|⟨rfl,I⟩⟩:=I
   .exact aq ⟨S,x,rfl,z⟩
   .extract_lets -underBinder o1 s1 Y s2 T s3 out s4 ac bc
    have I:Ih p a b (t+1) Y T out:=I
    clear_value out Y T ac bc
    refine ak (wpS_lift (o4 ⟨rfl,?_⟩));refine ak (jy (ir (Q:=λq G=>Sg sx G/\Ph p a b (t+1) q.1 q.2.1 q.2.2.1 q.2.2.2.1) (I:=λu q G=>Sg sx G/\q.1=none/\Ih p a b (t+1) q.2.1 q.2.2.1 q.2.2.2.1) ?_ ?_ ⟨S,rfl,I⟩) ?_)
    .intro u q Z _ hu I
     obtain⟨S,_,I⟩:=I
     extract_lets -underBinder s1 Y s2 T s3 out s4 mg s5 ac bc jp
     have I:Ih p a b (t+1) Y T out:=I
     clear_value out Y T mg ac bc
     obtain⟨L,U,b2,b3,b4,b5⟩:=I;obtain⟨m,rfl⟩:∃m,T=m+1:=⟨T-1,by lia⟩;obtain⟨x,H,P⟩:=N.at (i:=m) (by lia);refine ang (F:=jp ()) λg=>?_
     refine ak (wpS_modify ?_);have R:kindOf (setG Z g)=κ:=S.kd.trans R;have S:Sg sx (setG Z g):=S.gal;refine ak (Ak H (ak (gal K R P (λi hi=>O.at (by lia)) (by lia) λk d1=>?_)));dsimp -zeta only
     extract_lets -underBinder k' ac jp2
     have qk:k'=Y-k:=rfl;refine aib (F:=jp2 ()) (λV out=>Al p out/\V<=Y/\0<V) (λV out J=>?_) λW=>?_
     .obtain⟨L1,a1,a2⟩:=J
      obtain⟨n,rfl⟩:∃n,V=n+1:=⟨V-1,by lia⟩;obtain⟨o,M,C⟩:=O.at (i:=n) (by lia);refine ak (Ak H ?_)
      extract_lets -underBinder anh
      have L3:Al p anh:=L1.push P
      clear_value anh
      refine Cz (λw=>aq ⟨S,.gd (F L3)⟩) λw=>?_
      have w:m≠1:=w;refine ak (Ak M (ak (gal (n:=m) K R C (λi hi=>N.at (by lia)) (show m-1<m by lia) λk1 e1=>?_)));dsimp -zeta only
      extract_lets -underBinder k2 bc jp3
      have qk:k2=m-k1:=rfl;refine aib (F:=jp3 ()) (λX out=>Al p out/\X<=m/\1<X) (λX out J=>?_) λW=>?_
      .obtain⟨B,c1,c2⟩:=J
       exact ak (Ak M (Cz (λw=>aq ⟨S,.gd (D (B.push C))⟩) λw=>have J:Ih p a b (t+1) n X (out.push o):=⟨B.push C,Nat.pos_of_ne_zero w,c2,by lia,by lia,by lia⟩;zx (λ_=>aq ⟨S,.go J⟩) λ_=>aq ⟨S,rfl,J⟩))
      .clear_value jp3 bc k2
       have B:=L3.app (N.ext k1 m).rev;exact zx (λz=>Cz (λw=>aq ⟨S,.gd (F B)⟩) λw=>Cz (λv=>aq ⟨S,.gd (D B)⟩) λv=>have w:k1≠1:=w;have v:k1≠0:=v;W _ _ ⟨B,e1,by lia⟩) λz=>W _ _ ⟨L3,bz _,by lia⟩
     .clear_value jp2 ac k'
      have B:=L.app (O.ext k Y).rev;exact zx (λz=>Cz (λw=>aq ⟨S,.gd (D B)⟩) λw=>W _ _ ⟨B,d1,Nat.pos_of_ne_zero w⟩) λz=>W _ _ ⟨L,bz _,U⟩
    .intro q G I
     exact⟨I.1,.inr I.2⟩
    .intro q Z I
     obtain⟨o,q⟩:=q;obtain⟨S,⟨x,rfl,z⟩|⟨rfl,I⟩⟩:=I
     .exact aq ⟨S,x,rfl,z⟩
     .exact ak (wpS_modify (aq ⟨S.gal,rfl,I⟩))
 .intro q Z I
  obtain⟨_,_,_,U,b2,b3,_⟩:=I
  lia
 .intro q Z I
  obtain⟨o,q⟩:=q;obtain⟨S,x,rfl,z⟩:=I;exact aq (h _ _ S z)
end
structure Cg(p:Keyed->Prop)(st0 sx:SortSt):Prop where
 eq:sx=setArr st0 (arrOf sx)
 al:Al p (arrOf sx)
 sz:(arrOf sx).size=(arrOf st0).size
def Cg.kd(h:Cg p st0 Z):kindOf Z=kindOf st0:=by rw[h.eq]
def Cg.ar(h:Cg p st0 Z)(Y:U.Perm (arrOf Z)):Cg p st0 (setArr Z U):=⟨by rw[h.eq],λx T=>h.al x ((Array.perm_iff_toList_perm.mp Y).mem_iff.mp T),Y.size_eq.trans h.sz⟩
def Cg.mir(h:Cg p st0 Z):Cg p st0 (setArr Z (mirror (arrOf Z) i j k)):=h.ar (mirror_perm _ _ _ _)
section
variable{prog:Program}{w:World}{A:Around}{E:Y1}{s:Shared}{st0 sx:SortSt}{κ:SortKind}{p:Keyed->Prop}
def ltA{Q:Option Bool->SortSt->Prop}(K:Rk prog w A s κ p)(O:kindOf st0=κ)(C:Cg p st0 sx)(G:i<(arrOf st0).size)(B:j<(arrOf st0).size)(h:∀b,Q (some b) sx):wpS (model prog w) A E s (ltAt' i j) Q sx:=by obtain⟨x,J,T⟩:=C.al.at (i:=i) (by rw[C.sz];exact G);obtain⟨y,Y,N⟩:=C.al.at (i:=j) (by rw[C.sz];exact B);rw[ltAt'_eq];exact ak (wpS_get (ak (Ak J (ak (Ak Y (adq K (C.kd.trans O) T N h))))))
def asc{Q:Option (Option Nat)×Nat->SortSt->Prop}(K:Rk prog w A s κ p)(T:kindOf st0=κ)(C:Cg p st0 sx)(N:1<=a)(J:a<=nrem)(O:Z+nrem<=(arrOf st0).size)(h:∀n,a<=n->n<=nrem->Q (none,n) sx) :
 wpS (model prog w) A E s (forIn [a:nrem] ((none,a):Option (Option Nat)×Nat) λ_ q=>do
  let x<-ltAt' (Z+q.2) (Z+q.2-1)
  match x with
  |some z=>if z=true then pure (.done (none,q.2))else pure (.yield (none,q.2+1))
  | _=>pure (.done (some none,q.2))) Q sx:=by
 refine ir (I:=λt q Y=>Y=sx/\q=(none,t)) ?_ ?_ ⟨rfl,rfl⟩
 .rintro t q Y G B ⟨rfl,rfl⟩
  exact ak (ltA K T C (by show Z+t<_;lia) (by show Z+t-1<_;lia) λ_=>zx (λz=>aq (h t G (by lia))) λz=>aq ⟨rfl,rfl⟩)
 .rintro q Y ⟨rfl,rfl⟩
  rw[show max a nrem=nrem by lia];exact h nrem J (bz _)
def bdx{Q:Option Nat->SortSt->Prop}(K:Rk prog w A s κ p)(O:kindOf st0=κ)(Y:Cg p st0 st0)(F:1<=nrem)(R:Z+nrem<=(arrOf st0).size)
 (h:∀m sx,Cg p st0 sx->1<=m->m<=nrem->Q (some m) sx):wpS (model prog w) A E s (countRun' Z nrem) Q st0:=by
 refine ak (asc K O Y (bz 1) F R λn S P=>?_);refine Cz (λv=>aq (h n _ Y S P)) λv=>?_
 have v:n≠nrem:=v
 extract_lets -underBinder jp
 have J:∀sx,Cg p st0 sx->wpS (model prog w) A E s (jp ()) Q sx:=λsx C=>by
  refine ak (wpS_lift (o4 ⟨rfl,?_⟩));refine ak (jy (ir (Q:=λq sx=>q.1=none/\Cg p st0 sx/\n+1<=q.2.1/\q.2.1<=nrem) (I:=λt q sx=>q.1=none/\q.2.1=t/\Cg p st0 sx) ?_ ?_ ⟨rfl,rfl,C⟩) ?_)
  .rintro t ⟨N,x,G⟩ sx b1 b2 ⟨_,T,C⟩
   have T:x=t:=T;subst T;refine ak (ltA K O C (by show Z+x<_;lia) (by show Z+x-1<_;lia) λ_=>zx (λz=>?_) λz=>?_)
   .exact zx (λy=>ak (wpS_reverse (aq ⟨rfl,rfl,C.mir⟩))) λy=>aq ⟨rfl,rfl,C⟩
   .exact ak (ltA K O C (by show Z+x-1<_;lia) (by show Z+x<_;lia) λ_=>zx (λy=>aq ⟨rfl,C,b1,by show x<=_;lia⟩) λy=>aq ⟨rfl,rfl,C⟩)
  .rintro⟨N,x,G⟩ sx ⟨B,T,C⟩
   have T:x=max (n+1) nrem:=T;exact⟨B,C,by show _<=x;lia,by show x<=_;lia⟩
  .rintro⟨N,x,G⟩ sx ⟨B,C,H,L⟩
   have B:N=none:=B;subst B;have H:n+1<=x:=H
   have L:x<=nrem:=L
   extract_lets -underBinder o1 s1 x' bkm
   have W:o1=none:=rfl
   clear_value o1
   subst W;dsimp -zeta only
   extract_lets -underBinder jp2
   have J:∀sx,Cg p st0 sx->wpS (model prog w) A E s (jp2 ()) Q sx:=λsx C=>by exact ak (wpS_reverse (ak (asc K O C.mir (show 1<=x by lia) L R λm V M=>aq (h m _ C.mir (by have V:x<=m:=V;lia) M))))
   exact zx (λy=>ak (wpS_reverse (J _ C.mir))) λy=>J _ C
 clear_value jp
 exact zx (λg=>ak (ltA K O Y (by show Z<_;lia) (by show Z+n-1<_;lia) λ_=>zx (λz=>aq (h n _ Y S P)) λz=>ak (wpS_reverse (J _ Y.mir)))) λg=>J _ Y
def bdz{Q:Bool->SortSt->Prop}(K:Rk prog w A s κ p)(J:kindOf st0=κ)(C:Cg p st0 sx)(O:Z+n<=(arrOf st0).size)(h:∀sx,Cg p st0 sx->Q true sx):wpS (model prog w) A E s (binarySort' Z n ok) Q sx:=by
 refine ak (jy (ir (I:=λt q sx=>q.1=none/\Cg p st0 sx) (Q:=λq sx=>q.1=none/\Cg p st0 sx) ?_ (λq sx h=>h) ⟨rfl,C⟩) ?_)
 .rintro k q sx N B ⟨_,C⟩
  refine ak (jy (ir (I:=λt q Y=>Y=sx/\q.1=none/\q.2.2<=k) (Q:=λq Y=>Y=sx/\q.1=none) ?_ (λq sx h=>⟨h.1,h.2.1⟩) ⟨rfl,rfl,bz _⟩) ?_)
  .rintro t ⟨o,l,q⟩ Y _ b3 ⟨rfl,T,G⟩
   have G:q<=k:=G
   refine zx (λz=>aq ⟨rfl,rfl⟩) λz=>?_
   have z:¬l >= q:=z;exact ak (ltA K J C (by show Z+k<_;lia) (by show Z+(l+q)/2<_;lia) λ_=>zx (λy=>aq ⟨rfl,rfl,by show(l+q)/2<=k;lia⟩) λy=>aq ⟨rfl,rfl,G⟩)
  .rintro⟨o,l,q⟩ Y ⟨rfl,T⟩
   have T:o=none:=T;subst T;show wpS _ _ _ _ (moveDown' (Z+k) (Z+l)>>=λ_=>pure (ForInStep.yield (none,()))) _ _;rw[moveDown'_eq];exact ak (wpS_modify (aq ⟨rfl,C.ar (bubble_perm _ _ _)⟩))
 .rintro⟨o,q⟩ sx ⟨T,C⟩
  have T:o=none:=T;subst T;exact aq (h sx C)
end
inductive Rn:Nat->Nat->List (Nat×Nat)->Prop
 |nil:Rn s s []
 |cons:0<l->Rn (s+l) e q->Rn s e ((s,l)::q)
def Rn.le(h:Rn s e q):s<=e:=by
 induction h with
 |nil=>exact bz _|cons _ _ Y=>lia
def Rn.snoc(h:Rn s e q)(Y:0<l):Rn s (e+l) (q++[(e,l)]):=by
 induction h with
 |nil=>exact .cons Y .nil|cons z _ T=>exact .cons z T
def Rn.cut{Y:List (Nat×Nat)}(h:Rn s e (Y++(a,l)::(b,m)::Z)):b=a+l/\0<l/\0<m/\b+m<=e/\Rn s e (Y++(a,l+m)::Z):=by
 induction Y generalizing s with
 |nil=>cases h with
  |cons z t=>cases t with
   |cons y t=>exact⟨rfl,z,y,t.le,.cons (by lia) (by rw[<-Nat.add_assoc];exact t)⟩
 |cons x Y G=>cases h with
  |cons z t=>obtain⟨C,J,O,T,B⟩:=G t;exact⟨C,J,O,T,.cons z B⟩
noncomputable def pr(q:List (Nat×Nat×Nat)):List (Nat×Nat):=q.map λq=>(q.1,q.2.1)
structure Gw(κ:SortKind)(p:Keyed->Prop)(N:Nat)(l0:Nat)(sx:SortSt):Prop where
 kd:kindOf sx=κ
 fl:failedOf sx=none
 al:Al p (arrOf sx)
 sz:(arrOf sx).size=N
 ru:Rn 0 l0 (pr (pendingOf sx).toList)
 le:l0<=N
def a0s{l:List (Keyed×Nat)}(T:∀q∈l,p q.1)(G:Al p Z):Al p (l.foldl (λa (q:Keyed×Nat)=>a.setIfInBounds (c+q.2) q.1) Z)/\(l.foldl (λa (q:Keyed×Nat)=>a.setIfInBounds (c+q.2) q.1) Z).size=Z.size:=by
 induction l generalizing Z with
 |nil=>exact⟨G,rfl⟩
 |cons q l J =>
  have:=J (λx Y=>T x (bw _ Y)) (show Al p (Z.setIfInBounds (c+q.2) q.1)from λx Y=>by
   rw[Bo]at Y;rcases List.mem_or_eq_of_mem_set Y with z|z
   .exact G x z
   .rw[z];exact T q (by simp))
  rw[Array.size_setIfInBounds]at this;exact this
def at9{M:Model}{A:Around}{E:Y1}{s:Shared}{Y:Type}{x:Y}{Q:PUnit->Y->Prop}{sx:Y}(h:Q ⟨⟩ x):wpS M A E s (set x:StateT Y Sem PUnit) Q sx:=by unfold wpS;rw[StateT.run_set];exact aj ⟨rfl,h⟩
section
variable{prog:Program}{w:World}{A:Around}{E:Y1}{s:Shared}{sx:SortSt}{κ:SortKind}{p:Keyed->Prop}
def mag{Q:Bool->SortSt->Prop}(K:Rk prog w A s κ p)(G:Gw κ p N l0 sx)(I:i+1<(pendingOf sx).size)(h:∀st',Gw κ p N l0 st'->Q true st'):wpS (model prog w) A E s (mergeAt' i) Q sx:=by
 obtain⟨kd,Z,O,sz,P,le⟩:=G;obtain⟨T,⟨sa,J,C⟩,⟨sb,B,pv⟩,p2,L,rfl⟩:∃T F H p2,(pendingOf sx).toList=T++F::H::p2/\T.length=i:=by
  have W:i<(pendingOf sx).toList.length:=by simp;lia
  have M:i+1<(pendingOf sx).toList.length:=by simp;lia
  exact⟨(pendingOf sx).toList.take i,_,_,(pendingOf sx).toList.drop (i+2),by rw[<-zp M,<-zp W,List.take_append_drop],by rw[List.length_take];lia⟩
 have e1:(pendingOf sx)[T.length]?=some (sa,J,C):=by rw[<-m7,L];simp
 have e2:(pendingOf sx)[T.length+1]?=some (sb,B,pv):=by rw[<-m7,L];simp
 rw[L,pr,iu]at P;obtain⟨rfl,n1,n2,n3,P⟩:=Rn.cut (a:=sa) (l:=J) (b:=sb) (m:=B) P;have V:(((pendingOf sx).setIfInBounds T.length (sa,J+B,C)).eraseIdxIfInBounds (T.length+1)).toList=T++(sa,J+B,C)::p2:=by rw[Array.toList_eraseIdxIfInBounds,Bo,L];simp[List.eraseIdx_append_of_length_le]
 have fin:∀g (R:Array Keyed),Al p R->R.size=N->Q true (SortSt.mk' (kindOf sx) R (((pendingOf sx).setIfInBounds T.length (sa,J+B,C)).eraseIdxIfInBounds (T.length+1)) g (failedOf sx)):=λg R W M=>h _ ⟨kd,Z,W,M,by
  show Rn 0 l0 (pr (((pendingOf sx).setIfInBounds T.length (sa,J+B,C)).eraseIdxIfInBounds (T.length+1)).toList);rw[V,pr,iu];exact P,le⟩
 refine ak (wpS_get ?_);rw[e1,e2];refine ak (at9 ?_);obtain⟨x,ex,hx⟩:=O.at (i:=sa+J) (by lia);refine ak (Ak ex (ak (gal K kd hx (λi I=>O.at (by lia)) n1 λk d1=>?_)));refine Cz (λz=>aq (fin _ _ O sz)) λz=>?_
 have z:J-k≠0:=z;obtain⟨y,ey,hy⟩:=O.at (i:=sa+k+(J-k)-1) (by lia);refine ak (Ak ey (ak (gal K kd hy (λi I=>O.at (by lia)) (show B-1<B by lia) λk2 d2=>?_)));refine Cz (λy=>aq (fin _ _ O sz)) λy=>?_
 have y:k2≠0:=y
 extract_lets -underBinder X Y jp
 have D:Al p X:=O.ext _ _;have aY:Al p Y:=O.ext _ _;have zX:0<X.size:=by show 0<((arrOf sx).extract (sa+k) (sa+J)).size;rw[Array.size_extract];lia
 have zY:0<Y.size:=by show 0<((arrOf sx).extract (sa+J) (sa+J+k2)).size;rw[Array.size_extract];lia
 have U:∀st' o,Sg (setPending sx (((pendingOf sx).setIfInBounds T.length (sa,J+B,C)).eraseIdxIfInBounds (T.length+1))) st'->Al p o->wpS (model prog w) A E s (jp o) Q st':=λst' o S G=>by obtain⟨g,rfl⟩:=S;refine ak (wpS_modify (ak (wpS_get ?_)));show wpS _ _ _ _ (pure (failedOf sx).isNone) Q _;rw[Z];obtain⟨F,H⟩:=a0s (c:=sa+k) (l:=o.toList.zipIdx) (λq hq=>G _ (List.fst_mem_of_mem_zipIdx hq)) O;exact aq (fin g _ F (H.trans sz))
 clear_value jp X Y
 exact zx (λ_=>ak (mlo K kd D aY zX zY U)) λ_=>ak (mhi K kd D aY zX zY U)
def azh{M:Model}{Y T G:Type}{F:G->StateT Y Sem T}{m:StateT Y Sem T}{Q:T->Y->Prop}{sx:Y}(P:G->Y->Prop)(J:∀x sx,P x sx->wpS M A E s (F x) Q sx)(h:(∀x sx,P x sx->wpS M A E s (F x) Q sx)->wpS M A E s m Q sx):wpS M A E s m Q sx:=h J
def sru{st0:SortSt}{Q:Unit->SortSt->Prop}(K:Rk prog w A s κ p)(S:Gw κ p N 0 st0)(h:∀sx l0,Gw κ p N l0 sx->Q () sx):wpS (model prog w) A E s sortRuns' Q st0:=by
 refine ak (wpS_get ?_)
 extract_lets -underBinder size minrun l0
 have M:size=N:=S.sz
 clear_value size minrun
 refine ak (jy (ir (Q:=λq sx=>q.1=none/\Gw κ p N q.2 sx) (I:=λ_ q sx=>q.1=none/\Gw κ p N q.2 sx) ?_ (λq sx h=>h) ⟨rfl,S⟩) ?_)
 .rintro t ⟨o,l0⟩ sx _ Y ⟨_,G⟩
  have G:Gw κ p N l0 sx:=G;refine zx (λz=>aq ⟨rfl,G⟩) λz=>?_
  have z:¬l0 >= size:=z;have sz:=G.sz;refine ak (bdx K G.kd ⟨rfl,G.al,rfl⟩ (by show 1<=size-l0;lia) (by show l0+(size-l0)<=_;lia) λm H P V L=>?_);have L:m<=size-l0:=L
  dsimp -zeta only
  extract_lets -underBinder n jp
  refine azh (F:=jp ()) (λn st2=>Cg p sx st2/\1<=n/\n<=size-l0) (λn st2 J=>?_) λT=>?_
  .obtain⟨C,W,Z⟩:=J
   have G:Gw κ p N l0 st2:=⟨C.kd.trans G.kd,by rw[C.eq];exact G.fl,C.al,C.sz.trans sz,by rw[C.eq];exact G.ru,G.le⟩;refine ak (wpS_get ?_)
   extract_lets -underBinder jp2
   refine azh (F:=jp2) (λ_ sx=>Gw κ p N l0 sx) (λ_ sx G=>?_) λT=>?_
   .refine ak (wpS_modify (aq ⟨rfl,G.kd,G.fl,G.al,G.sz,?_,by show l0+n<=N;lia⟩))
    show Rn 0 (l0+n) (pr ((pendingOf sx).push (l0,n,0)).toList);rw[Bl,pr,iu];exact G.ru.snoc W
   .clear_value jp2
    cases hb:(pendingOf st2).back? with
    |none=>exact T () st2 G
    |some q =>
     obtain⟨X,D,x⟩:=q;refine ak (jy (ir (I:=λt q sx=>q.1=none/\Gw κ p N l0 sx) (Q:=λq sx=>q.1=none/\Gw κ p N l0 sx) ?_ (λq sx G=>G) ⟨rfl,G⟩) ?_)
     .rintro t ⟨o,q⟩ sx _ _ ⟨_,G⟩
      refine ak (wpS_get ?_);dsimp only;split
      .rename_i _ _ _ _ R
       have c:(pendingOf sx).size > 1:=by
        by_cases c:(pendingOf sx).size > 1
        .exact c
        .rw[cj c]at R;cases R
       refine zx (λ_=>aq ⟨rfl,G⟩) λ_=>ak (mag K G (show(pendingOf sx).size-2+1<(pendingOf sx).size by lia) λB O=>?_)
       rw[cj (by simp)];exact aq ⟨rfl,O⟩
      .exact aq ⟨rfl,G⟩
     .rintro⟨o,q⟩ sx ⟨b,G⟩
      have b:o=none:=b;subst b;refine ak (wpS_modify (T _ _ ⟨G.kd,G.fl,G.al,G.sz,?_,G.le⟩));refine cast (qt (Rn 0 l0) ?_) G.ru;show _=pr ((pendingOf sx).modify _ _).toList;rw[Array.toList_modify];apply t7;intro j;rw[pr,pr,ig,ig,List.getElem?_modify];cases(pendingOf sx).toList[j]? with
      |none=>rfl|some a=>show some _=some _;split<;>rfl
  .clear_value jp
   refine zx (λy=>?_) λy=>T _ _ ⟨P,V,L⟩
   refine ak (wpS_lift (o4 ⟨rfl,?_⟩))
   extract_lets -underBinder fo
   have y:m<minrun:=y
   have q:fo=min (size-l0) minrun:=rfl
   clear_value fo
   refine ak (bdz K G.kd P (by lia) λsx C=>?_);rw[cj (by simp)];exact T _ _ ⟨C,by lia,by lia⟩
 .rintro⟨o,l0⟩ sx ⟨Y,G⟩
  have Y:o=none:=Y;subst Y;refine ak (jy (ir (I:=λt q sx=>q.1=none/\Gw κ p N l0 sx) (Q:=λq sx=>q.1=none/\Gw κ p N l0 sx) ?_ (λq sx h=>h) ⟨rfl,G⟩) ?_)
  .rintro t ⟨o,q⟩ sx _ Y ⟨_,G⟩
   refine ak (wpS_get ?_);refine zx (λz=>aq ⟨rfl,G⟩) λz=>?_
   have z:¬(pendingOf sx).size<=1:=z
   extract_lets -underBinder i be j
   have T:j+1<(pendingOf sx).size:=by
    have k:∀(N:Nat)(c:Prop)[Decidable c],¬N<=1->(if c then N-2-1 else N-2)+1<N:=λN c _ h=>by split<;>lia
    exact k _ _ z
   clear_value j
   refine ak (mag K G T λB O=>?_);rw[cj (by simp)];exact aq ⟨rfl,O⟩
  .rintro⟨o,q⟩ sx ⟨Y,G⟩
   have Y:o=none:=Y;subst Y;exact aq (h sx l0 G)
end
open PySem PySem.W PyProof.Rows PySem.Calls
section
variable{prog:Program}{w:World}{A:Around}{E:Y1}{s:Shared}
def aua{x y:Xs}{a b:Addr}{P:PySem.Fin->Shared->Prop}(Z:IsTupleKey (intKind prog w) s.heap x a)(I:IsTupleKey (intKind prog w) s.heap y b)(h:∀r,P (.done (.ret (.bool r))) s) :
 wpAny (model prog w) A (Builtin.«tuple.__lt__» ⟨[.ref a,.ref b],[]⟩) P E s:=by
 have H:=I.typeIs;obtain⟨oa,xs,na,S,_,C,V⟩:=Z;obtain⟨ob,X,nb,N,_,Tn,W⟩:=I;show wpAny _ _ (isInstance (.ref b) (.type "tuple")>>=_) _ _ s;refine aa (o5 H isSubtype_tuple_tuple ?_);simp only[qz,du,jq];refine aa (wpAny_tupleItemsOf S C (aa (wpAny_tupleItemsOf N Tn (aa ?_))));refine qj _ (λY r B=>r.1=none/\B=s/\∃F D T G,Y=List.zip T G/\ItemsAre (intKind prog w) F T/\ItemsAre (intKind prog w) D G) _ ?_ ?_ _ _ ⟨rfl,rfl,x,y,xs.toList,X.toList,rfl,V,W⟩
 .rintro⟨u,v⟩ Y r B ⟨M,rfl,F,D,T,G,O,L,R⟩
  cases L with
  |nil=>simp at O
  |@cons k1 u' x'' xs'' h1 bd1 =>
   cases R with
   |nil=>simp at O
   |@cons k2 v' y'' ys'' h2 bd2 =>
    simp only[List.zip_cons_cons,Cm,Prod.mk.injEq]at O;obtain⟨⟨rfl,rfl⟩,rfl⟩:=O;refine aa ((intKind prog w).eqBool (a:=k1) (b:=k2) h1 h2 ?_)
    by_cases K:k1=k2
    .rw[v8 K]
     exact aj ⟨rfl,rfl,x'',y'',xs'',ys'',rfl,bd1,bd2⟩
    .rw[kj K]
     obtain⟨t1,rfl⟩:=Value.isInt_shape h1;obtain⟨t2,rfl⟩:=Value.isInt_shape h2;refine aa (o4 ?_);refine aa (j9 (PyProof.Rows.lt_int (Q:=λv J=>v=.bool (decide (k1<k2))/\J=B) ⟨rfl,rfl⟩) (λv J z=>?_) λ_ _ e=>e);obtain⟨rfl,rfl⟩:=z;exact aa (aj (aj (aj (h _))))
 .rintro⟨U,r2⟩ B ⟨M,rfl,_⟩
  cases(show U=none from M);exact aj (h _)
def a0t{x y:Xs}{a b:Addr}{Q:Bool->Shared->Prop}(G:A.units<cLine)(Y:IsTupleKey (intKind prog w) s.heap x a)(T:IsTupleKey (intKind prog w) s.heap y b)(h:∀r,Q r s):wpAny (model prog w) A (oneLt' false (.ref a) (.ref b)) Q E s:=
 j9 (kat_one (Q:=Q) _ _ (wpAny_richCompare_same_room (op:=.Lt) Y.typeIs T.typeIs F.slot_tuple_lt (jt F.slot_tuple_lt Y.typeIs F.entry_tuple_lt (aua Y T λr=>⟨_,rfl,(λe=>nomatch e),h r⟩) (F.args_tuple_lt_2 _ _)) G)) (λ_ _ e=>e) λ_ _ e=>e
def AtN(prog:Program)(w:World)(h:Heap)(v:Value):Prop:=∃a o Y n,v=.ref a/\h.get? a=some o/\o.cls=.type "tuple"/\o.data=.seq Y n/\0<Y.size/\∀x∈Y.toList,∃b k,x=Value.ref b/\IsTupleKey (intKind prog w) h k b
def AtN.keep(x:AtN prog w h v)(J:∀b o,o.cls=.type "tuple"-> h.get? b=some o->Z.get? b=some o):AtN prog w Z v:=by obtain⟨a,o,Y,n,e,G,T,N,O,C⟩:=x;refine⟨a,o,Y,n,e,J a o T G,T,N,O,λx B=>?_⟩;obtain⟨b,k,e,o,L,n,G,T,r⟩:=C x B;exact⟨b,k,e,o,L,n,J b o T G,T,r⟩
def a7z{fin:Bool}{Q:Bool->Shared->Prop}(G:A.units<cLine)(h:∀r,Q r s){l:List (Value×Value)}(T:∀q∈l,(∃b k,q.1=Value.ref b/\IsTupleKey (intKind prog w) s.heap k b)/\∃b k,q.2=Value.ref b/\IsTupleKey (intKind prog w) s.heap k b)(i:Nat):KatLex prog w A false fin Q l i s:=by
 induction l generalizing i with
 |nil=>exact kat_nil (h _)
 |cons q l O =>
  obtain⟨u,v⟩:=q;obtain⟨⟨a,L,B,J⟩,b,k2,N,Y⟩:=T (u,v) (by simp);cases(show u=.ref a from B);cases(show v=.ref b from N);exact kat_cons (wpAny_eqBool_tuple (knd:=intKind prog w) G J Y (kat_go (λq=>kat_yes (O (λq C=>T q (bw _ C)) _)) λq=>kat_no (by rw[Bool.false_and];exact a0t G J Y h)))
def ani{T:Zl}(B:∀v∈T,AtN prog w h v):∃fs:List Value,KatTups h T fs/\fs.length=T.length/\∀f∈fs,∃b k,f=Value.ref b/\IsTupleKey (intKind prog w) h k b:=by
 induction T with
 |nil=>exact⟨[],KatTups.nil,rfl,by simp⟩
 |cons v T N =>
  obtain⟨fs,f1,f2,R⟩:=N λv J=>B v (bw _ J)
  obtain⟨a,o,Y,n,rfl,P,H,Q,C,L⟩:=B v (by simp);obtain⟨b,k,O,S⟩:=L Y[0] (by simp);refine⟨.ref b::fs,KatTups.cons P H Q (by rw[Array.getElem?_eq_getElem C,O]) f1,by simp[f2],λf G=>?_⟩;rcases dh.mp G with rfl|G
  .exact⟨b,k,rfl,S⟩
  .exact R f G
def mem_zip_self{l:Zl}{x:Value×Value}(h:x∈l.zip l):x.1=x.2/\x.2∈l:=by
 induction l with
 |nil=>cases h
 |cons a l Y =>
  rw[List.zip_cons_cons]at h;rcases dh.mp h with rfl|h
  .exact⟨rfl,by simp⟩
  .exact⟨(Y h).1,bw _ (Y h).2⟩
def akt{Y:Zl}{n:Nat}{a:Addr}{P:PySem.Fin->Shared->Prop}(hu:A.units<cLine)(N:s.heap.get? a=some (seqObj "list" Y.toArray n))(H:Y.length<=sizeLine)(hp:∀v∈Y,AtN prog w s.heap v)
 (h:∀(U:Heap) c Z,(∀b o,b≠a->s.heap.get? b=some o->U.get? b=some o)->U.get? a=some (seqObj "list" (List.toArray Z) c)->Z.length=Y.length->(∀v∈Z,v∈Y)->P (.done (.ret .none)) { s with heap:=U }) :
 wpAny (model prog w) A (Builtin.«list.sort» ⟨[.ref a],[]⟩) P E s:=by
 obtain⟨M,F⟩:∃M,(s.heap.update a (Obj.mapSeq λ_=>(#[]:U1))).get? a=some (seqObj "list" #[] M):=⟨_,get?_update_seq N λ_=>#[]⟩;have keep:∀b o,b≠a->s.heap.get? b=some o->(((s.heap.update a (Obj.mapSeq λ_=>(#[]:U1))).push (seqObj "tuple" Y.toArray 0)).push (seqObj "list" #[] 0)).get? b=some o:=λb o K e =>
  au _ (au _ (((jw s.heap a _).2 b K).trans e))
 have R:(((s.heap.update a (Obj.mapSeq λ_=>(#[]:U1))).push (seqObj "tuple" Y.toArray 0)).push (seqObj "list" #[] 0)).get? a=some (seqObj "list" #[] M):=au _ (au _ F);have S:∀v∈Y,AtN prog w (((s.heap.update a (Obj.mapSeq λ_=>(#[]:U1))).push (seqObj "tuple" Y.toArray 0)).push (seqObj "list" #[] 0)) v:=λv H=>(hp v H).keep λb o c e=>keep b o (λz=>by
  subst z;rw[N]at e;cases e;exact absurd (Value.type.inj c) (by decide)) e
 rw[list_sort_plain];refine aa (listItems_at N rfl ?_);refine aa (listUpdate_at N rfl ?_ (by rw[gm];exact H) (jd _));refine aa (seqEpoch_at F rfl ?_);refine aa (wpAny_newTuple ?_ H);refine aa (wpAny_newList ?_ (jd _));refine jh ?_;show wpAny (model prog w) A _ P E { s with heap:=((s.heap.update a (Obj.mapSeq λ_=>(#[]:U1))).push (seqObj "tuple" Y.toArray 0)).push (seqObj "list" #[] 0) };generalize(((s.heap.update a (Obj.mapSeq λ_=>(#[]:U1))).push (seqObj "tuple" Y.toArray 0)).push (seqObj "list" #[] 0))=g at *;dsimp only;have G0:∀V,Gw V (λx=>x.1=x.2/\x.2∈Y) Y.length 0 (SortSt.mk' V (Y.toArray.zip Y.toArray) #[] 7 none):=λV=>⟨rfl,rfl,λx O=>mem_zip_self (by have O:x∈(Y.toArray.zip Y.toArray).toList:=O;simpa using O),by show(Y.toArray.zip Y.toArray).size=_;simp,.nil,jd _⟩
 have fin:∀(J:SortSt) V C,Gw V (λx=>x.1=x.2/\x.2∈Y) Y.length C J->wpAny (model prog w) A (do
  let B:=(<-seqEpoch a) != M
  Builtin.List.listUpdate (.ref a) λ_=>(arrOf J).map (·.2)
  if let some e:=failedOf J then rule "list.sort.comparison-raised";throw e
  if B then rule "list.sort.modified";raiseError "ValueError" "list modified during sort"
  ret .none) P E { s with heap:=g }:=λJ V C G=>by
  have ea:(arrOf J).map (·.2)=List.toArray ((arrOf J).toList.map (·.2)):=by apply Array.ext';simp
  have hl:((arrOf J).toList.map (·.2)).length=Y.length:=by rw[dm,u9,G.sz]
  refine aa (seqEpoch_at R rfl ?_);rw[ea];refine aa (listUpdate_at R rfl ?_ (jd _) (by rw[gm,hl];exact Nat.le_succ_of_le H));rw[G.fl];simp only[ym,du,jq];exact aj (h _ _ ((arrOf J).toList.map (·.2)) (λb o K e=>((jw g a _).2 b K).trans (keep b o K e)) (get?_update_seq R λ_=>_) hl λv H=>by
   obtain⟨x,O,rfl⟩:=bf.mp H;exact(G.al x O).2)
 by_cases W:Y.toArray.size<2
 .rw[dj W,dj W]
  refine aa (aj ?_);rw[StateT.run_pure];exact aa (aj (fin _ _ _ (G0 general')))
 .rw[cj W,cj W]
  have W:2<=Y.length:=by simp at W;omega
  obtain⟨fs,f1,f2,f3⟩:=ani S;refine aa (kat_kind (s:={ s with heap:=g }) (T:=.type "tuple") f1 (by omega) (λf hf=>?_) rfl ?_)
  .obtain⟨b,k,rfl,o,_,_,N,hc,_⟩:=f3 f hf
   have L:Looks (model prog w) g (typeOf (.ref b)) o.cls:=(Looks.ld N).andThen .now
   rwa [hc]at L
  .refine aa (j9 (sru (Q:=λ_ J=>∃C,Gw (tuples' false) (λx=>x.1=x.2/\x.2∈Y) Y.length C J) (λx y E Q O hy q=>?_) (G0 _) λsx C G=>⟨C,G⟩) ?_ λ_ _ e=>e)
   .obtain⟨a,o,yt,n,e,N,hc,hd,D,hi⟩:=S x.1 (by rw[O.1];exact O.2)
    obtain⟨a',o',qq,n',e',I,qv,X,qk,Zq⟩:=S y.1 (by rw[hy.1];exact hy.2);rw[e,e'];exact kat_lt N hd I X (a7z hu q (λz D=>⟨hi _ (Bf D).1,Zq _ (Bf D).2⟩) _)
   .intro r s' z
    obtain⟨⟨⟩,J⟩:=r;obtain⟨rfl,C,G⟩:=z;exact fin J _ C G
end
end Sr
def a_{a b c:Nat}(h:a<=b)(k:b<=c):a<=c:=gf h k
def b_{a b c:Nat}(h:a<b)(k:b<=c):a<c:=iz h k
def c_{a b c:Nat}(h:a<=b)(k:b<c):a<c:=Cq h k
def d_{a b c:Nat}(h:a<b)(k:b<c):a<c:=Nat.lt_trans h k
def e_{a b:Nat}(h:a<b):a<=b:=yq h
def f_{a b:Nat}(h:a=b):a<=b:=Nat.le_of_eq h
def g_{a b:Nat}(h:a=b):b<=a:=Nat.le_of_eq h.symm
def h_{a b:Nat}(h:a<b):a≠b:=gh h
def i_{a b:Nat}(h:b<a):a≠b:=yr h
def j_{a b:Nat}(h:b<=a):¬a<b:=Nat.not_lt_of_le h
def l_{p:Prop}{a b:Nat}(h:a<b)(k:b<=a):p:=absurd h (Nat.not_lt_of_le k)
def m_{a b:Nat}(h:a<b):(a:Int)<(b:Int):=Int.ofNat_lt.mpr h
def n_{a b:Nat}(h:a<=b):(a:Int)<=(b:Int):=Int.ofNat_le.mpr h
def o_{a b:Nat}(h:(a:Int)<(b:Int)):a<b:=Int.ofNat_lt.mp h
def q_{a:Nat}:(0:Int)<=(a:Int):=Int.natCast_nonneg a
def r_{a b c:Nat}(h:a+c<=b):a<=b-c:=Nat.le_sub_of_add_le h
def s_{a b:Nat}(h:¬a<b):b<=a:=Nat.le_of_not_lt h
def t_{a b:Nat}(h:¬a<=b):b<a:=Nat.lt_of_not_le h
def u_{a b:Nat}(h:a<=b)(k:b<=a):a=b:=Nat.le_antisymm h k
def v_{a b c:Nat}(h:a<=b):a+c<=b+c:=Nat.add_le_add_right h c
def w_{a b c:Nat}(h:a<=b):c+a<=c+b:=By h c
def x_{a b:Nat}:a<=a+b:=Bv a b
def y_{a b:Nat}:a<=b+a:=Bg a b
def z_{a b:Nat}(h:a<b+1):a<=b:=Ab h
def A_{a b:Nat}(h:a<=b):a<b+1:=Nat.lt_succ_of_le h
def B_{a:Nat}:a<a+1:=j4 a
def C_{a b:Nat}:a-b<=a:=Nat.sub_le a b
def D_{a b:Nat}(h:(a:Int)=(b:Int)):a=b:=z7.mp h
def G_{a b c:Nat}(h:a<b):a+c<b+c:=Nat.add_lt_add_right h c
def H_{a b c:Nat}(h:a<b):c+a<c+b:=Nat.add_lt_add_left h c
def hG{P:Prop}(h:∀G:Prop,(P->G)->G):P:=h P id
namespace Xe
open PySem SetTable
def Srt(Y:Array Nat):Prop:=∀(i j a b:Nat),Y[i]?=some a->Y[j]?=some b->i<j->a<b
def aue(R:Srt Z):∀(Y T hi:Nat),T<=hi->hi<=Z.size->hi-T<=Y ->
 (∀(i a:Nat),Z[i]?=some a->i<T->a<j)->(∀(i a:Nat),Z[i]?=some a->hi<=i->j<=a) ->
 below.go Z j Y T hi<=Z.size/\(∀(i a:Nat),Z[i]?=some a->i<below.go Z j Y T hi->a<j)/\(∀(i a:Nat),Z[i]?=some a->below.go Z j Y T hi<=i->j<=a):=by
 intro Y
 induction Y with
 |zero =>
  intro T hi Q B H J O;unfold below.go;have:T=hi:=by lia
  subst this;exact⟨B,J,O⟩
 |succ Y S =>
  intro T hi Q B H J O;unfold below.go
  by_cases E:T<hi
  .simp only[dj E]
   have N:(T+hi)/2<Z.size:=by lia
   have C:Z[(T+hi)/2]?=some Z[(T+hi)/2]:=by simp[N]
   have P:Z.getD ((T+hi)/2) j=Z[(T+hi)/2]:=by simp[Array.getD,N]
   rw[P]
   by_cases G:Z[(T+hi)/2]<j
   .rw[dj G]
    refine S _ _ (by lia) B (by omega) (λi a e l=>?_) O
    by_cases L:i=(T+hi)/2
    .subst L;rw[C]at e;cases e;exact G
    .exact Nat.lt_trans (R _ _ _ _ e C (by lia)) G
   .rw[cj G]
    refine S _ _ (by lia) (e_ N) (by omega) J (λi a e l=>?_)
    by_cases L:i=(T+hi)/2
    .subst L;rw[C]at e;cases e;exact s_ G
    .have:=R _ _ _ _ C e (by lia);exact e_ (c_ (s_ G) this)
  .rw[cj E]
   have:T=hi:=u_ Q (s_ E);subst this;exact⟨B,J,O⟩
def Gh(Y:Srt Z):below Z j<=Z.size/\(∀(i a:Nat),Z[i]?=some a->i<below Z j->a<j)/\(∀(i a:Nat),Z[i]?=some a->below Z j<=i->j<=a):=
 aue Y _ _ _ (jd _) (bz _) C_ (λi a _ h=>absurd h (ug _)) (λi a e h=>by
  have:=(j0.mp e).1;lia)
def below_at(Y:Srt Z)(h:Z[i]?=some j):below Z j=i:=by
 obtain⟨O,G,J⟩:=Gh (j:=j) Y;rcases Nat.lt_trichotomy (below Z j) i with l|l|l
 .have B:=(j0.mp h).1
  have T:Z[below Z j]?=some Z[below Z j]:=by simp
  have a:=J _ _ T (bz _);have b:=Y _ _ _ _ T h l
  lia
 .exact l
 .have:=G _ _ h l;lia
def Z6(j:Nat):has #[] j=false:=by simp[has]
def Uw{t:SetTable}(Y:Srt t.place):t.slot j=.live i↔t.place[i]?=some j:=by
 unfold slot;constructor
 .intro h
  dsimp only at h;split at h
  .rename_i e;cases h;simpa using e
  .split at h<;>cases h
 .intro h
  dsimp only;rw[below_at Y h,h];simp
def agn{t:SetTable}(Y:Srt t.place)(T:t.dummies=#[]):t.slot j=.empty↔∀i:Nat,t.place[i]?≠some j:=by
 constructor
 .intro h i e
  rw[(Uw Y).mpr e]at h;cases h
 .intro h
  unfold slot;dsimp only;rw[T,Z6,cj (by simpa using h _)];rfl
def Mq(T:Array α)(p:Nat)(x:α)(O:p<=T.size)(i:Nat):(insertAt T p x)[i]?=if i<p then T[i]? else if i=p then some x else T[i-1]?:=by
 rw[<-m7,toList_insertAt];have G:(T.toList.take p).length=p:=by simp;lia
 by_cases Y:i<p
 .rw[dj Y,gn (b_ Y (g_ G)),List.getElem?_take,dj Y,m7]
 .rw[cj Y,ji (a_ (f_ G) (s_ Y)),G]
  by_cases J:i=p
  .subst J;simp
  .rw[cj J]
   obtain⟨q,B⟩:∃q,i=p+q+1:=⟨i-p-1,by lia⟩;subst B;rw[show p+q+1-p=q+1 by lia,List.getElem?_cons_succ,List.getElem?_drop,show p+q+1-1=p+q by lia,m7]
def Ow(Y:Array α)(p:Nat)(x:α):(insertAt Y p x).size=Y.size+1:=by have:=(insertAt_perm Y p x).length_eq;simpa using this
noncomputable def up(p i:Nat):Nat:=if i<p then i else i+1
def Rz(Y:Array α)(p:Nat)(x:α)(T:p<=Y.size)(i:Nat):(insertAt Y p x)[up p i]?=Y[i]?:=by
 rw[Mq Y p x T];unfold up
 by_cases h:i<p
 .simp[h]
 .rw[cj h,cj (j_ (a_ (s_ h) x_)),cj (i_ (A_ (s_ h)))];rfl
def Ld(Y:Array α)(p:Nat)(x:α)(T:p<=Y.size):(insertAt Y p x)[p]?=some x:=by rw[Mq Y p x T];simp
def Qn(p i:Nat):i=p\/∃k,i=up p k:=by
 unfold up;rcases Nat.lt_trichotomy i p with h|h|h
 .exact .inr ⟨i,by simp[h]⟩
 .exact .inl h
 .exact .inr ⟨i-1,by rw[cj (by omega)];lia⟩
def auf(J:Srt Z)(O:∀i:Nat,Z[i]?≠some j):Srt (insertAt Z (below Z j) j):=by
 obtain⟨G,B,C⟩:=Gh (j:=j) J;intro a b x y T Y l;rcases Qn (below Z j) a with rfl|⟨a',rfl⟩<;>rcases Qn (below Z j) b with hb|⟨b',rfl⟩
 .subst hb;lia
 .rw[Ld _ _ _ G]at T
  rw[Rz _ _ _ G]at Y;cases T;have:below Z j<=b':=by unfold up at l;split at l<;>omega
  have g:=C _ _ Y this;rcases Nat.lt_or_eq_of_le g with g|g
  .exact g
  .subst g;exact absurd Y (O _)
 .subst hb
  rw[Ld _ _ _ G]at Y;rw[Rz _ _ _ G]at T;cases Y;exact B _ _ T (by unfold up at l;split at l<;>omega)
 .rw[Rz _ _ _ G]at T Y
  exact J _ _ _ _ T Y (by unfold up at l;split at l<;>split at l<;>omega)
noncomputable def adv(m:Nat)(p:Probe):Probe:=({ SetTable.fresh 0 0 true with mask:=m }:SetTable).advance p
def a0v(t:SetTable)(p:Probe):t.advance p=adv t.mask p:=rfl
def abe(h:p.more > 0):adv m p={ p with j:=p.j+1,more:=p.more-1 }:=dj h
def Xf(h:¬p.more > 0):adv m p={ p with j:=(leap m p.i p.perturb).1,more:=runEnd m (leap m p.i p.perturb).1-(leap m p.i p.perturb).1,i:=(leap m p.i p.perturb).1,perturb:=(leap m p.i p.perturb).2 }:=cj h
noncomputable def beg(m i pt:Nat):Probe:={ j:=i,more:=runEnd m i-i,i:=i,perturb:=pt,dummy:=none }
def P(m:Nat)(h:Int):Nat->Probe
 |0=>beg m (bits h%(m+1)) (bits h)|n+1=>adv m (P m h n)
def adt(t:SetTable)(h:Int):t.probeStart h=P t.mask h 0:=rfl
theorem abf(m:Nat)(h:Int):∀n,(P m h n).dummy=none
 |0=>rfl
 |n+1=>by
  show(adv m (P m h n)).dummy=none
  by_cases q:(P m h n).more > 0
  .rw[abe q];exact abf m h n
  .rw[Xf q];exact abf m h n
noncomputable def I(m:Nat)(h:Int):Nat->Nat
 |0=>bits h%(m+1)|T+1=>(I m h T*5+1+bits h/32^(T+1))%(m+1)
def auh(m i:Nat):runEnd m i-i<=9:=by unfold runEnd;split<;>lia
theorem adu{m:Nat}{h:Int}{n i pt:Nat}(e:P m h n=beg m i pt):∀c,c<=runEnd m i-i->P m h (n+c)={ j:=i+c,more:=runEnd m i-i-c,i:=i,perturb:=pt,dummy:=none }
 |0,_=>by rw[Nat.add_zero,e];rfl
 |c+1,hc=>by
  have:=adu e c (by lia);show adv m (P m h (n+c))=_;rw[this,abe (by show 0<runEnd m i-i-c;lia)];simp only
  congr 1
def ank(e:P m h n=beg m i pt):P m h (n+(runEnd m i-i)+1)=beg m ((i*5+1+pt/32)%(m+1)) (pt/32):=by show adv m (P m h (n+(runEnd m i-i)))=_;rw[adu e _ (bz _),Xf (by simp)];rfl
theorem anl(m:Nat)(h:Int):∀T,∃n,n<=10*T/\P m h n=beg m (I m h T) (bits h/32^T)
 |0=>⟨0,jd _,by simp[P,I]⟩
 |T+1=>by
  obtain⟨n,G,Y⟩:=anl m h T;have:=auh m (I m h T);refine⟨_,?_,(ank Y).trans ?_⟩
  .lia
  .rw[Nat.div_div_eq_div_mul,<-Nat.pow_succ];rfl
noncomputable def f5(m x:Nat):Nat:=(x*5+1)%(m+1)
def it(m:Nat):Nat->Nat->Nat
 |0,x=>x|k+1,x=>f5 m (it m k x)
theorem Xg(m a x:Nat):∀k,it m (a+k) x=it m k (it m a x)
 |0=>rfl|k+1=>by show f5 m (it m (a+k) x)=_;rw[Xg m a x k];rfl
def Cov(m:Nat):Prop:=∀i j,i<=m->j<=m->∃k,k<=m/\it m k i=j
def a0w(C:it m (m+1) 0=0)(h:∀j,j<=m->∃k,k<=m/\it m k 0=j):Cov m:=λi j G B=>by
 obtain⟨a,N,Y⟩:=h i G;obtain⟨b,O,T⟩:=h j B
 by_cases J:a<=b
 .refine⟨b-a,a_ C_ O,?_⟩
  rw[<-Y,<-Xg,show a+(b-a)=b by lia,T]
 .refine⟨m+1+b-a,by omega,?_⟩
  rw[<-Y,<-Xg,show a+(m+1+b-a)=(m+1)+b by lia,Xg,C,T]
def orb(m:Nat):Nat->Nat->List Nat
 |0,_=>[]|k+1,x=>x::orb m k (f5 m x)
theorem aid{m:Nat}:∀{k x j:Nat},j∈orb m k x->∃q,q<k/\it m q x=j
 |0,_,_,h=>by simp[orb]at h
 |k+1,x,j,h=>by
  simp only[orb,dh]at h;rcases h with rfl|h
  .exact⟨0,A_ (jd _),rfl⟩
  .obtain⟨q,l,e⟩:=aid h
   refine⟨1+q,by lia,?_⟩;rw[Xg];exact e
def Tt(Y:it m (m+1) 0=0)(h:((List.range (m+1)).all λj=>(orb m (m+1) 0).contains j)=true):Cov m:=
 a0w Y λj T=>by have:=jf.mp h j (by simp;exact A_ T);obtain⟨q,l,e⟩:=aid (by simpa using this);exact⟨q,z_ l,e⟩
def Msk(m:Nat):Prop:=m=7\/m=15\/m=31\/m=63\/m=127
def bd4:Cov 7:=Tt (by decide+kernel) (by decide+kernel)
def a71:Cov 15:=Tt (by decide+kernel) (by decide+kernel)
def a72:Cov 31:=Tt (by decide+kernel) (by decide+kernel)
def a73:Cov 63:=Tt (by decide+kernel) (by decide+kernel)
def a0x:Cov 127:=Tt (by decide+kernel) (by decide+kernel)
def Msk.cov(h:Msk m):Cov m:=by
 rcases h with rfl|rfl|rfl|rfl|rfl
 .exact bd4
 .exact a71
 .exact a72
 .exact a73
 .exact a0x
def aui(h:Int):bits h<2^64:=by
 unfold bits;have Y:=Cj h (b:=2^64) (by decide);have T:=Ba h (b:=2^64) (by decide)
 lia
theorem a74(m:Nat)(h:Int):∀T,I m h T<=m
 |0=>Ab (Nat.mod_lt (bits h) (Nat.succ_pos m))|T+1=>Ab (Nat.mod_lt (I m h T*5+1+bits h/32^(T+1)) (Nat.succ_pos m))
theorem anm(m:Nat)(h:Int):∀k,I m h (13+k)=it m k (I m h 13)
 |0=>rfl
 |k+1=>by
  show(I m h (13+k)*5+1+bits h/32^(13+k+1))%(m+1)=f5 m (it m k (I m h 13));have:bits h/32^(13+k+1)=0:=by
   apply Nat.div_eq_of_lt;refine iz (aui h) ?_
   calc 2^64<=32^13:=by decide
    _<=32^(13+k+1):=Nat.pow_le_pow_right (by decide) (a_ x_ x_)
  rw[this,anm m h k];rfl
def cover(G:Msk m)(h:Int)(j:Nat)(J:j<=m):∃T,T<=13+m/\I m h T=j:=by obtain⟨k,Y,e⟩:=G.cov (I m h 13) j (a74 m h 13) J;exact⟨13+k,w_ Y,(anm m h k).trans e⟩
def auj(Y:Msk m)(h:Int)(j:Nat)(J:j<=m):∃n,n<10*turns m/\(P m h n).j=j:=by obtain⟨T,O,e⟩:=cover Y h j J;obtain⟨n,B,G⟩:=anl m h T;exact⟨n,by unfold turns;lia,by rw[G];exact e⟩
def mod_le(a m:Nat):a%(m+1)<=m:=Ab (Nat.mod_lt a (Nat.succ_pos m))
def Ux(h:i<=m):i<=runEnd m i/\runEnd m i<=m:=by unfold runEnd;split<;>omega
theorem a75(m:Nat)(h:Int):∀n,(P m h n).j+(P m h n).more<=m
 |0=>by
  have:=Ux (mod_le (bits h) m);show bits h%(m+1)+(runEnd m (bits h%(m+1))-bits h%(m+1))<=m
  omega
 |n+1=>by
  have Y:=a75 m h n;show(adv m (P m h n)).j+(adv m (P m h n)).more<=m
  by_cases q:(P m h n).more > 0
  .rw[abe q];simp only;lia
  .rw[Xf q]
   have:=Ux (mod_le ((P m h n).i*5+1+(P m h n).perturb/32) m);show(leap m (P m h n).i (P m h n).perturb).1+(runEnd m (leap m (P m h n).i (P m h n).perturb).1-(leap m (P m h n).i (P m h n).perturb).1)<=m
   have e:(leap m (P m h n).i (P m h n).perturb).1=((P m h n).i*5+1+(P m h n).perturb/32)%(m+1):=rfl;rw[e];omega
def bd5(m:Nat)(h:Int)(n:Nat):(P m h n).j<=m:=by have:=a75 m h n;lia
def Occ(t:SetTable)(j:Nat):Prop:=∃i:Nat,t.place[i]?=some j
structure Z7(t:SetTable)(es:Array (Int×Value)):Prop where
 msk:Msk t.mask
 dum:t.dummies=#[]
 Z8:t.place.size=es.size
 srt:Srt t.place
 bnd:∀(i j:Nat),t.place[i]?=some j->j<=t.mask
 ful:t.place.size<=t.mask
 rch:∀(i j:Nat) e,t.place[i]?=some j->es[i]?=some e->∃n,(P t.mask e.1 n).j=j/\∀m,m<n->Occ t (P t.mask e.1 m).j
theorem Z7.fits(k:Z7 t Z):t.fits Z.size=true:=by unfold SetTable.fits fill;rw[k.dum];simp[k.Z8];have:=k.ful;have:=k.Z8;lia
def Msk.odd(h:Msk m):m%2=1:=by rcases h with rfl|rfl|rfl|rfl|rfl<;>rfl
def Z7.way(k:Z7 t Z):t.gaveWay=false:=by unfold gaveWay;rw[k.msk.odd];rfl
def ano(J:Srt Z)(h:Z.size<=m):∃j,j<=m/\∀i:Nat,Z[i]?≠some j:=by
 apply xg;intro C;have all:∀j,j<=m->∃i:Nat,Z[i]?=some j:=λj T=>by apply xg;intro L;exact C ⟨j,T,λi e=>L ⟨i,e⟩⟩
 have:∀j,j<=m->∀i:Nat,Z[i]?=some j->j<=i:=by
  intro j
  induction j with
  |zero=>intro _ i _;exact jd _
  |succ j B =>
   intro T i e;obtain⟨G,Y⟩:=all j (by lia);have:=B (by lia) G Y;rcases Nat.lt_trichotomy i G with l|l|l
   .have:=J _ _ _ _ e Y l;lia
   .subst l;rw[e]at Y;injection Y with Y;exact a_ (f_ Y) this
   .exact a_ (v_ this) l
 obtain⟨i,e⟩:=all m (bz _);have N:=this m (bz _) i e;have O:=(j0.mp e).1;exact l_ O (a_ h N)
structure Fst(t:SetTable)(h:Int)(N:Nat):Prop where
 lt:N<10*turns t.mask
 emp:¬Occ t (P t.mask h N).j
 occ:∀m,m<N->Occ t (P t.mask h m).j
def least{p:Nat->Prop}:∀{n:Nat},p n->∃k,k<=n/\p k/\∀m,m<k->¬p m:=by
 intro n
 induction n using Nat.strongRecOn with
 |ind n G =>
  intro h
  by_cases T:∃m,m<n/\p m
  .obtain⟨m,l,Y⟩:=T
   obtain⟨k,J,a,b⟩:=G m l Y;exact⟨k,e_ (c_ J l),a,b⟩
  .exact⟨n,bz _,h,λm l Y=>T ⟨m,l,Y⟩⟩
def Z7.fst(k:Z7 t Z)(h:Int):∃N,Fst t h N:=by obtain⟨j,G,e⟩:=ano k.srt k.ful;obtain⟨n,T,J⟩:=auj k.msk h j G;obtain⟨N,l,a,b⟩:=least (p:=λn=>¬Occ t (P t.mask h n).j) (n:=n) (λ⟨i,c⟩=>e i (by rw[J]at c;exact c));exact⟨N,c_ l T,a,λm Y=>Classical.not_not.mp (b m Y)⟩
theorem anp(k:Z7 t Z)(F:Fst t h N)(T:Nat->Int):∀(Y n:Nat),n<=N->N-n<Y ->
 (probe.go t T h Y (P t.mask h n)=some (.empty (P t.mask h N).j none)/\∀m,n<=m->m<N->∀i:Nat,t.place[i]?=some (P t.mask h m).j->T i≠h)
\/∃m i:Nat,n<=m/\m<N/\t.place[i]?=some (P t.mask h m).j/\T i=h/\(∀q,n<=q->q<m->∀i:Nat,t.place[i]?=some (P t.mask h q).j->T i≠h)
 /\probe.go t T h Y (P t.mask h n)=some (.candidate (P t.mask h m).j i (P t.mask h (m+1))):=by
 intro Y
 induction Y with
 |zero=>intro n _ l;omega
 |succ Y C =>
  intro n S l;unfold probe.go
  by_cases e:n=N
  .subst e
   left
   rw[(agn k.srt k.dum).mpr (λi c=>F.emp ⟨i,c⟩)];simp only;rw[abf];exact⟨rfl,λm a b=>by lia⟩
  .obtain⟨i,O⟩:=F.occ n (by lia)
   rw[(Uw k.srt).mpr O];simp only[a0v];have B:adv t.mask (P t.mask h n)=P t.mask h (n+1):=rfl;rw[B]
   by_cases J:T i=h
   .right
    refine⟨n,i,bz _,by lia,O,J,λq a b=>by lia,?_⟩;rw[dj (by simp[J])]
   .rw[cj (by simp[J])]
    have un:∀G:Nat,t.place[G]?=some (P t.mask h n).j->T G≠h:=λG E=>by have a:=below_at k.srt E;have b:=below_at k.srt O;rw[<-a,b];exact J
    rcases C (n+1) (by lia) (by lia)with⟨a,b⟩|⟨m,G,a,b,c,d,L,R⟩
    .left
     refine⟨a,λm x y=>?_⟩
     by_cases q:m=n
     .subst q;exact un
     .exact b m (by lia) y
    .right
     refine⟨m,G,by lia,b,c,d,λq x y=>?_,R⟩
     by_cases z:q=n
     .subst z;exact un
     .exact L q (by lia) y
def Z7.ahead(k:Z7 t Z)(F:Fst t h N){i:Nat}(T:Z[i]?=some e)(G:e.1=h):∃m,m<N/\t.place[i]?=some (P t.mask h m).j:=by
 have J:i<t.place.size:=by rw[k.Z8];exact(j0.mp T).1
 have Y:t.place[i]?=some t.place[i]:=by simp[J]
 obtain⟨n,a,b⟩:=k.rch i _ e Y T;subst G;refine⟨n,?_,by rw[a];exact Y⟩;rcases Nat.lt_trichotomy n N with l|l|l
 .exact l
 .subst l;exact absurd ⟨i,by rw[a];exact Y⟩ F.emp
 .exact absurd (b N l) F.emp
def abh(T:Srt t.place)(q:Nat):Occ (t.put j).1 q↔q=j\/Occ t q:=by
 obtain⟨Y,G,J⟩:=Gh (j:=j) T;constructor
 .rintro⟨i,e⟩
  have e:(insertAt t.place (below t.place j) j)[i]?=some q:=e;rcases Qn (below t.place j) i with rfl|⟨i',rfl⟩
  .rw[Ld _ _ _ Y]at e;cases e;exact .inl rfl
  .rw[Rz _ _ _ Y]at e;exact .inr ⟨i',e⟩
 .rintro(rfl|⟨i,e⟩)
  .exact⟨_,Ld _ _ _ Y⟩
  .exact⟨up (below t.place j) i,(Rz _ _ _ Y i).trans e⟩
theorem Z7.put(k:Z7 t Z)(F:Fst t h N)(room:t.place.size+1<=t.mask) :
 Z7 (t.put (P t.mask h N).j).1 (insertAt Z (t.put (P t.mask h N).j).2 (h,x)):=by
 obtain⟨J,B,O⟩:=Gh (j:=(P t.mask h N).j) k.srt;have G:below t.place (P t.mask h N).j<=Z.size:=by rw[<-k.Z8];exact J
 refine⟨k.msk,?_,?_,?_,?_,?_,?_⟩
 .show(if has t.dummies _ then _ else t.dummies)=#[]
  rw[k.dum,Z6];rfl
 .show(insertAt t.place _ _).size=(insertAt Z _ _).size
  rw[Ow,Ow,k.Z8]
 .exact auf k.srt (λi e=>F.emp ⟨i,e⟩)
 .intro i j e
  rcases(abh k.srt j).mp ⟨i,e⟩with rfl|⟨i',e'⟩
  .exact bd5 _ _ _
  .exact k.bnd i' j e'
 .show(insertAt t.place _ _).size<=t.mask
  rw[Ow];exact room
 .intro i j e Y T
  have Y:(insertAt t.place (below t.place (P t.mask h N).j) (P t.mask h N).j)[i]?=some j:=Y;have T:(insertAt Z (below t.place (P t.mask h N).j) (h,x))[i]?=some e:=T;show ∃n,(P t.mask e.1 n).j=j/\∀m,m<n->Occ (t.put (P t.mask h N).j).1 (P t.mask e.1 m).j
  rcases Qn (below t.place (P t.mask h N).j) i with rfl|⟨i',rfl⟩
  .rw[Ld _ _ _ J]at Y
   rw[Ld _ _ _ G]at T;cases Y;cases T;exact⟨N,rfl,λm l=>(abh k.srt _).mpr (.inr (F.occ m l))⟩
  .rw[Rz _ _ _ J]at Y
   rw[Rz _ _ _ G]at T;obtain⟨n,a,b⟩:=k.rch i' j e Y T;exact⟨n,a,λm l=>(abh k.srt _).mpr (.inr (b m l))⟩
abbrev OcO(ow:Array (Option Nat))(j:Nat):Prop:=∃i,ow[j]?=some (some i)
structure Own(m:Nat)(ow:Array (Option Nat))(hs:Xs):Prop where
 Z8:ow.size=m+1
 cnt:ow.toList.countP Option.isSome=hs.length
 lt:∀(j i:Nat),ow[j]?=some (some i)->i<hs.length
 inj:∀(j j' i:Nat),ow[j]?=some (some i)->ow[j']?=some (some i)->j=j'
 at':∀(i:Nat) h,hs[i]?=some h->∃j n,ow[j]?=some (some i)/\(P m h n).j=j/\∀q,q<n->OcO ow (P m h q).j
def getD_none{Y:Array (Option Nat)}(T:Y.size=m+1)(h:(Y.getD j (some 0)).isNone=true):Y[j]?=some none:=by
 by_cases l:j<Y.size
 .simp[Array.getD,l]at h;simp[l,h]
 .simp[Array.getD,l]at h
def getD_some(Y:Z.size=m+1)(T:j<=m)(h:¬(Z.getD j (some 0)).isNone=true):OcO Z j:=by
 have l:j<Z.size:=by lia
 simp[Array.getD,l]at h;unfold OcO;rw[show Z[j]?=some Z[j]by simp[l]];cases e:Z[j]with
 |none=>exact absurd e h|some i=>exact⟨i,rfl⟩
def aku(B:Z.size=m+1)(h:Int):∀(Y T n:Nat),P m h n=beg m (I m h T) (bits h/32^T)->(∀q,q<n->OcO Z (P m h q).j) ->
 (∃k,k<Y/\Z[I m h (T+k)]?=some none)->∃j U,layClean.free m Z Y (I m h T) (bits h/32^T)=some j/\(P m h U).j=j/\Z[j]?=some none/\∀q,q<U->OcO Z (P m h q).j:=by
 intro Y
 induction Y with
 |zero=>rintro T n _ _ ⟨k,l,_⟩;lia
 |succ Y H =>
  rintro T n e N ⟨k,W,C⟩;have E:=a74 m h T;obtain⟨F,K⟩:=Ux E;unfold layClean.free;cases hf:(List.range (runEnd m (I m h T)+1-I m h T)).find? λk=>(Z.getD (I m h T+k) (some 0)).isNone with
  |some c =>
   obtain⟨a,b,d⟩:=List.find?_range_eq_some.mp hf;have b:=jk.mp b;refine⟨_,n+c,rfl,by rw[adu e c (by omega)],getD_none B a,λq l=>?_⟩
   by_cases J:q<n
   .exact N q J
   .obtain⟨c',rfl⟩:∃c',q=n+c':=⟨q-n,by lia⟩
    rw[adu e c' (by lia)];show OcO Z (I m h T+c');exact getD_some B (by lia) (λQ=>by
     have:=d c' (by lia);simp only[Q]at this;cases this)
  |none =>
   have S:=List.find?_eq_none.mp hf;have G:∀c,c<=runEnd m (I m h T)-I m h T->OcO Z (I m h T+c):=λc M=>getD_some B (by lia) (S c (jk.mpr (by lia)))
   cases k with
   |zero =>
    obtain⟨i,O⟩:=G 0 (jd _);rw[Nat.add_zero]at C O;rw[C]at O;cases O
   |succ k =>
    have L:bits h/32^T/32=bits h/32^(T+1):=by rw[Nat.div_div_eq_div_mul,<-Nat.pow_succ]
    refine(λthis=>?_) (H (T+1) (n+(runEnd m (I m h T)-I m h T)+1) (by rw[ank e,L];rfl) (λq l=>?_) ⟨k,by lia,by rw[show T+1+k=T+(k+1)by lia];exact C⟩)
    .obtain⟨j,U,R,V⟩:=this
     refine⟨j,U,?_,V⟩;rw[<-R];show layClean.free m Z Y ((I m h T*5+1+bits h/32^T/32)%(m+1)) (bits h/32^T/32)=_;rw[L];rfl
    .by_cases J:q<n
     .exact N q J
     .obtain⟨c',rfl⟩:∃c',q=n+c':=⟨q-n,by lia⟩
      rw[adu e c' (by lia)];show OcO Z (I m h T+c');exact G c' (by lia)
def Own.room(k:Own m Z U)(h:U.length<=m):∃j,j<=m/\Z[j]?=some none:=by
 apply xg;intro G;have:Z.toList.countP Option.isSome=Z.toList.length:=List.countP_eq_length.mpr λa J=>by
  obtain⟨j,T,e⟩:=p8 J;cases a with
  |some i=>rfl
  |none =>
   have Y:j<Z.size:=by simpa using T
   refine absurd ⟨j,by have:=k.Z8;exact z_ (b_ Y (f_ this)),?_⟩ G;rw[<-m7,bx T,e]
 rw[k.cnt]at this;have:=k.Z8;simp at *
 lia
theorem Own.free(Y:Msk m)(k:Own m Z hs)(G:hs.length<=m)(h:Int):∃j U,layClean.free m Z (turns m) (bits h%(m+1)) (bits h)=some j/\(P m h U).j=j/\Z[j]?=some none/\∀q,q<U->OcO Z (P m h q).j:=by obtain⟨j,J,e⟩:=k.room G;obtain⟨T,O,B⟩:=cover Y h j J;have:=aku k.Z8 h (turns m) 0 0 (by simp[P,I]) (λq l=>by lia) ⟨T,by unfold turns;lia,by rw[u5,B];exact e⟩;simpa[I]using this
def Own.lay(k:Own m Z U)(B:(P m h n').j=j)(G:Z[j]?=some none)(C:∀q,q<n'->OcO Z (P m h q).j) :
 Own m (Z.setIfInBounds j (some U.length)) (U++[h]):=by
 have J:j<Z.size:=(j0.mp G).1
 have get:∀q:Nat,(Z.setIfInBounds j (some U.length))[q]?=if j=q then some (some U.length)else Z[q]?:=λq=>by rw[Array.getElem?_setIfInBounds];split<;>simp_all
 have Y:∀q,OcO Z q->OcO (Z.setIfInBounds j (some U.length)) q:=λq ⟨i,e⟩=>by refine⟨i,?_⟩;rw[get,cj (λh=>by subst h;rw[G]at e;cases e)];exact e
 refine⟨by simp[k.Z8],?_,λq i e=>?_,λq L i e T=>?_,λi E e=>?_⟩
 .rw[Bo,List.countP_set (by simpa using J),k.cnt]
  have:Z.toList[j]'(by simpa using J)=none:=by have:=(j0.mp G).2;simpa using this
  rw[this];simp
 .rw[get]at e
  split at e
  .cases e;simp
  .have:=k.lt q i e;simp;exact A_ (e_ this)
 .rw[get]at e T
  split at e<;>split at T
  .lia
  .cases e;have:=k.lt _ _ T;lia
  .cases T;have:=k.lt _ _ e;lia
  .exact k.inj q L i e T
 .by_cases l:i<U.length
  .rw[gn l]at e
   obtain⟨N,n,a,b,c⟩:=k.at' i E e;refine⟨N,n,?_,b,λq l=>Y _ (c q l)⟩;rw[get,cj (λh=>by subst h;rw[G]at a;cases a)];exact a
  .have O:i=U.length:=by
    have:=(ao.mp e).1;simp at this;exact u_ (z_ this) (s_ l)
   subst O;simp at e;subst e;exact⟨j,n',by rw[get,dj rfl],B,λq l=>Y _ (C q l)⟩
theorem aie{m:Nat}(J:Msk m):∀(Y T:Xs)(G:Array (Option Nat)),Own m G T->T.length+Y.length<=m+1 ->
 ∃Z,Y.foldl (λU h=>do
  let (owner,k) <-U
  let j<-layClean.free m owner (turns m) (bits h%(m+1)) (bits h)
  pure (owner.setIfInBounds j (some k),k+1)) (some (G,T.length))=some (Z,T.length+Y.length)/\Own m Z (T++Y)
 |[],T,G,k,_=>⟨G,rfl,by simpa using k⟩
 |h::Y,T,G,k,l=>by
  obtain⟨j,E,L,B,N,O⟩:=k.free J (by simp at l;lia) h;have C:=k.lay B N O;obtain⟨Z,a,b⟩:=aie J Y (T++[h]) _ C (by simp at l⊢;lia);refine⟨Z,?_,by simpa using b⟩;rw[List.foldl_cons];have:(do
   let (owner,k) <-some (G,T.length)
   let j<-layClean.free m owner (turns m) (bits h%(m+1)) (bits h)
   pure (owner.setIfInBounds j (some k),k+1))=some (G.setIfInBounds j (some T.length),(T++[h]).length):=by
   show(layClean.free m G (turns m) (bits h%(m+1)) (bits h)>>=_)=_;rw[L];simp
  rw[this,a]
  simp;lia
def anq(T:Msk m)(Y:Array Int)(l:Y.size<=m+1):∃Z,layClean m Y=some Z/\Own m Z Y.toList:=by have G:Own m (Array.replicate (m+1) none) []:=⟨by simp,by simp,λj i e=>by simp[Array.getElem?_replicate]at e,λj J i e=>by simp[Array.getElem?_replicate]at e,λi h e=>by simp at e⟩;obtain⟨Z,a,b⟩:=aie T Y.toList [] _ G (by simpa using l);refine⟨Z,?_,by simpa using b⟩;unfold layClean;rw[<-Array.foldl_toList];exact(qt (Option.map (·.1)) a).trans rfl
noncomputable def lv(m:Nat)(Y:Array (Option Nat)):List (Nat×Nat):=(List.range (m+1)).filterMap λj=>(Y.getD j none).map (j,·)
def R8(k:Own m Z U):(j,i)∈lv m Z↔Z[j]?=some (some i):=by
 unfold lv;rw[List.mem_filterMap];constructor
 .rintro⟨q,a,b⟩
  obtain⟨G,Y,T⟩:=dg.mp b;cases T;have:j<Z.size:=by rw[k.Z8];exact jk.mp a
  simp[Array.getD,this]at Y;simp[this,Y]
 .intro e
  have l:=(j0.mp e).1;refine⟨j,jk.mpr (by rw[<-k.Z8];exact l),?_⟩;have:Z.getD j none=some i:=by simp[Array.getD,l,(j0.mp e).2]
  rw[this];rfl
def anr(m:Nat)(T:Array (Option Nat)):(lv m T).Pairwise λa b=>a.1<b.1:=by unfold lv;refine List.Pairwise.filterMap _ (λa B J b G O Y=>?_) List.pairwise_lt_range;obtain⟨_,_,rfl⟩:=dg.mp G;obtain⟨_,_,rfl⟩:=dg.mp Y;exact J
def auk(k:Own m Z U):((lv m Z).map (·.2)).Perm (List.range U.length):=by
 refine(List.perm_ext_iff_of_nodup ?_ List.nodup_range).mpr λi=>?_
 .rw[mz,wk]
  refine(anr m Z).imp_of_mem fun{a b} Y hb Hv e=>?_
  have:=k.inj a.1 b.1 a.2 ((R8 k).mp Y) (by rw[e];exact(R8 k).mp hb);exact l_ Hv (g_ this)
 .rw[bf,jk]
  constructor
  .rintro⟨a,Y,rfl⟩;exact k.lt _ _ ((R8 k).mp Y)
  .intro l
   obtain⟨j,n,a,_⟩:=k.at' i _ (bx l);exact⟨(j,i),(R8 k).mpr a,rfl⟩
theorem ant{T G:Type}{g:T->Option G}:∀{l:List T},(∀x∈l,(g x).isSome=true)->∀q:Nat,(l.filterMap g)[q]?=l[q]?.bind g
 |[],_,q=>by simp
 |x::l,h,q=>by
  have Y:=h x (fc ..);obtain⟨y,e⟩:=qp.mp Y;rw[List.filterMap_cons_some e];cases q with
  |zero=>simp[e]|succ q=>simpa using ant (λx Y=>h x (bw _ Y)) q
def aif(S:Msk m)(R Q:Nat)(N E:Bool)(Y:Array (Int×Value))(l:Y.size<=m) :
 ∃t Z,laid m R Q N E (Y.map (·.1))=some (t,Z)/\t.mask=m/\Z7 t (Z.filterMap (Y[·]?))/\(Z.filterMap (Y[·]?)).toList.Perm Y.toList/\(Z.filterMap (Y[·]?)).size=Y.size
 /\t.led=N/\t.plain=E/\t.finger=R/\Z.toList.Perm (List.range Y.size):=by
 obtain⟨T,e,k⟩:=anq S (Y.map (·.1)) (by simp;exact a_ l x_);have J:=auk k;simp at J;have G:(lv m T).length=Y.size:=by have:=J.length_eq;simpa using this
 have O:((((lv m T).map (·.2)).toArray).filterMap (Y[·]?)).size=Y.size:=by have:=(J.filterMap (Y[·]?)).length_eq;rw[filterMap_getElem?_range]at this;rw[<-u9,Array.toList_filterMap,this];simp
 refine⟨{ mask:=m,place:=((lv m T).map (·.1)).toArray,dummies:=#[],finger:=R,led:=N,moves:=Q,plain:=E },((lv m T).map (·.2)).toArray,?_,rfl,?_,?_,?_,rfl,rfl,rfl,J⟩
 .unfold laid;rw[e];rfl
 .have P:∀x∈(lv m T).map (·.2),(Y[x]?).isSome=true:=λx W=>by
   have:=jk.mp (J.mem_iff.mp W)
   simp;exact this
  have get:∀q:Nat,((((lv m T).map (·.2)).toArray).filterMap (Y[·]?))[q]?=((lv m T)[q]?).bind λa=>Y[a.2]?:=λq=>by rw[<-m7,Array.toList_filterMap,ant P,ig];cases(lv m T)[q]?<;>rfl
  have Qz:∀q j:Nat,(((lv m T).map (·.1)).toArray)[q]?=some j↔∃i,(lv m T)[q]?=some (j,i):=λq j=>by
   simp only[List.getElem?_toArray,ig,dg];constructor
   .rintro⟨a,h,rfl⟩;exact⟨a.2,h⟩
   .rintro⟨i,h⟩;exact⟨_,h,rfl⟩
  refine⟨S,rfl,?_,?_,?_,?_,?_⟩
  .show(((lv m T).map (·.1)).toArray).size=_
   rw[O];simp[G]
  .intro i j a b ea M lt
   obtain⟨F,B⟩:=(Qz i a).mp ea;obtain⟨i2,e2⟩:=(Qz j b).mp M;obtain⟨K,U⟩:=ao.mp B;obtain⟨A,H⟩:=ao.mp e2;have:=List.pairwise_iff_getElem.mp (anr m T) i j K A lt;rw[U,H]at this;exact this
  .intro i j e
   obtain⟨F,B⟩:=(Qz i j).mp e;have:=(R8 k).mp (bh B);have:=(j0.mp this).1;rw[k.Z8]at this;show j<=m
   exact z_ this
  .show(((lv m T).map (·.1)).toArray).size<=m
   simp[G];exact l
  .intro q j e' hp C
   obtain⟨i,B⟩:=(Qz q j).mp hp;rw[get,B]at C;have C:Y[i]?=some e':=C;obtain⟨X,n,a,b,c⟩:=k.at' i e'.1 (by simp[C]);have D:=k.inj j X i ((R8 k).mp (bh B)) a;subst D;refine⟨n,b,λw V=>?_⟩;obtain⟨i',L⟩:=c w V;obtain⟨z,I⟩:=vf.mp ((R8 k).mpr L);exact⟨z,(Qz z _).mpr ⟨i',I⟩⟩
 .rw[Array.toList_filterMap]
  have:=J.filterMap (Y[·]?);rw[filterMap_getElem?_range]at this;exact this
 .exact O
def aaa:∀n,n<32->Msk (sizeAbove (grown n)-1)/\n<=sizeAbove (grown n)-1/\n+1<=sizeAbove (grown n)-1/\¬(n*5 >= (sizeAbove (grown n)-1)*3)/\sizeAbove (grown n)<=128:=by unfold Msk;decide+kernel
def anu:∀n,n<64->Msk (sizeAbove (n*2)-1)/\n<=sizeAbove (n*2)-1/\¬(n*5 >= (sizeAbove (n*2)-1)*3)/\sizeAbove (n*2)<=128:=by unfold Msk;decide+kernel
section
variable{prog:Program}{w:World}{K:Type}[DecidableEq K]{knd:KeyKind prog w K}{A:Around}{E:Y1}{s:Shared}
def ago(n:Nat)(h:carriedByValue v=true):ofAClassStatement n v=pure false:=by cases v<;>first|(simp[carriedByValue]at h;done)|(unfold ofAClassStatement;rfl)
def Xh(C:IsTupleKey knd s.heap Z a)(h:Q false s):wpAny (model prog w) A (ofAClassStatement 8 (.ref a)) Q E s:=by
 have P:=C.typeIs;obtain⟨o,T,n,L,_,R,N⟩:=C;unfold ofAClassStatement;refine aa (vo P ?_);show wpAny _ _ (if("tuple"=="tuple")=true then _ else _) _ _ s;rw[dj (by decide)];refine aa (aj ?_);simp only[qz,du,jq];refine aa (ur L R ?_);refine aa ?_;show wpAny _ _ (forIn T _ _) _ _ s;rw[<-Array.forIn_toList];refine qj _ (λY r J=>r.1=none/\J=s/\∀v∈Y,carriedByValue v=true) _ ?_ ?_ _ _ ⟨rfl,rfl,N.byValue⟩
 .rintro v Y r J ⟨B,rfl,O⟩
  rw[ago _ (O v fc)];refine aa (aj ?_);simp only[du,jq];exact aj ⟨rfl,rfl,λu G=>O u (bw _ G)⟩
 .rintro⟨S,H⟩ J ⟨B,rfl,_⟩
  simp only at B;subst B;exact aj h
def anv(C:IsTupleKey knd s.heap Z a)(N:∀v∈st,∃Z b,v=.ref b/\IsTupleKey knd s.heap Z b)(h:Q false s) :
 wpAny (model prog w) A (searchCouldBeSeen (.ref a) st) Q E s:=by
 unfold searchCouldBeSeen;refine aa ?_;refine qj _ (λY r G=>r.1=none/\G=s/\∀v∈Y,∃Z b,v=.ref b/\IsTupleKey knd s.heap Z b) _ ?_ ?_ _ _ ⟨rfl,rfl,N⟩
 .rintro v Y r G ⟨J,rfl,O⟩
  obtain⟨L,b,rfl,B⟩:=O v fc;have T:∀v∈Y,∃Z b,v=.ref b/\IsTupleKey knd G.heap Z b:=λv P=>O v (bw _ P)
  dsimp only;split
  .exact aj ⟨rfl,rfl,T⟩
  .refine aa (wpAny_eqIsQuiet_tuple C ?_)
   simp only[qz,du,jq];refine aa (wpAny_eqIsQuiet_tuple B ?_);simp only[qz,du,jq];refine aa (Xh C ?_);simp only[du,jq];refine aa (Xh B ?_);simp only[du,jq];exact aj ⟨rfl,rfl,T⟩
 .rintro⟨R,S⟩ G ⟨J,rfl,_⟩
  simp only at J;subst J;exact aj h
noncomputable def ent(knd:KeyKind prog w K)(x:List K×Addr):Int×Value:=(tupleKeyHash knd x.1,.ref x.2)
def agp{Y:Array (Int×Value)}{T:List (List K×Addr)}(G:Y.toList=T.map (ent knd))(j:Nat):Y[j]?=(T[j]?).map (ent knd):=by rw[<-m7,G,ig]
def akv{C:List (List K×Addr)}(hu:A.units<cLine)(hk:IsTupleKey knd s.heap k p)(ho:s.heap.get? a=some o)(hd:o.data=.set Z ep t)(T:Z7 t Z)(V:Z.toList=C.map (ent knd))(hx:∀x∈C,IsTupleKey knd s.heap x.1 x.2)(hn:(C.map (·.1)).Nodup)(F:Fst t (tupleKeyHash knd k) N)(Zr:∀(i:Nat) x,C[i]?=some x->x.1=k->Q (.there (if adding then none else some i)) s)(q5:(∀x∈C,x.1≠k)->Q (.free (P t.mask (tupleKeyHash knd k) N).j false) s) :
 ∀(G n:Nat)(st:Option Probe),n<=N->N-n<G->st.getD (t.probeStart (tupleKeyHash knd k))=P t.mask (tupleKeyHash knd k) n ->
  (∀m,m<n->∀(i:Nat) x,t.place[i]?=some (P t.mask (tupleKeyHash knd k) m).j->C[i]?=some x->x.1≠k) ->
  wpAny (model prog w) A (setSearchFrom a (.ref p) (tupleKeyHash knd k) adding G st) Q E s:=by
 intro G
 induction G with
 |zero=>intro n st _ l;omega
 |succ G ih =>
  intro n st q3 l Zt I;unfold setSearchFrom;refine aa (j8 ho hd T.fits ?_);dsimp only;rw[T.way,Zt];simp only[du,jq];have qq:=anp T F (λi=>(Z[i]?.map (·.1)).getD 0) (10*turns t.mask) n q3 (by have:=F.lt;exact c_ C_ this);generalize O:t.probe _ (tupleKeyHash knd k) (P t.mask (tupleKeyHash knd k) n)=pr;have O:t.probe (λi=>(Z[i]?.map (·.1)).getD 0) (tupleKeyHash knd k) (P t.mask (tupleKeyHash knd k) n)=pr:=O;have atI:∀(i j:Nat),t.place[i]?=some j->∃x,C[i]?=some x/\Z[i]?=some (ent knd x):=λi j e=>by
   have li:i<Z.size:=by rw[<-T.Z8];exact(j0.mp e).1
   have lx:i<C.length:=by have:=qt List.length V;simp at this;exact b_ li (f_ this)
   refine⟨C[i],by simp[lx],?_⟩;rw[agp V];simp[lx]
  rcases qq with⟨e,q1⟩|⟨m,i,h1,h2,h3,h4,h5,e⟩
  .have e:pr=_:=O.symm.trans e
   subst e;dsimp only;refine aj (q5 λx q4 Y=>?_);obtain⟨i,hi⟩:=vf.mp q4;have J:Z[i]?=some (ent knd x):=by rw[agp V,hi];rfl
   obtain⟨m,lm,hp⟩:=T.ahead F J (by unfold ent;rw[Y])
   by_cases W:m<n
   .exact I m W i x hp hi Y
   .refine q1 m (s_ W) lm i hp ?_
    rw[J];show tupleKeyHash knd x.1=_;rw[Y]
  .have e:pr=_:=O.symm.trans e
   subst e;dsimp only;obtain⟨x,L,J⟩:=atI i _ h3;have q2:=hx x (bh L);have D:∀{R:Bool->Shared->Prop},R false s->wpAny (model prog w) A (searchCouldBeSeen (.ref p) ((Z.filter (·.1==tupleKeyHash knd k)).toList.map (·.2))) R E s:=λhR=>anv hk (λv hv=>by
    obtain⟨y,hy,rfl⟩:=bf.mp hv;have M:y∈Z.toList:=by simp at hy;simpa using hy.1
    rw[V]at M;obtain⟨z,hz,rfl⟩:=bf.mp M;exact⟨z.1,z.2,rfl,hx z hz⟩) hR
   rcases Bool.eq_false_or_eq_true t.led with a79|a79
   all_goals
    simp only[a79,qz,Ag,du,jq,lz]
    first
    |(rw[J];show wpAny _ _ (holding [.ref x.2] (eqBool (.ref x.2) (.ref p))>>=_) _ _ _)
    |(refine aa (D ?_);simp only[du,jq];rw[J];show wpAny _ _ (holding [.ref x.2] (eqBool (.ref x.2) (.ref p))>>=_) _ _ _)
    refine aa (jh (wpAny_eqBool_tuple hu q2 hk ?_));refine aa (j8 ho hd T.fits ?_);dsimp only;have q0:t.sameMemory t.moves t.mask=some true:=by unfold sameMemory;simp
    rw[q0];dsimp only;rw[dj rfl,(Uw T.srt).mpr h3];dsimp only;rw[J]
    by_cases Y:x.1=k
    .have H:decide (x.1=k)=true:=by simp[Y]
     rw[H];have hq:=Zr i x L Y;cases adding
     .simp only[Bool.false_and,du,jq]
      refine aa (wpAny_isSame_ref_self ?_);refine aa (aj ?_);simpa using aj hq
     .simp only[Bool.and_self,lz]
      exact aj hq
    .have H:decide (x.1=k)=false:=by simp[Y]
     rw[H];simp only[Bool.and_false,du,jq];refine aa (wpAny_isSame_ref_self ?_);refine aa (aj ?_);simp only[lz];refine ih (m+1) _ h2 (by lia) rfl λX q6 U x' S B=>?_
     by_cases hc:X<n
     .exact I X hc U x' S B
     .by_cases hm:X=m
      .subst hm
       have ei:U=i:=by rw[<-below_at T.srt S,<-below_at T.srt h3]
       subst ei;rw[L]at B;cases B;exact Y
      .intro qk
       have qv:Z[U]?=some (ent knd x'):=by rw[agp V,B];rfl
       refine h5 X (s_ hc) (by lia) U S ?_;rw[qv];show tupleKeyHash knd x'.1=_;rw[qk]
end
section
variable{prog:Program}{w:World}{K:Type}[DecidableEq K]{knd:KeyKind prog w K}{pk:List K×Addr->Prop}{A:Around}{E:Y1}{s:Shared}
noncomputable abbrev bt(w:World):Bool:=w.params.followText "set-order"
def Ww(h:Q (bt w) s):wpAny (model prog w) A setsByText Q E s:=by unfold setsByText;exact aa (wpAny_askSetting (aj h))
def Uy(knd:KeyKind prog w K)(pk:List K×Addr->Prop):Prop:=∀x,pk x->∀k∈x.1,∀v n,knd.is k v=true->hashByValue n v=pure true
def adw{J:List K}{G:Zl}(h:ItemsAre knd J G)(T:∀k∈J,∀v n,knd.is k v=true->hashByValue n v=pure true):∀v∈G,∀n,hashByValue n v=pure true:=by
 induction h with
 |nil=>simp
 |cons h t B =>
  intro v Y;rcases dh.mp Y with rfl|Y
  .exact λn=>T _ fc _ n h
  .exact B (λk O=>T k (bw _ O)) v Y
def agq(O:Uy knd pk)(N:IsTupleKey knd s.heap Z a)(L:pk (Z,a))(h:Q true s):wpAny (model prog w) A (hashByValue 8 (.ref a)) Q E s:=by
 have S:=N.typeIs;obtain⟨o,T,n,R,_,H,P⟩:=N;unfold hashByValue;refine aa (wpAny_specialOf S F.slot_tuple_hash.lookup ?_);dsimp only;refine aa (ur R H ?_);refine aa ?_;show wpAny _ _ (forIn T _ _) _ _ s;rw[<-Array.forIn_toList];refine qj _ (λY r J=>r.1=none/\J=s/\∀v∈Y,∀n,hashByValue n v=pure true) _ ?_ ?_ _ _ ⟨rfl,rfl,adw P (O _ L)⟩
 .rintro v Y r J ⟨B,rfl,C⟩
  rw[C v fc];refine aa (aj ?_);simp only[qz,du,jq];exact aj ⟨rfl,rfl,λu G=>C u (bw _ G)⟩
 .rintro⟨V,W⟩ J ⟨B,rfl,_⟩
  simp only at B;subst B;exact aj h
structure Uz(knd:KeyKind prog w K)(pk:List K×Addr->Prop)(h:Heap)(a:Addr)(xs:List (List K×Addr))(o:Obj)(es:Array (Int×Value))(ep:Nat)(t:SetTable):Prop where
 get:h.get? a=some o
 exa:o.ExactSet
 dat:o.data=.set es ep t
 tab:Z7 t es
 ent:es.toList=xs.map (ent knd)
 keys:∀x∈xs,IsTupleKey knd h x.1 x.2/\pk x
 nod:(xs.map (·.1)).Nodup
 led:t.led=!bt w
 pla:t.plain=true
def Eo(knd:KeyKind prog w K)(pk:List K×Addr->Prop)(h:Heap)(a:Addr)(S:List K->Prop)(n:Nat):Prop:=∃Y o T G t,Uz knd pk h a Y o T G t/\(∀k,S k↔k∈Y.map (·.1))/\Y.length=n/\t.place.size*5<t.mask*3
theorem Uz.size(X:Uz knd pk h a U o Z ep t):Z.size=U.length:=by have:=qt List.length X.ent;simpa using this
def anw(p:Addr)(Y:Array (Int×Value)):byScan (.ref p) Y=false:=by unfold byScan;simp[Value.scannable]
def anx(h:Msk m):10*turns m<100000:=by rcases h with rfl|rfl|rfl|rfl|rfl<;>decide
def Xi(J:A.units<cLine)(B:IsTupleKey knd s.heap k p)(X:Uz knd pk s.heap a Z o es U t)(F:Fst t (tupleKeyHash knd k) N)(G:∀(i:Nat) x,Z[i]?=some x->x.1=k->Q (.there (if adding then none else some i)) s)(Y:(∀x∈Z,x.1≠k)->Q (.free (P t.mask (tupleKeyHash knd k) N).j false) s) :
 wpAny (model prog w) A (setSearch a (.ref p) (tupleKeyHash knd k) adding) Q E s:=by
 unfold setSearch;exact akv J B X.get X.dat X.tab X.ent (λx T=>(X.keys x T).1) X.nod F G Y 100000 0 none (jd _) (by have:=F.lt;have:=anx X.tab.msk;lia) (adt _ _) (λm l=>by lia)
def aun(L:A.units<cLine)(B:IsTupleKey knd s.heap k p)(C:Eo knd pk s.heap a S n)(h:∀r:Option Nat,(r.isSome=true↔S k)->Q r s):wpAny (model prog w) A (setFind a (.ref p) (tupleKeyHash knd k)) Q E s:=by
 obtain⟨H,o,R,P,t,X,G,_,_⟩:=C;obtain⟨N,F⟩:=X.tab.fst (tupleKeyHash knd k);unfold setFind setFindIn;refine aa (j8 X.get X.dat X.tab.fits ?_);dsimp only;rw[anw];simp only[du,jq];refine aa (Xi L B X F (λi x O Y=>?_) (λT=>?_))
 .simp only[du,jq]
  exact aj (h _ (by simp;exact(G k).mpr (bf.mpr ⟨x,bh O,Y⟩)))
 .dsimp only
  refine aj (h _ ?_);simp only[Option.isSome_none,du,false_iff];intro J;obtain⟨x,Y,e⟩:=bf.mp ((G k).mp J);exact T x Y e
end
def Fb{O C:Type}{f:O->C}:∀{l T:List C},l.Perm T->∀{xs:List O},T=xs.map f->∃Z:List O,l=Z.map f/\Z.Perm xs:=by
 intro l T p
 induction p with
 |nil=>intro xs e;cases xs with
  |nil=>exact⟨[],rfl,.nil⟩|cons _ _=>cases e
 |cons a p L =>
  intro xs e;cases xs with
  |nil=>cases e
  |cons x xs =>
   simp only[gq,Cm]at e;obtain⟨Z,Y,B⟩:=L e.2;exact⟨x::Z,by simp[Y,e.1],B.cons x⟩
 |swap a b l =>
  intro xs e
  match xs,e with
  |x::y::xs,e =>
   simp only[gq,Cm]at e;obtain⟨rfl,rfl,rfl⟩:=e;exact⟨y::x::xs,rfl,.swap x y xs⟩
 |trans p q J G =>
  intro xs e;obtain⟨R,Y,B⟩:=G e;obtain⟨N,P,E⟩:=J Y;exact⟨N,P,E.trans B⟩
section
variable{prog:Program}{w:World}{K:Type}[DecidableEq K]{knd:KeyKind prog w K}{pk:List K×Addr->Prop}{A:Around}{E:Y1}{s:Shared}
def anz(x:IsTupleKey knd h Z p)(C:h.get? a=some o)(L:o.data=.set es ep t)(B:Heap.SameBut a h U):IsTupleKey knd U Z p:=by
 obtain⟨J,T,n,G,P,Y,O⟩:=x;have N:p≠a:=by rintro rfl;obtain rfl:J=o:=lg (G.symm.trans C);rw[L]at Y;exact nomatch Y
 exact⟨J,T,n,(B.2 p N).trans G,P,Y,O⟩
def newX(X:Uz knd pk h a xs o es ep t)(C:Z7 t' Z)(O:Z.toList=U.map (ent knd))(T:∀x∈U,IsTupleKey knd h x.1 x.2/\pk x)(J:(U.map (·.1)).Nodup)(B:t'.led=!bt w)(G:t'.plain=true) :
 Uz knd pk (h.update a (Obj.putSet Z t')) a U { o with data:=.set Z (ep+1) t' } Z (ep+1) t':=by
 have N:(h.update a (Obj.putSet Z t')).get? a=some { o with data:=.set Z (ep+1) t' }:=by have:=o6 (Obj.putSet Z t') X.get (by rw[putSet_of Z t' X.dat];rfl);rw[putSet_of Z t' X.dat]at this;exact this
 exact⟨N,X.exa,rfl,C,O,λx Y=>⟨anz (T x Y).1 X.get X.dat (jw h a _),(T x Y).2⟩,J,B,G⟩
def Lf(h:n<=128):n<=sizeLine:=by rw[t8];exact a_ h (by decide)
def adx(X:Uz knd pk s.heap a xs o Z ep t)(N:Msk (sizeAbove wanted-1))(B:Z.size<=sizeAbove wanted-1)(J:sizeAbove wanted<=128)(h:∀h' U o' qq qk t',Heap.SameBut a s.heap h'->Uz knd pk h' a U o' qq qk t'->U.Perm xs->t'.mask=sizeAbove wanted-1->t'.place.size=Z.size->Q () { s with heap:=h' }) :
 wpAny (model prog w) A (setRelay a wanted) Q E s:=by
 obtain⟨t',Y,e,P,O,p,sz,V,W,_⟩:=aif N t.finger (t.movedTo (sizeAbove wanted-1)) t.led t.plain Z B;unfold setRelay;refine aa (j8 X.get X.dat X.tab.fits ?_);dsimp only;rw[cj (by have:=Lf J;exact j_ this)];have C:t.relaid (Z.map (·.1)) wanted=some (t',Y):=e;rw[C];refine aa ?_;have G:wpAny (model prog w) A (if((Y.filterMap (Z[·]?)).size != Z.size)=true then(do unsupported "internal:set-table-lost-an-element";pure (Y.filterMap (Z[·]?),t'))else pure (Y.filterMap (Z[·]?),t'))
  (λr S=>wpAny (model prog w) A (storeSet a r.1 r.2) Q E S) E s:=by
  rw[cj (by simp[sz])];refine aj ?_;obtain⟨U,L,T⟩:=Fb p X.ent;have H:=newX X O L (λx R=>X.keys x (T.mem_iff.mp R)) ((T.map _).nodup_iff.mpr X.nod) (V.trans X.led) (W.trans X.pla);refine wpAny_storeSet_of X.get X.dat (h _ _ _ _ _ _ (jw s.heap a _) H T P (by rw[O.Z8,sz])) (Lf (by rw[sz];exact a_ B (a_ C_ J)))
 exact G
def abi(u:Uy knd pk)(hu:A.units<cLine)(V:IsTupleKey knd s.heap k p)(hp:pk (k,p))(hS:Eo knd pk s.heap a S n)(d:n+1<32)(h:∀U n' b,Heap.SameBut a s.heap U->Eo knd pk U a (λZ=>S Z\/Z=k) n'->n'<=n+1->Q b { s with heap:=U }) :
 wpAny (model prog w) A (setAddHashed a (.ref p) (tupleKeyHash knd k)) Q E s:=by
 obtain⟨l,o,O,ep,t,X,H,R,nf⟩:=hS;obtain⟨N,F⟩:=X.tab.fst (tupleKeyHash knd k);have C:=X.size;unfold setAddHashed setAddHashedIn;refine jh (aa (j8 X.get X.dat X.tab.fits ?_));dsimp only;rw[anw];simp only[du,jq];refine aa (Xi hu V X F (λi x hi G=>?_) (λW=>?_))
 .dsimp only
  refine aj ?_;have M:S k:=(H k).mpr (bf.mpr ⟨x,bh hi,G⟩);have:=h s.heap n false (Heap.SameBut.refl a s.heap) ⟨l,o,O,ep,t,X,λZ=>by
   rw[<-H Z];exact⟨λh=>h.elim id (λe=>e▸M),.inl⟩,R,nf⟩ x_
  exact this
 .dsimp only
  refine aa (j8 X.get X.dat X.tab.fits ?_);dsimp only;have room:t.place.size+1<=t.mask:=by have:=X.tab.msk;rcases this with e|e|e|e|e<;>lia
  have g:=X.tab.put (x:=.ref p) F room;have J6:(t.put (P t.mask (tupleKeyHash knd k) N).j).1.plain=true:=X.pla;rw[J6];simp only[lz];refine aa (agq u V hp ?_);simp only[lz];obtain⟨T,ex,D⟩:=Fb (f:=ent knd) (insertAt_perm O (t.put (P t.mask (tupleKeyHash knd k) N).j).2 (tupleKeyHash knd k,.ref p)) (xs:=l++[(k,p)]) (by rw[Bl,X.ent,iu];rfl);have pm:=D.map (·.1);have q:(T.map (·.1)).Nodup:=pm.nodup_iff.mpr (by
   rw[iu,Aa];refine⟨X.nod,by simp,λa ha b c=>?_⟩;simp at c;subst c;rintro rfl;obtain⟨x,G,e⟩:=bf.mp ha;exact W x G e)
  have Xj:∀x∈T,IsTupleKey knd s.heap x.1 x.2/\pk x:=λx G=>by
   rcases dw.mp (D.mem_iff.mp G)with G|G
   .exact X.keys x G
   .simp at G;subst G;exact⟨V,hp⟩
  have m:=newX X g ex Xj q X.led X.pla;have v:∀Z,(S Z\/Z=k)↔Z∈T.map (·.1):=λZ=>by rw[pm.mem_iff,iu,dw,H Z];simp
  have B:T.length=n+1:=by rw[D.length_eq];simp[R]
  have J:(insertAt O (t.put (P t.mask (tupleKeyHash knd k) N).j).2 (tupleKeyHash knd k,.ref p)).size=O.size+1:=Ow _ _ _;refine aa (wpAny_storeSet_of X.get X.dat ?_ (Lf (by rw[J];exact e_ (c_ (v_ (f_ C)) (c_ (v_ (f_ R)) (b_ d (by decide)))))));have L:(t.put (P t.mask (tupleKeyHash knd k) N).j).1.place.size=O.size+1:=by rw[g.Z8,J]
  by_cases Y:(t.put (P t.mask (tupleKeyHash knd k) N).j).1.tooFull=true
  .rw[Y]
   simp only[Ag,Bool.and_self,lz];obtain⟨g1,g2,g3,g4,g5⟩:=aaa (O.size+1) (c_ (v_ (f_ C)) (c_ (v_ (f_ R)) d));refine aa (adx m g1 (by rw[J];exact g2) g5 λU z o2 I y t2 sb X2 r em ps=>?_);refine aj (h U (n+1) true ((jw s.heap a _).trans sb) ⟨z,o2,I,y,t2,X2,λZ=>?_,by rw[r.length_eq,B],?_⟩ (bz _))
   .exact(v Z).trans (r.map (·.1)).mem_iff.symm
   .rw[ps,em,J];exact t_ g4
  .rw[Bool.not_eq_true]at Y
   rw[Y];simp only[Bool.and_false,du,jq];refine aj (h _ (n+1) true (jw s.heap a _) ⟨T,_,_,_,_,m,v,B,?_⟩ (bz _));unfold tooFull at Y;have hf:(t.put (P t.mask (tupleKeyHash knd k) N).j).1.fill=O.size+1:=by unfold fill;rw[L,g.dum];rfl
   rw[hf]at Y;rw[L];simp at Y;exact Y
end
open PySem
def upto(J:Nat->β->Shared->Prop)(Y:∀i b z,i<n->J i b z->wpAny M A (f i b) (λr U=>match r with|.yield Z=>J (i+1) Z U|.done Z=>Q Z U) E z)(fin:∀b z,J n b z->Q b z)(start:J 0 b s) :
 wpAny M A (forIn [:n] b f) Q E s:=by
 have go:∀(k i:Nat)(b:β)(z:Shared),n=i+k->J i b z->wpAny M A (forIn (List.range' i k) b f) Q E z:=by
  intro k
  induction k with
  |zero=>intro i b z e G;subst e;exact aj (fin b z G)
  |succ k B =>
   intro i b z e G;show wpAny M A (forIn (i::List.range' (i+1) k) b f) Q E z;rw[List.forIn_cons];refine aa (j9 (Y i b z (by lia) G) (λr U T=>?_) λ_ _ x=>x)
   match r,T with
   |.done Z,T=>exact aj T|.yield Z,T=>exact B (i+1) Z U (by lia) T
 have e:(forIn [:n] b f:Sem β)=forIn (List.range' 0 n) b f:=by rw[Std.Legacy.Range.forIn_eq_forIn_range'];simp[Std.Legacy.Range.size]
 rw[e];exact go n 0 b s (by lia) start
def sub_dict_set:isSubtype (.type "dict") (.type "set")=pure false:=by rw[isSubtype_type];kernel_rfl
def sub_dict_frozenset:isSubtype (.type "dict") (.type "frozenset")=pure false:=by rw[isSubtype_type];kernel_rfl
section
variable{prog:Program}{w:World}{K:Type}[DecidableEq K]{knd:KeyKind prog w K}{pk:List K×Addr->Prop}{A:Around}{E:Y1}{s:Shared}
def Hw(Y:s.TypeIs v T)(G:isSubtype (.type T) (.type "set")=pure false)(J:isSubtype (.type T) (.type "frozenset")=pure false)(h:Q false s) :
 wpAny (model prog w) A (Builtin.Frozenset.isAnySet v) Q E s:=by
 unfold Builtin.Frozenset.isAnySet;refine aa (o5 Y G ?_);exact o5 Y J h
def bec(Y:s.TypeIs v "set")(h:Q true s):wpAny (model prog w) A (Builtin.Frozenset.isAnySet v) Q E s:=by unfold Builtin.Frozenset.isAnySet;refine aa (o5 Y sub_set_self ?_);exact aj h
def Bw(w:World):Obj:={ cls:=.type "set",dict:=none,data:=.set #[] 0 (.fresh 0 0 (!bt w)) }
def auq(T:h.get? a=some (Bw w)):Eo knd pk h a (λ_=>False) 0:=
 ⟨[],Bw w,#[],0,_,⟨T,⟨rfl,rfl,rfl⟩,rfl,⟨.inl rfl,rfl,rfl,λi j a b e=>by simp[SetTable.fresh]at e,λi j e=>by simp[SetTable.fresh]at e,by simp[SetTable.fresh],λi j e a=>by simp[SetTable.fresh]at a⟩,
  rfl,λx Y=>by simp at Y,Bs,rfl,rfl⟩,λk=>by simp,rfl,by simp[SetTable.fresh]⟩
def aur(R:Eo knd pk s.heap a S n)(W:n+m<64)(h:∀Z,Heap.SameBut a s.heap Z->Eo knd pk Z a S n->Q () { s with heap:=Z }):wpAny (model prog w) A (setRoomFor a m) Q E s:=by
 obtain⟨xs,o,es,V,t,X,N,T,F⟩:=R;have G:=X.size;unfold setRoomFor;refine aa (j8 X.get X.dat X.tab.fits ?_);dsimp only;unfold roomFor;have J:=X.tab.Z8;split
 .rename_i Y e
  split at e
  .cases e
   obtain⟨M,g2,g3,H⟩:=anu (t.place.size+m) (c_ (v_ (f_ J)) (c_ (v_ (f_ G)) (c_ (v_ (f_ T)) W)));refine adx X M (by lia) H λZ O I B C t2 U X2 L em P=>h Z U ⟨O,I,B,C,t2,X2,λD=>?_,by rw[L.length_eq,T],?_⟩
   .exact(N D).trans (L.map (·.1)).mem_iff.symm
   .rw[P,em];lia
  .cases e
 .exact aj (h s.heap (Heap.SameBut.refl _ _) ⟨xs,o,es,V,t,X,N,T,F⟩)
theorem Eo.get(Y:Eo knd pk h a S n):∃o Z U t,h.get? a=some o/\o.ExactSet/\o.data=.set Z U t/\t.fits Z.size=true:=
 let ⟨_,o,Z,U,t,X,_⟩:=Y;⟨o,Z,U,t,X.get,X.exa,X.dat,X.tab.fits⟩
def Eo.typeIs(Y:Eo knd pk s.heap a S n):s.TypeIs (.ref a) "set":=
 let ⟨o,_,_,_,ho,hc,_⟩:=Y.get;⟨o,ho,hc.1⟩
def Eo.congr(G:Eo knd pk h a S n)(e:∀k,S k↔Z k):Eo knd pk h a Z n:=
 by obtain⟨B,o,J,Y,t,X,T,r⟩:=G;exact⟨B,o,J,Y,t,X,λk=>(e k).symm.trans (T k),r⟩
def an1(q1:Uy knd pk){id:String}(hu:A.units<cLine)(hS:Eo knd pk s.heap a S n)(hd:s.heap.DictOfH (tupleKind knd) d Z)(W:(d==sysModules)=false)(M:∀x∈Z,pk (x.1,x.2.1))(hl:n+Z.length<31)(h:∀U n',Heap.SameBut a s.heap U->Eo knd pk U a (λk=>S k\/k∈Z.map (·.1)) n'->Q () { s with heap:=U }) :
 wpAny (model prog w) A (Builtin.Frozenset.updateFrom id a (.ref d)) Q E s:=by
 have hT:=hd.typeIs;obtain⟨od,R,q7,G,q5,Y,L,q2,q8⟩:=hd;obtain⟨o0,q4,q6,t0,O,zz,B,q3⟩:=hS.get;have I:d≠a:=by rintro rfl;rw[G]at O;cases O;rw[Y]at B;cases B
 have J:R.size=Z.length:=size_of_entries L;unfold Builtin.Frozenset.updateFrom;refine aa (Hw hT sub_dict_set sub_dict_frozenset ?_);simp only[du,jq];refine aa (vo hT ?_);rw[dj (by decide)];refine aa (o4 ?_);refine aa (m:=Builtin.Frozenset.addrOf (.ref d)) (aj ?_);rw[cj (by rw[W];decide)];refine aa (wpAny_dictEpoch G Y ?_);refine aa (uo G Y ?_);refine aa (aur hS (by lia) λh1 H qv=>?_);have qk:h1.get? d=some od:=(H.2 d I).trans G;refine aa (uo qk Y ?_);refine aa ?_;refine upto (λi _ z=>∃U n',z={ s with heap:=U }/\Eo knd pk U a (λk=>S k\/k∈(Z.take i).map (·.1)) n'/\n'<=n+i/\Heap.SameBut a s.heap U) (λi _ z lt C=>?_) (λ_ z C=>?_) ⟨h1,n,rfl,qv.congr (λk=>by simp),x_,H⟩
 .obtain⟨U,n',rfl,F,Q0,T⟩:=C
  have N:U.get? d=some od:=(T.2 d I).trans G;refine aa (uo N Y ?_);have V:i<Z.length:=b_ lt (f_ J)
  have he:R[i]?=some (entryOfKey (tupleKind knd) Z[i]):=by rw[entry_at L];simp[V]
  rw[he];have D:IsTupleKey knd U Z[i].1 Z[i].2.1:=anz (q2 _ (my V)) O B T;show wpAny _ _ (holding [.ref Z[i].2.1] (setAddHashed a (.ref Z[i].2.1) (tupleKeyHash knd Z[i].1))>>=_) _ _ _;refine aa (jh (abi (s:={ s with heap:=U }) q1 hu D (M _ (my V)) F (by lia) λX q0 b P qq zq=>?_));refine aa (wpAny_dictEpoch ((P.2 d I).trans N) Y ?_);rw[ym];refine aj ⟨X,q0,rfl,qq.congr (λk=>?_),by lia,T.trans P⟩;rw[List.take_add_one,iu,dw,show Z[i]?=some Z[i]by simp[V]];simp[or_assoc]
 .obtain⟨U,n',rfl,F,Q0,T⟩:=C
  refine aj (h U n' T (F.congr λk=>?_));rw[Ay (g_ J)]
end
section
variable{prog:Program}{w:World}{K:Type}[DecidableEq K]{knd:KeyKind prog w K}{pk:List K×Addr->Prop}{A:Around}{E:Y1}{s:Shared}
def aut(Y:R (.ref s.heap.objs.size) { s with heap:=s.heap.push (Bw w) }) :
 codeAny (model prog w) A (.call (.builtin "set.__new__") ⟨[.type "set",v],[]⟩) (wants R E) s:=by
 refine codeAny_call_builtin F.plain_set_new F.entry_set_new (wpAny_of_eq (F.newCall_set_1 v) ?_);have T:=sub_set_self;unfold Builtin.«set.__new__» Builtin.Frozenset.newClass
 wp_walk
 exact wpAny_askSetting (aj (aa (wpAny_alloc (aj (aj Y)))))
set_option maxHeartbeats 3200000 in
def Ox{R:Shared->Prop}(J:wpAny (model prog w) A.in1.in1 (Builtin.Frozenset.updateFrom "set.__init__" s.heap.objs.size x) (λ_ Z=>R Z) E { s with heap:=s.heap.push (Bw w) })(h:∀Z,R Z->Q (.ref s.heap.objs.size) Z) :
 wpAny (model prog w) A (call (.type "set") [x]) Q E s:=by
 obtain⟨c,tl,X⟩:=vm.mro;have I:=vm.made;have W:=vm.sub;refine wpAny_call (codeAny_of_tree ?_);show wpAny _ _ (callAny (.type "set") _) _ _ _;refine aj ⟨Code.quiet_builtin _ (by decide+kernel),p7 F.entry_type_call ?_⟩;rw[Around.under_plain (weight_type_call_type "set" [x] []) rfl];have h1:=vm.notType;have h2:=vm.canCreate;have V:=F.typeCall_set_1 x
 repeat (any_goals (first|assumption|wp_step))
 refine yc (aut (v:=x) (E:=E) (R:=λO G=>O=.ref s.heap.objs.size/\G={ s with heap:=s.heap.push (Bw w) }) ⟨rfl,rfl⟩) λr G N=>?_
 cases r with
 |error e=>exact N
 |ok M =>
  cases M with
  |ret O =>
   obtain⟨rfl,rfl⟩:=N;have L:(s.heap.push (Bw w)).get? s.heap.objs.size=some (Bw w):=cu _ rfl;have P:Shared.TypeIs { s with heap:=s.heap.push (Bw w) } (.ref s.heap.objs.size) "set":= ⟨_,L,rfl⟩;have U:=vm.init.lookup;have D:=vm.init.bind (.ref s.heap.objs.size)
   repeat (any_goals (first|assumption|wp_step))
   refine yc (codeAny_call_builtin (R:=wants (λr T=>r=.none/\R T) E) vm.init.plain F.entry_set_init (check_set_init_1 P ?_)) λC T Y=>?_
   .unfold Builtin.«set.__init__» noKeywords
    generalize hUF:Builtin.Frozenset.updateFrom=UF at J⊢;unfold Bw at L P J⊢
    wp_walk
    exact j9 J (λ_ Z N=>aj ⟨rfl,N⟩) (λe Z S=>S)
   .cases C with
    |error e=>exact Y
    |ok B =>
     cases B with
     |ret r =>
      obtain⟨rfl,H⟩:=Y
      repeat (any_goals (first|assumption|wp_step))
      exact h _ H
     |_=>exact Y.elim
  |_=>exact N.elim
end
open PyProof.Rows (F.entry_set_update_loop F.plain_set_update_loop)
section
variable{prog:Program}{w:World}{K:Type}[DecidableEq K]{knd:KeyKind prog w K}{pk:List K×Addr->Prop}{A:Around}{E:Y1}{s:Shared}
def U0{wr:X9}(G:IsTupleKey knd h Z p)(Y:p∉wr)(T:∀b o,b∉wr->h.get? b=some o->U.get? b=some o):IsTupleKey knd U Z p:=
 let ⟨o,items,n,ho,r⟩:=G;⟨o,items,n,T p o Y ho,r⟩
def Eo.moved{wr:X9}(G:Eo knd pk h a S n)(J:a∉wr)(O:∀(b:Addr) (Z:List K),b∈wr->¬IsTupleKey knd h Z b)(T:∀b o,b∉wr->h.get? b=some o->U.get? b=some o):Eo knd pk U a S n:=
 let ⟨xs,o,es,ep,t,X,r⟩:=G
 ⟨xs,o,es,ep,t,⟨T a o J X.get,X.exa,X.dat,X.tab,X.ent,λx Y=>⟨U0 (X.keys x Y).1 (λB=>O _ _ B (X.keys x Y).1) T,(X.keys x Y).2⟩,X.nod,X.led,X.pla⟩,r⟩
def auu(q6:Uy knd pk){I:Addr}{P:Nat->Value->Prop}(hu:A.in1.units<cLine)(W:WalksS prog w A.in1 I fp wr G n P St)(a:Addr)(S:a∉fp)(Y:List (List K×Addr))(H:Y.length=n)(q1:∀i v x,P i v->Y[i]?=some x->v=.ref x.2)(qv:∀x∈Y,pk x)(O:n<31)(U:∀x∈Y,x.2∉wr)(F:∀i (s:Shared),St i s->∀(b:Addr) (Y:List K),b∈wr->¬IsTupleKey knd s.heap Y b) :
 ∀(k i Q:Nat)(s:Shared),n-i=k->i<=n->St i s->(∀x∈Y,IsTupleKey knd s.heap x.1 x.2) ->
  Eo knd pk s.heap a (λk'=>k'∈(Y.take i).map (·.1)) Q->Q<=i ->
  (∀Z q3,Moved (a::wr) G s Z->Eo knd pk Z.heap a (λk'=>k'∈Y.map (·.1)) q3->R (.ok (.ret .none)) Z) ->
  codeAny (model prog w) A (.builtin "set.update.loop" ⟨[.ref a,.ref I],[]⟩) R s:=by
 have M:a∉wr:=λh=>S (W.sub _ h)
 have V:∀b∈wr,b∈a::wr:=λb O=>bw _ O
 intro k
 induction k with
 |zero =>
  intro i Q s hk hi L Xj hS Q0 hR;have Zr:i=n:=by lia
  subst Zr;refine p7 uy ?_;rw[m5 ou _];show wpAny _ A.in1 (pyNext (.ref I)>>=_) _ _ s;refine aa (W.done s _ _ L λZ C=>?_);show wpAny _ A.in1 (ret Value.none) _ _ Z;refine aj (hR Z Q (C.mono V) ((hS.moved M (F _ s L) C.heap).congr λk=>?_));rw[Ay (f_ H)]
 |succ k ih =>
  intro i Q s hk hi L Xj hS Q0 hR;have Hv:i<n:=by lia
  refine p7 uy ?_;rw[m5 ou _];show wpAny _ A.in1 (pyNext (.ref I)>>=_) _ _ s;refine aa (W.item i s _ _ Hv L λv Z hP q4 C=>?_);have lx:i<Y.length:=b_ Hv (g_ H)
  have N:Y[i]?=some Y[i]:=by simp[lx]
  obtain rfl:=q1 i v _ hP N;have B:=my lx;have Xk:=hS.moved M (F _ s L) C.heap;have J:∀x∈Y,IsTupleKey knd Z.heap x.1 x.2:=λx D=>U0 (Xj x D) (U x D) C.heap
  show wpAny _ A.in1 (holding [Value.ref Y[i].2] (setAdd a (.ref Y[i].2))>>=_) _ _ Z;refine aa (jh ?_);unfold setAdd;refine jh ?_;refine aa (wpAny_pyHash_tuple hu (J _ B) ?_);refine abi (s:={ Z with toks:=Z.toks+(Y[i].1.length+1) }) q6 hu (J _ B) (qv _ B) Xk (by lia) λh' n2 b T X Wy=>?_
  obtain⟨oa,q8,zq,ta,qq,zz,qk,q7⟩:=Xk.get;refine aj ⟨plainId_quiet ou _,ih (i+1) n2 _ (by lia) Hv (W.frame _ Z _ _ q4 (Bv _ _) λb O o e=>?_) (λx D=>anz (J x D) qq qk T) (X.congr λk=>?_) (a_ Wy (v_ Q0)) λq2 n3 q5 q0=>?_⟩
  .rw[T.2 b (λh:b=a=>S (by rw[<-h];exact O))];exact e
  .rw[List.take_add_one,iu,dw,N];simp
  .refine hR q2 n3 (Moved.trans W.gtrans ((C.mono V).then_heap (Bv _ _) λb o O e=>?_) q5) q0
   rw[T.2 b (λh:b=a=>O (by rw[h];exact fc))];exact e
def an5(qk:Uy knd pk){id:String}{ks:List (List K×Addr)}(hh:A.handled=none)(hu:A.in1.units+1<cLine)(hS:Eo knd pk s.heap a (λ_=>False) 0)(L:s.heap.IsList l items)(P:items.toList=ks.map λx=>.ref x.2)(Xj:∀x∈ks,IsTupleKey knd s.heap x.1 x.2)(M:∀x∈ks,pk x)(C:ks.length<31)(h:∀Z tk n',(∀b o,b≠a->s.heap.get? b=some o->Z.get? b=some o)->Eo knd pk Z a (λk=>k∈ks.map (·.1)) n'->Q () { s with heap:=Z,toks:=tk }) :
 wpAny (model prog w) A (Builtin.Frozenset.updateFrom id a (.ref l)) Q E s:=by
 have hT:s.TypeIs (.ref l) "list":= let ⟨o,Y,G,_⟩:=L;⟨o,Y,G⟩;have B:items.size=ks.length:=by rw[<-u9,P];simp
 obtain⟨oa,q1,q2,ta,T,q3,O,q0⟩:=hS.get;unfold Builtin.Frozenset.updateFrom;refine aa (Hw hT F.sub_list_set F.sub_list_frozenset ?_);simp only[du,jq];refine aa (vo hT ?_);rw[cj (by decide)];refine aa (wpAny_pyIter_list L ?_);refine aa (wpAny_runValue ?_);have Hv:l<s.heap.objs.size:=let ⟨o,Y,_⟩:=L;bu Y
 have D:a<s.heap.objs.size:=bu T
 have I:l≠a:=by rintro rfl;obtain⟨o,Y,_,n,hd⟩:=L;rw[Y]at T;cases T;rw[hd]at O;cases O
 have W:l≠s.heap.objs.size:=gh Hv;have V:a∉[s.heap.objs.size,l]:=by simp only[dh,vq,or_false,not_or];exact⟨gh D,λe=>I e.symm⟩
 have keep:∀b o,s.heap.get? b=some o->(s.heap.push { cls:=.type "list_iterator",data:=.fields #[.ref l,.int 0 0] }).get? b=some o:=λb o e=>au _ e
 refine auu qk (by lia) ((Walks.list (by simp[hh]) _ l W items).toS) a V ks B.symm (λi v x hv N=>?_) M (c_ (f_ B) C) (λx N G=>?_) (λi s' st b kk S qv=>?_) items.size 0 0 _ rfl (jd _)
  ⟨⟨_,cu _ rfl,rfl,rfl⟩,L.push _⟩ (λx N=>U0 (wr:=[]) (Xj x N) (by simp) λb o _ e=>keep b o e) ?_ (bz _) ?_
 .have:items.toList[i]?=some v:=by simpa using hv
  rw[P,ig,N]at this;exact(lg this).symm
 .simp at G
  obtain⟨o,_,_,Y,_⟩:=Xj x N;have:=bu Y;rw[G]at this;exact uc _ this
 .simp at S
  subst S;obtain⟨o,_,_,Y,G,_⟩:=qv;obtain⟨⟨o',J,R,_⟩,_⟩:=st;rw[Y]at J;cases J;rw[G]at R;exact absurd R (by decide)
 .refine(hS.moved (wr:=[]) (by simp) (by simp) λb o _ e=>keep b o e).congr λk=>by simp
 .intro s' U H Xk
  obtain⟨Z,g',d',qq,X⟩:=s';have eg:g'=s.gens:=H.gens;have ed:d'=s.drawn:=H.drawn;have eo:X=s.os:=H.os;subst eg;subst ed;subst eo;show wpAny _ _ _ _ _ _;refine aj (h Z qq U (λb o S e=>?_) Xk);refine H.heap b o ?_ (keep b o e);simp only[dh,vq,or_false,not_or];exact⟨S,gh (bu e)⟩
end
theorem Xl{T:Type}:∀{l:List T}{i:Nat}(h:i<l.length),(l[i]::l.eraseIdx i).Perm l
 |x::l,0,_=>Ah _
 |x::l,i+1,h=>by
  have Y:=Xl (l:=l) (i:=i) (by simpa using h);simp only[List.getElem_cons_succ,List.eraseIdx_cons_succ];exact(List.Perm.swap x _ _).trans (Y.cons x)
theorem ail{G:Type}(nx:Nat->Nat):∀(T k:Nat)(Y:List G)(out:Array G),Y.length=T->(pickOrder.go nx T k Y out).toList.Perm (out.toList++Y)
 |0,k,Y,out,h=>by
  have:Y=[]:=ue.mp h;subst this;unfold pickOrder.go;simp
 |T+1,k,Y,out,h=>by
  unfold pickOrder.go;have J:nx k%Y.length<Y.length:=Nat.mod_lt _ (by lia)
  rw[bx J];dsimp only;refine(ail nx T (k+1) _ _ (by rw[List.length_eraseIdx];split<;>lia)).trans ?_;rw[Bl,wj];refine List.Perm.append_left _ ?_;exact Xl J
def aab(nx:Nat->Nat)(Y:Array α):(pickOrder nx Y).toList.Perm Y.toList:=by unfold pickOrder;simpa using ail nx Y.size 0 Y.toList #[] (by simp)
theorem Xm{G:Type}[DecidableEq G]:∀{Y l2:List G},Y.Nodup->Y ⊆ l2->l2.length<=Y.length->∀x∈l2,x∈Y
 |[],l2,_,_,h,x,hx=>by
  have:l2=[]:=ue.mp (by simpa using h);subst this;simp at hx
 |a::Y,l2,hn,hs,h,x,hx=>by
  by_cases e:x=a
  .subst e;exact fc
  .refine bw _ ?_
   have B:a∈l2:=hs fc;have T:=uf.mp hn;refine Xm (l2:=l2.erase a) T.2 (λy J=>?_) ?_ x ((List.mem_erase_of_ne e).mpr hx)
   .exact(List.mem_erase_of_ne (λ(e:y=a)=>T.1 (by rw[<-e];exact J))).mpr (hs (bw _ J))
   .rw[List.length_erase_of_mem B];simp at h;omega
def abk:entryFor table "set.__ne__"= some Builtin.«frozenset.__ne__»:=
 entryFor_alias (id' :="frozenset.__ne__") (by kernel_rfl) rfl (by decide+kernel) (by kernel_rfl)
def sub_set_frozenset:isSubtype (.type "set") (.type "frozenset")=pure false:=by rw[isSubtype_type];kernel_rfl
section
variable{prog:Program}{w:World}{K:Type}[DecidableEq K]{knd:KeyKind prog w K}{pk:List K×Addr->Prop}{A:Around}{E:Y1}{s:Shared}
def auy(X:Uz knd pk s.heap a xs o Z U t)(h:∀l,l.toList.Perm Z.toList->Q l s):wpAny (model prog w) A (setWalk a) Q E s:=by
 unfold setWalk;refine aa (j8 X.get X.dat X.tab.fits ?_);dsimp only;refine aa (Ww ?_);split
 .exact aa (wpAny_askSetting (aj (h _ (aab _ _))))
 .rename_i T
  have T:bt w=false:=by simpa using T
  split
  .rename_i Y
   have Y:(!t.plain&&decide (Z.size > 1))=true:=Y;rw[X.pla]at Y;cases Y
  .refine aa ?_
   have:wpAny (model prog w) A (if(!t.led&&decide (Z.size > 1))=true then unsupported "set:maker-not-led" else pure ()) (λ_ G=>wpAny (model prog w) A (pure Z) Q E G) E s:=by rw[X.led,T];simp only[Ag,qz,Bool.false_and,du,jq];exact aj (aj (h Z (Ah _)))
   exact this
def akx(Y:IsTupleKey knd s.heap Z a)(h:Q false s):wpAny (model prog w) A (Builtin.Frozenset.quietEq (.ref a)) Q E s:=by
 unfold Builtin.Frozenset.quietEq;refine aa (wpAny_specialOf Y.typeIs F.slot_tuple_eq.lookup ?_);refine aj ?_;have:(some (Value.builtin "tuple.__eq__")==some (Value.builtin "object.__eq__"))=false:=by decide
 rw[this];exact h
def abl(X:Uz knd pk h a U o Z ep t)(Y:e∈Z.toList):∃x∈U,e=ent knd x:=by rw[X.ent]at Y;obtain⟨x,T,rfl⟩:=bf.mp Y;exact⟨x,T,rfl⟩
def aky(X:Uz knd pk s.heap a xs o es ep t)(Y:Uz knd pk s.heap b ys o' Z U t')(h:∀l:List (Int×Value),l.Perm es.toList->Q l s):wpAny (model prog w) A (Builtin.Frozenset.walkUnseen a b) Q E s:=by
 unfold Builtin.Frozenset.walkUnseen;refine aa (nq X.get X.dat X.tab.fits ?_);refine aa (nq Y.get Y.dat Y.tab.fits ?_);refine aa ?_;refine qj _ (λT r B=>r.1=none/\B=s/\∀e∈T,∃N p,e.2=.ref p/\IsTupleKey knd s.heap N p) _ ?_ ?_ _ _ ⟨rfl,rfl,λe G=>?_⟩
 .rintro e T r B ⟨O,rfl,P⟩
  obtain⟨N,p,C,L⟩:=P e fc;obtain⟨W,S⟩:=e;subst C;dsimp only;refine aa (akx L ?_);simp only[Ag,lz];unfold Builtin.Frozenset.walk;refine aa (aa (auy X λl R=>aj ?_));exact aj (aj (h _ R))
 .rintro⟨H,V⟩ B ⟨O,rfl,_⟩
  simp only at O;subst O;exact aj (h _ (Ah _))
 .rcases dw.mp G with G|G
  .obtain⟨x,J,rfl⟩:=abl X G
   exact⟨x.1,x.2,rfl,(X.keys x J).1⟩
  .obtain⟨x,J,rfl⟩:=abl Y G
   exact⟨x.1,x.2,rfl,(Y.keys x J).1⟩
def a07{id:String}(hu:A.units<cLine)(Z:Eo knd pk s.heap a S n)(I:Eo knd pk s.heap b T m)(h:∀c:Bool,(c=true↔n<=m/\∀k,S k->T k)->Q c s):wpAny (model prog w) A (Builtin.Frozenset.subsetOf id a b) Q E s:=by
 have P:=I;obtain⟨V,o,es,ep,t,X,H,hn,_⟩:=Z;obtain⟨ys,o',D,qq,t',Y,qk,Q0,_⟩:=I;have h1:=X.size;have h2:=Y.size;unfold Builtin.Frozenset.subsetOf Builtin.Frozenset.sizeOf;refine aa (aa (nq X.get X.dat X.tab.fits (aj ?_)));refine aa (aa (nq Y.get Y.dat Y.tab.fits (aj ?_)));split
 .exact aj (h false (by simp;lia))
 .refine aa (wpAny_setEpoch_of X.get X.dat X.tab.fits ?_)
  refine aa (aky X Y λl F=>?_);refine aa ?_;refine qj _ (λJ r L=>r.1=none/\L=s/\(∀e∈J,∃x∈V,e=ent knd x)/\∀x∈V,ent knd x∈J\/T x.1) _ ?_ ?_ _ _ ⟨rfl,rfl,λe N=>abl X (F.mem_iff.mp N),λx B=>.inl (F.mem_iff.mpr (by rw[X.ent];exact bf.mpr ⟨x,B,rfl⟩))⟩
  .rintro e J r L ⟨C,rfl,W,O⟩
   obtain⟨x,B,rfl⟩:=W e fc;show wpAny _ _ (holding [.ref x.2] (setFind b (.ref x.2) (tupleKeyHash knd x.1))>>=_) _ _ _;refine aa (jh (aun hu (X.keys x B).1 P λr C=>?_));cases r with
   |none =>
    simp only[Option.isNone_none,lz];refine aj (aj (h false ?_));simp only[du,false_iff,not_and,Classical.not_forall];intro _;refine⟨x.1,(H x.1).mpr (bf.mpr ⟨x,B,rfl⟩),λG=>?_⟩;have:=C.mpr G;cases this
   |some i =>
    simp only[Option.isNone_some,du,jq];unfold Builtin.Frozenset.unchanged;refine aa (aa (wpAny_setEpoch_of X.get X.dat X.tab.fits ?_));rw[cj (by simp)];refine aj (aj ⟨rfl,rfl,λe N=>W e (bw _ N),λy M=>?_⟩);rcases O y M with G|G
    .rcases dh.mp G with G|G
     .right
      have R:T x.1:=C.mp rfl;have e2:y.2=x.2:=by have:=qt Prod.snd G;unfold ent at this;injection this
      have:y.1=x.1:=IsTupleKey.inj (X.keys y M).1 (by rw[e2];exact(X.keys x B).1);rw[this];exact R
     .exact .inl G
    .exact .inr G
  .rintro⟨r1,r2⟩ L ⟨C,rfl,_,O⟩
   simp only at C;subst C;refine aj (h true ?_);simp only[true_iff];refine⟨by lia,λk U=>?_⟩;obtain⟨x,B,rfl⟩:=bf.mp ((H k).mp U);rcases O x B with G|G
   .simp at G
   .exact G
def a8h(hu:A.in1.units<cLine)(W:A.units<cLine)(J:Eo knd pk s.heap a S n)(C:Eo knd pk s.heap b T m)(h:∀c:Bool,(c=true↔¬∀k,S k↔T k)->Q (.bool c) s):wpAny (model prog w) A (compareOp .NotEq (.ref a) (.ref b)) Q E s:=by
 show wpAny _ _ (richCompare .NotEq (.ref a) (.ref b)) _ _ _;refine wpAny_richCompare_same_room (op:=.NotEq) J.typeIs C.typeIs F.slot_set_ne (jt F.slot_set_ne J.typeIs abk ?_ (F.args_set_ne_2 _ _)) W;have fin:∀c:Bool,(c=true↔∀k,S k↔T k)->Q (.bool !c) s:=λc M=>h _ (by cases c<;>simp_all)
 have U:=J;have V:=C;obtain⟨xs,o,es,ep,t,X,N,L,_⟩:=U;obtain⟨Z,o',D,qq,t',Y,G,P,_⟩:=V;have h1:=X.size;have h2:=Y.size;have same:(∀k,S k↔T k)->n=m:=λe=>by
  have:(xs.map (·.1)).Perm (Z.map (·.1)):=(List.perm_ext_iff_of_nodup X.nod Y.nod).mpr λk=>by rw[<-N k,<-G k];exact e k
  have:=this.length_eq;simp at this;exact u_ (a_ (g_ L) (a_ (f_ this) (f_ P))) (a_ (g_ P) (a_ (g_ this) (f_ L)))
 have B:n=m->(∀k,S k->T k)->∀k,S k↔T k:=λe I k=>⟨I k,λR=>(N k).mpr (Xm X.nod (λk R=>(G k).mp (I k ((N k).mpr R))) (by simp;exact a_ (f_ P) (a_ (g_ e) (g_ L))) k ((G k).mp R))⟩
 show wpAny _ _ (Builtin.Frozenset.slot1 "__ne__" ⟨[.ref a,.ref b],[]⟩>>=_) _ _ _;unfold Builtin.Frozenset.slot1 slotArgs;simp only[List.isEmpty_nil,qz,du,↓reduceIte,bind_assoc,iw,List.length_nil,ym];refine aa (aj ?_)
 try dsimp only
 refine aa (aj ?_)
 try dsimp only
 refine aa (bec C.typeIs ?_);simp only[qz,du,↓reduceIte];refine aa (m:=Builtin.Frozenset.addrOf (.ref a)) (aj ?_);refine aa (m:=Builtin.Frozenset.addrOf (.ref b)) (aj ?_);unfold Builtin.Frozenset.sizeOf;refine aa (aa (nq X.get X.dat X.tab.fits (aj ?_)));refine aa (aa (nq Y.get Y.dat Y.tab.fits (aj ?_)));refine aa ?_;split
 .rename_i H
  refine aj ?_;refine aj ⟨_,rfl,(λe=>nomatch e),fin false ?_⟩;simp only[du,false_iff];intro e;have:=same e;simp at H;lia
 .rename_i H
  have O:n=m:=by simp at H;lia
  refine aa (aa (o5 J.typeIs sub_set_frozenset ?_));refine aj ?_;simp only[du,↓reduceIte];refine a07 hu J C λc M=>?_
  exact aj ⟨_,rfl,(λe=>nomatch e),fin c (M.trans ⟨λe=>B O e.2,λe=>⟨f_ O,λk=>(e k).mp⟩⟩)⟩
end
def aim{prog:Program}{w:World}{A:Around}{Y:Type}{Q:Y->Shared->Prop}{E:Y1}{s:Shared}(T:A.handled=none)(q:∀Z x,(∀b o,s.heap.get? b=some o->Z.get? b=some o)->(∃o,Z.get? x=some o/\o.cls=.type "StopIteration")->E (.ref x) { s with heap:=Z }):wpAny (model prog w) A (newExc (.type "StopIteration") []>>=raiseNew) Q E s:=by simp only[newExc,newTuple];refine aa (aa (uq (aa (m:=firstArgMember _ _) (wpAny_of_eq (a:=Value.none) (by first|rfl|(simp only[firstArgMember];rfl)) (uq ?_ (by size_fits)))) (by size_fits)));simp only[raiseNew];refine aa (wpAny_handled ?_);rw[T];exact aa (aj (wpAny_throw (q _ _ (λb o e=>au _ (au _ e)) ⟨_,cu _ rfl,rfl⟩)))
def auz(k:Z7 t Z)(F:Fst t h N)(room:t.place.size+1<=t.mask) :
 layNew t Z h x=(insertAt Z (t.put (P t.mask h N).j).2 (h,x),(t.put (P t.mask h N).j).1,false,false):=by
 have e:t.freeSlot h=some ((P t.mask h N).j,false):=by
  unfold freeSlot probe;rw[adt];rcases anp k F (λ_=>h+1) (10*turns t.mask) 0 (jd _) (by have:=F.lt;exact c_ C_ this)with⟨a,_⟩|⟨m,i,_,_,_,c,_⟩
  .rw[a];rfl
  .lia
 have f:=(k.put (x:=x) F room).fits;unfold layNew;rw[e];show(insertAt Z (t.put (P t.mask h N).j).2 (h,x),(t.put (P t.mask h N).j).1.orStandIn (insertAt Z (t.put (P t.mask h N).j).2 (h,x)).size,false,!(t.put (P t.mask h N).j).1.fits (insertAt Z (t.put (P t.mask h N).j).2 (h,x)).size)=_;unfold orStandIn;rw[dj f,f];rfl
def akz(C:Msk (sizeAbove wanted-1))(O:es.size<=sizeAbove wanted-1) :
 ∃Z t',relayAll t es wanted=(Z,t',false)/\t'.mask=sizeAbove wanted-1/\Z7 t' Z/\Z.toList.Perm es.toList/\t'.led=t.led/\t'.plain=t.plain:=by
 obtain⟨t',Y,e,B,G,p,sz,N,J,_,T⟩:=aif C t.finger (t.movedTo (sizeAbove wanted-1)) t.led t.plain es O;have L:t.relaid (es.map (·.1)) wanted=some (t',Y):=e;refine⟨Y.filterMap (es[·]?),t',?_,B,G,p,N,J⟩;unfold relayAll;rw[L];dsimp only;rw[dj];rw[az];exact⟨by unfold coversAll;exact List.isPerm_iff.mpr T,G.fits⟩
noncomputable def enI(x:Int×Tok):Int×Value:=(hashInt x.1,.int x.1 x.2)
structure Mr(w:World)(h:Heap)(a:Addr)(xs:List (Int×Tok))(o:Obj)(es:Array (Int×Value))(ep:Nat)(t:SetTable):Prop where
 get:h.get? a=some o
 exa:o.ExactSet
 dat:o.data=.set es ep t
 tab:Z7 t es
 ent:es.toList=xs.map enI
 nod:(xs.map (·.1)).Nodup
 led:t.led=!bt w
 pla:t.plain=true
def Dr(w:World)(h:Heap)(a:Addr)(S:Int->Prop)(n:Nat):Prop:=∃Y o T G t,Mr w h a Y o T G t/\(∀k,S k↔k∈Y.map (·.1))/\Y.length=n/\t.place.size*5<t.mask*3
theorem Mr.size(X:Mr w h a U o Z ep t):Z.size=U.length:=by have:=qt List.length X.ent;simpa using this
def Mr.elems(X:Mr w h a xs o Z U t):ElemsOf (intKind prog w) Z.toList:=λe Y=>by rw[X.ent]at Y;obtain⟨x,_,rfl⟩:=bf.mp Y;exact⟨⟨x.1,by simp[enI,intKind,Value.isInt],rfl⟩,rfl⟩
def a8i(X:Mr w h a xs o es ep t)(B:Z7 t' Z)(J:Z.toList=U.map enI)(T:(U.map (·.1)).Nodup)(G:t'.led=!bt w)(Y:t'.plain=true) :
 Mr w (h.update a (Obj.putSet Z t')) a U { o with data:=.set Z (ep+1) t' } Z (ep+1) t':=by
 have O:(h.update a (Obj.putSet Z t')).get? a=some { o with data:=.set Z (ep+1) t' }:=by have:=o6 (Obj.putSet Z t') X.get (by rw[putSet_of Z t' X.dat];rfl);rw[putSet_of Z t' X.dat]at this;exact this
 exact⟨O,X.exa,rfl,B,J,T,G,Y⟩
theorem Dr.get(Y:Dr w h a S n):∃o Z U t,h.get? a=some o/\o.ExactSet/\o.data=.set Z U t/\t.fits Z.size=true:=
 let ⟨_,o,Z,U,t,X,_⟩:=Y;⟨o,Z,U,t,X.get,X.exa,X.dat,X.tab.fits⟩
theorem agu:∀{a b:Xs},a.Nodup->(∀x∈a,x∈b)->a.length<=b.length
 |[],_,_,_=>jd _
 |x::a,b,h,s=>by
  obtain⟨T,G⟩:=uf.mp h;have:=agu (b:=b.erase x) G λy Y=>(List.mem_erase_of_ne (λe:y=x=>T (e▸Y))).mpr (s y (.tail _ Y))
  rw[List.length_erase_of_mem (s x (.head _))]at this;have:=List.length_pos_of_mem (s x (.head _));rw[iw];lia
def Dr.le(G:Dr w h a S n){B:Xs}(Y:∀k,S k->k∈B):n<=B.length:=by obtain⟨N,o,C,O,t,X,T,rfl,_⟩:=G;rw[<-dm (f:=(·.1))];exact agu X.nod λk J=>Y k ((T k).mpr J)
def Dr.congr(G:Dr w h a S n)(e:∀k,S k↔Z k):Dr w h a Z n:=
 by obtain⟨B,o,J,Y,t,X,T,r⟩:=G;exact⟨B,o,J,Y,t,X,λk=>(e k).symm.trans (T k),r⟩
def Dr.moved(Y:Dr w h a S n)(T:∀o,h.get? a=some o->Z.get? a=some o):Dr w Z a S n:=
 let ⟨xs,o,es,ep,t,X,r⟩:=Y
 ⟨xs,o,es,ep,t,⟨T o X.get,X.exa,X.dat,X.tab,X.ent,X.nod,X.led,X.pla⟩,r⟩
def an8(Y:h.get? a=some (Bw w)):Dr w h a (λ_=>False) 0:=
 ⟨[],Bw w,#[],0,_,⟨Y,⟨rfl,rfl,rfl⟩,rfl,⟨.inl rfl,rfl,rfl,λi j a b e=>by simp[SetTable.fresh]at e,λi j e=>by simp[SetTable.fresh]at e,by simp[SetTable.fresh],λi j e a=>by simp[SetTable.fresh]at a⟩,
  rfl,Bs,rfl,rfl⟩,λk=>by simp,rfl,by simp[SetTable.fresh]⟩
def au0(hS:Dr w s.heap a S n)(hn:n+1<32)(h:∀h' n' b,Heap.SameBut a s.heap h'->Dr w h' a (λZ=>S Z\/Z=k) n'->n'<=n+1->Q b { s with heap:=h' }) :
 wpAny (model prog w) A (setAddHashed a (.int k U) (hashInt k)) Q E s:=by
 obtain⟨I,o,T,ep,t,X,hm,hl,nf⟩:=hS;obtain⟨N,F⟩:=X.tab.fst (hashInt k);have qq:=X.size;have W:=X.elems (prog:=prog);have q3:(intKind prog w).is k (.int k U)=true:=by simp[intKind,Value.isInt]
 unfold setAddHashed setAddHashedIn;refine jh (aa (j8 X.get X.dat X.tab.fits ?_));dsimp only;rw[byScan_of (knd:=intKind prog w) (x:=.int k U) rfl (by unfold scanBound;lia) W];simp only[↓reduceIte];unfold setAddByScan;refine aa ?_;refine aa (o4 ?_);refine aa (wpAny_setScan_of (knd:=intKind prog w) (k:=k) q3 X.get X.dat X.tab.fits W ?_);cases hr:List.findIdx? (λe=>(intKind prog w).is k e.2) T.toList with
 |some j =>
  dsimp only;obtain⟨hj,q7,_⟩:=q9.mp hr;have q1:S k:=by
   obtain⟨x,L,D⟩:∃x∈I,enI x=T.toList[j]:=by have C:=my hj;generalize T.toList[j]=e at C;rw[X.ent]at C;exact bf.mp C
   have qv:(intKind prog w).is k (enI x).2=true:=by rw[D];exact q7
   refine(hm k).mpr (bf.mpr ⟨x,L,?_⟩);have:(intKind prog w).is x.1 (enI x).2=true:=by simp[enI,intKind,Value.isInt]
   exact(intKind prog w).inj _ _ _ this qv
  refine aj (aj ?_);have:=h s.heap n false (Heap.SameBut.refl a s.heap) ⟨I,o,T,ep,t,X,λZ=>by
   rw[<-hm Z];exact⟨λh=>h.elim id (λe=>e▸q1),.inl⟩,hl,nf⟩ x_
  exact this
 |none =>
  dsimp only;have q6:∀x∈I,x.1≠k:=λx L e=>by have:=xj.mp hr (enI x) (by rw[X.ent];exact bf.mpr ⟨x,L,rfl⟩);subst e;simp[enI,intKind,Value.isInt]at this
  have room:t.place.size+1<=t.mask:=by have:=X.tab.msk;rcases this with e|e|e|e|e<;>lia
  have T':=X.tab.put (x:=.int k U) F room;rw[auz X.tab F room];have J6:(t.put (P t.mask (hashInt k) N).j).1.plain=true:=X.pla;have H:(t.put (P t.mask (hashInt k) N).j).1.led=!bt w:=X.led;obtain⟨J,D,px⟩:=Fb (f:=enI) (insertAt_perm T (t.put (P t.mask (hashInt k) N).j).2 (hashInt k,.int k U)) (xs:=I++[(k,U)]) (by rw[Bl,X.ent,iu];rfl);have pm:=px.map (·.1);have V:(J.map (·.1)).Nodup:=pm.nodup_iff.mpr (by
   rw[iu,Aa];refine⟨X.nod,by simp,λa ha b hb=>?_⟩;simp at hb;subst hb;rintro rfl;obtain⟨x,L,e⟩:=bf.mp ha;exact q6 x L e)
  have hX:=a8i X T' D V H J6;have C:∀Z,(S Z\/Z=k)↔Z∈J.map (·.1):=λZ=>by rw[pm.mem_iff,iu,dw,hm Z];simp
  have B:J.length=n+1:=by rw[px.length_eq];simp[hl]
  have G:(insertAt T (t.put (P t.mask (hashInt k) N).j).2 (hashInt k,Value.int k U)).size=T.size+1:=Ow _ _ _;have K:(t.put (P t.mask (hashInt k) N).j).1.place.size=T.size+1:=by rw[T'.Z8,G]
  have hf:(t.put (P t.mask (hashInt k) N).j).1.fill=T.size+1:=by unfold fill;rw[K,T'.dum];rfl
  generalize insertAt T (t.put (P t.mask (hashInt k) N).j).2 (hashInt k,Value.int k U)=es1 at *;generalize(t.put (P t.mask (hashInt k) N).j).1=t1 at *;dsimp only;refine aa (aj ?_);rw[J6];simp only[lz];refine aa ?_;rw[hashByValue_scannable 8 (x:=.int k U) rfl];refine aj ?_;have q0:plainKind (.int k U)=true:=rfl;simp only[q0,lz];refine aa (wpAny_storeSet_of X.get X.dat ?_ (Lf (by lia)))
  by_cases Y:t1.tooFull=true
  .rw[Y]
   simp only[Ag,Bool.and_self,lz];obtain⟨g1,g2,g3,g4,g5⟩:=aaa (T.size+1) (c_ (v_ (f_ qq)) (c_ (v_ (f_ hl)) hn));obtain⟨R,t2,e2,m2,T2,p2,l2,q2⟩:=akz (t:=t1) (es:=es1) (wanted:=grown (T.size+1)) g1 (a_ (f_ G) g2);rw[G,e2];dsimp only;refine aa (aj ?_);obtain⟨q4,q5,O⟩:=Fb p2 D;have qk:=a8i hX T2 q5 ((O.map _).nodup_iff.mpr V) (l2.trans H) (q2.trans J6);have M:R.size=T.size+1:=by have:=p2.length_eq;simp at this;exact this.trans G
   refine aa (wpAny_storeSet_of hX.get rfl ?_ (Lf (a_ (f_ M) (a_ g2 (a_ C_ g5)))));refine aj (aj (h _ (n+1) true ((jw s.heap a _).trans (jw _ a _)) ⟨q4,_,R,_,t2,qk,λZ=>?_,by rw[O.length_eq,B],?_⟩ (bz _)))
   .exact(C Z).trans (O.map (·.1)).mem_iff.symm
   .rw[T2.Z8,m2,M];exact t_ g4
  .rw[Bool.not_eq_true]at Y
   rw[Y];simp only[Bool.and_false,du,jq];refine aj (aj (h _ (n+1) true (jw s.heap a _) ⟨J,_,_,_,_,hX,C,B,?_⟩ (bz _)));unfold tooFull at Y;rw[hf]at Y;rw[K];simp at Y;exact Y
def an9{I:Addr}{P:Nat->Value->Prop}(W:WalksS prog w A.in1 I fp wr G n P St)(a:Addr)(N:a∉fp)(Y:Xs)(E:Y.length=n)(X:∀i v x,P i v->Y[i]?=some x->∃tk,v=.int x tk){B:Xs}(hB:∀k∈Y,k∈B)(T:B.length<31) :
 ∀(k i L:Nat)(s:Shared),n-i=k->i<=n->St i s ->
  Dr w s.heap a (λk'=>k'∈Y.take i) L->L<=B.length ->
  (∀Z U,Moved (a::wr) G s Z->Dr w Z.heap a (λk'=>k'∈Y) U->U<=B.length->R (.ok (.ret .none)) Z) ->
  codeAny (model prog w) A (.builtin "set.update.loop" ⟨[.ref a,.ref I],[]⟩) R s:=by
 have H:a∉wr:=λh=>N (W.sub _ h)
 have Q:∀b∈wr,b∈a::wr:=λb T=>bw _ T
 intro k
 induction k with
 |zero =>
  intro i L s M hi F K Q0 hR;have Zr:i=n:=by lia
  subst Zr;refine p7 uy ?_;rw[m5 ou _];show wpAny _ A.in1 (pyNext (.ref I)>>=_) _ _ s;refine aa (W.done s _ _ F λZ O=>?_);show wpAny _ A.in1 (ret Value.none) _ _ Z;refine aj (hR Z L (O.mono Q) ((K.moved λo=>O.heap a o H).congr λk=>?_) Q0);rw[Ay (f_ E)]
 |succ k ih =>
  intro i L s M hi F K Q0 hR;have Hv:i<n:=by lia
  refine p7 uy ?_;rw[m5 ou _];show wpAny _ A.in1 (pyNext (.ref I)>>=_) _ _ s;refine aa (W.item i s _ _ Hv F λv Z hP qk O=>?_);have lx:i<Y.length:=b_ Hv (g_ E)
  have J:Y[i]?=some Y[i]:=by simp[lx]
  obtain⟨tk,rfl⟩:=X i v _ hP J;have Xk:=K.moved λo=>O.heap a o H
  show wpAny _ A.in1 (holding [Value.int Y[i] tk] (setAdd a (.int Y[i] tk))>>=_) _ _ Z;refine aa (jh ?_);unfold setAdd;refine jh ?_;refine aa (wpAny_pyHash_int ?_);refine au0 (s:={ Z with toks:=Z.toks+1 }) Xk (by lia) λh' n2 b C V Wy=>?_
  have S:Dr w h' a (λk=>k∈Y.take (i+1)) n2:=V.congr λk=>by rw[List.take_add_one,dw,J];simp
  refine aj ⟨plainId_quiet ou _,ih (i+1) n2 _ (by lia) Hv (W.frame _ Z _ _ qk (Bv _ _) λb T o e=>?_) S (S.le λk M=>hB k (List.mem_of_mem_take M)) λqq n3 qv D q0=>?_⟩
  .rw[C.2 b (λh:b=a=>N (by rw[<-h];exact T))];exact e
  .refine hR qq n3 (Moved.trans W.gtrans ((O.mono Q).then_heap (Bv _ _) λb o T e=>?_) qv) D q0
   rw[C.2 b (λh:b=a=>T (by rw[h];exact fc))];exact e
def au1{id T:String}{K L:Obj}{Y:U1}{St:Nat->Heap->Prop}(hS:Dr w s.heap a (λ_=>False) 0)(J:s.heap.get? l=some L)(hc:L.cls=.type T)(F:∀es ep t,L.data≠.set es ep t)(n1:isSubtype (.type T) (.type "set")=pure false)(n2:isSubtype (.type T) (.type "frozenset")=pure false)(nd:(Value.type T==.type "dict")=false)
 (hi:∀{Q:Y1},Q (.ref s.heap.objs.size) { s with heap:=s.heap.push K }->wpAny (model prog w) A (pyIter (.ref l)) Q E s) (W:l≠s.heap.objs.size->Walks prog w A.in1 s.heap.objs.size [s.heap.objs.size,l] [s.heap.objs.size] Y.size (λi v=>Y[i]?=some v) St) (h0:St 0 (s.heap.push K))
 (C:PyProof.Rows.IntsAre Y.toList U) {B:Xs} (hB:∀k∈U,k∈B) (O:B.length<31) (h:∀Z tk n',(∀b o,b≠a->s.heap.get? b=some o->Z.get? b=some o)->Dr w Z a (λk=>k∈U) n'->n'<=B.length->Q () { s with heap:=Z,toks:=tk }) :
 wpAny (model prog w) A (Builtin.Frozenset.updateFrom id a (.ref l)) Q E s:=by
 have hT:s.TypeIs (.ref l) T:=⟨L,J,hc⟩;have P:Y.size=U.length:=by rw[<-u9];exact PyProof.Rows.IntsAre.length C
 obtain⟨oa,qk,qv,ta,G,q0,S,qq⟩:=hS.get;unfold Builtin.Frozenset.updateFrom;refine aa (Hw hT n1 n2 ?_);simp only[du,jq];refine aa (vo hT ?_);rw[cj (by rw[nd];simp)];refine aa (hi ?_);refine aa (wpAny_runValue ?_);have Hv:l<s.heap.objs.size:=bu J
 have V:a<s.heap.objs.size:=bu G
 have H:l≠a:=by rintro rfl;rw[J]at G;cases G;exact F _ _ _ S
 have R:a∉[s.heap.objs.size,l]:=by simp only[dh,vq,or_false,not_or];exact⟨gh V,λe=>H e.symm⟩
 have keep:∀b o,s.heap.get? b=some o->(s.heap.push K).get? b=some o:=λb o e=>au _ e
 refine an9 ((W (gh Hv)).toS) a R U P.symm (λi v x hv hx=>?_) hB O Y.size 0 0 _ rfl (jd _)
  h0 ?_ (jd _) ?_
 .obtain⟨tk,e⟩:=PyProof.Rows.IntsAre.int_at C i v (by rw[m7];exact hv)
  rw[cz,hx]at e;exact⟨tk,e⟩
 .refine(hS.moved λo e=>keep a o e).congr λk=>by simp
 .intro s' I N Xk D
  obtain⟨Z,g',d',X,M⟩:=s';have eg:g'=s.gens:=N.gens;have ed:d'=s.drawn:=N.drawn;have eo:M=s.os:=N.os;subst eg;subst ed;subst eo;show wpAny _ _ _ _ _ _;refine aj (h Z X I (λb o hb e=>?_) Xk D);refine N.heap b o ?_ (keep b o e);simp only[dh,vq,or_false,not_or];exact⟨hb,gh (bu e)⟩
def ak0{id:String}(R:A.handled=none)(P:Dr w s.heap a (λ_=>False) 0)(T:s.heap.IsList l items)(G:PyProof.Rows.IntsAre items.toList U){B:Xs}(N:∀k∈U,k∈B)(Y:B.length<31)(h:∀Z tk n',(∀b o,b≠a->s.heap.get? b=some o->Z.get? b=some o)->Dr w Z a (λk=>k∈U) n'->n'<=B.length->Q () { s with heap:=Z,toks:=tk }) :
 wpAny (model prog w) A (Builtin.Frozenset.updateFrom id a (.ref l)) Q E s:=by
 have J:=T;obtain⟨o,L,S,n,O⟩:=J;exact au1 P L S (λ_ _ _ z=>by rw[O]at z;cases z) F.sub_list_set F.sub_list_frozenset (by decide) (wpAny_pyIter_list T) (λC=>Walks.list (by simp[R]) _ l C items) ⟨⟨_,cu _ rfl,rfl,rfl⟩,T.push _⟩ G N Y h
def ak1(P:A.handled=none)(L:s.heap.IsList l items)(O:PyProof.Rows.IntsAre items.toList ks){B:Xs}(N:∀k∈ks,k∈B)(Y:B.length<31)(h:∀Z tk U,(∀b o,s.heap.get? b=some o->Z.get? b=some o)->Dr w Z s.heap.objs.size (λk=>k∈ks) U->U<=B.length->Q (.ref s.heap.objs.size) { s with heap:=Z,toks:=tk }) :
 wpAny (model prog w) A (call (.type "set") [.ref l]) Q E s:=by
 refine Ox (R:=λC=>∃Z tk U,C={ s with heap:=Z,toks:=tk }/\(∀b o,s.heap.get? b=some o->Z.get? b=some o)/\Dr w Z s.heap.objs.size (λk=>k∈ks) U/\U<=B.length)
  (ak0 (s:={ s with heap:=s.heap.push (Bw w) }) (by simp[P]) (an8 (cu _ rfl)) (L.push _) O N Y λZ tk U T G J=>⟨Z,tk,U,rfl,λb o e=>T b o (gh (bu e)) (au _ e),G,J⟩)
  λC ⟨Z,tk,U,e,T,G,J⟩=>by subst e;exact h Z tk U T G J
def Xn:entryFor table "set.__iter__"= some Builtin.«frozenset.__iter__»:=
 entryFor_alias (id' :="frozenset.__iter__") (by kernel_rfl) rfl (by decide+kernel) (by kernel_rfl)
def Cu:Slot "set_iterator" "__next__" "set_iterator.__next__":=
 .of (owner :="set_iterator") (n :="__next__") (by rw[typeLookup_type,builtinLookup_eq_fast];kernel_rfl) (by decide+kernel) (by decide+kernel) (by decide+kernel)
  (by first|exact .inl (by decide+kernel)|exact .inr (by decide+kernel)) (by rw[isSubtype_type];kernel_rfl)
def Nv:Slot "set_iterator" "__iter__" "set_iterator.__iter__":=
 .of (owner :="set_iterator") (n :="__iter__") (by rw[typeLookup_type,builtinLookup_eq_fast];kernel_rfl) (by decide+kernel) (by decide+kernel) (by decide+kernel)
  (by first|exact .inl (by decide+kernel)|exact .inr (by decide+kernel)) (by rw[isSubtype_type];kernel_rfl)
def Lg:entryFor table "set_iterator.__next__"= some Builtin.«set_iterator.__next__»:=entryFor_of_fast (by kernel_rfl)
def U3:entryFor table "set_iterator.__iter__"= some Builtin.«dict_keyiterator.__iter__»:=
 entryFor_alias (id' :="dict_keyiterator.__iter__") (by kernel_rfl) rfl (by decide+kernel) (by kernel_rfl)
def Nx(a:Value):argsOk "set_iterator.__next__" ⟨[a],[]⟩:=by unfold argsOk;kernel_rfl
def Wq(a:Value):argsOk "set_iterator.__iter__" ⟨[a],[]⟩:=by unfold argsOk;kernel_rfl
def agv(Y:Srt Z):below Z 0=0:=by
 obtain⟨G,T,J⟩:=Gh (j:=0) Y;rcases Nat.eq_zero_or_pos (below Z 0)with e|e
 .exact e
 .have l:0<Z.size:=b_ e G
  have:=T 0 Z[0] (by simp[l]) e
  lia
def agw(Y:Srt Z)(h:Z[i]?=some j):below Z (j+1)=i+1:=by
 obtain⟨C,J,O⟩:=Gh (j:=j+1) Y;have B:i<below Z (j+1):=by
  rcases Av i (below Z (j+1))with l|l
  .exact l
  .have:=O i j h l;lia
 have G:¬i+1<below Z (j+1):=λl=>by
  have N:i+1<Z.size:=b_ l C
  have T:Z[i+1]?=some Z[i+1]:=by simp[N]
  have:=J (i+1) _ T l;have:=Y i (i+1) j _ h T B_
  lia
 exact u_ (s_ G) B
def wkN(w:World)(a:Addr)(Y:Array (Int×Value))(T:Nat):Array (Int×Value):=if bt w then pickOrder (w.params.setOrder a T) Y else Y
def adz:(wkN w a es ep).toList.Perm es.toList:=by
 unfold wkN;split
 .exact aab _ _
 .exact Ah _
def Xo:(wkN w a Z U).size=Z.size:=by have:=(adz (w:=w) (a:=a) (es:=Z) (ep:=U)).length_eq;simpa using this
noncomputable def itN(a:Addr)(Y i n T:Nat):Obj:={ cls:=.type "set_iterator",data:=.fields #[.int Y 0,.int i 0,.ref a,.int n 0,.int T 0] }
def azo(X:Mr w s.heap a xs o es Z t){Y:Nat}(N:bt w=false->below t.place Y=i)(J:∀e U,(wkN w a es Z)[i]?=some e->(bt w=false->below t.place U=i+1)->Q (some (e.2,U)) s)(O:(wkN w a es Z)[i]?=none->Q none s) :
 wpAny (model prog w) A (setNext a Y i Z) Q E s:=by
 unfold setNext;refine aa (j8 X.get X.dat X.tab.fits ?_);dsimp only;refine aa (Ww ?_);cases hbt:bt w with
 |true =>
  simp only[lz,ym,du,jq];refine aa ?_;unfold setWalk;refine aa (j8 X.get X.dat X.tab.fits ?_);dsimp only;refine aa (Ww ?_);rw[hbt];simp only[lz];refine aa (wpAny_askSetting (aj (aj ?_)));have T:wkN w a es Z=pickOrder (w.params.setOrder a Z) es:=by unfold wkN;rw[hbt];rfl
  show Q (((pickOrder (w.params.setOrder a Z) es)[i]?).map _) s;rw[<-T];cases hg:(wkN w a es Z)[i]? with
  |none=>exact O hg|some e=>exact J e Y hg (λc=>by rw[hbt]at c;cases c)
 |false =>
  have T:wkN w a es Z=es:=by unfold wkN;rw[hbt];rfl
  simp only[du,jq];split
  .rename_i G
   have G:(!t.plain&&decide (es.size > 1))=true:=G;rw[X.pla]at G;cases G
  .refine aa ?_
   have fin:Q (match es[below t.place Y]?,t.place[below t.place Y]? with|some (_,x),some j=>some (x,j+1)|_,_=>none) s:=by
    rw[N hbt];cases hg:es[i]? with
    |none=>exact O (by rw[T];exact hg)
    |some e =>
     have C:i<t.place.size:=by rw[X.tab.Z8];exact(j0.mp hg).1
     have B:t.place[i]?=some t.place[i]:=by simp[C]
     rw[B];exact J e _ (by rw[T];exact hg) (λ_=>agw X.tab.srt B)
   have:wpAny (model prog w) A (if(!t.led&&!es.isEmpty)=true then unsupported "set:maker-not-led" else pure ()) (λ_ L=>wpAny (model prog w) A (pure (match es[below t.place Y]?,t.place[below t.place Y]? with|some (_,x),some j=>some (x,j+1)|_,_=>none)) Q E L) E s:=by rw[X.led,hbt];simp only[Ag,qz,Bool.false_and,du,jq];exact aj (aj fin)
   exact this
def aoa{I:Addr}(X:Mr w s.heap a xs o es Z t){Y:Nat}(G:s.heap.get? I=some (itN a Y i es.size Z))(L:bt w=false->below t.place Y=i)(T:(wkN w a es Z)[i]?=some e)(R:∀h' U,h'.get? I=some (itN a U (i+1) es.size Z)->(bt w=false->below t.place U=i+1)->Heap.SameBut I s.heap h'->Q (some e.2) { s with heap:=h' }) :
 wpAny (model prog w) A (pyNext (.ref I)) Q E s:=by
 have N:s.TypeIs (.ref I) "set_iterator":= ⟨_,G,rfl⟩;unfold pyNext;refine aa (w5 (m6 (name:=Str.ofString "__next__") N Cu
  (jt Cu N Lg ?_ (Nx _))))
 unfold Builtin.«set_iterator.__next__»;refine aa (m:=slotArgs "__next__" 0 _) (aj ?_);refine aa (wpAny_fieldsOf G rfl ?_);show wpAny _ _ (setEntries a>>=_) _ _ s;refine aa (nq X.get X.dat X.tab.fits ?_);rw[ym];simp only[du,jq];show wpAny _ _ (setNext a Y i Z>>=_) _ _ s;refine aa (azo X L (λF U B O=>?_) (λP=>by rw[P]at T;cases T));rw[B]at T;cases T;dsimp only;refine aa (jr G (by simp) λV H C=>?_);refine aa (jr (s:={ s with heap:=V }) H (by simp) λW S J=>?_);exact aj ⟨_,rfl,aj (R W U (by rw[S];rfl) O (C.trans J))⟩
def au2{I:Addr}(R:A.handled=none)(X:Mr w s.heap a xs o es Z t){Y:Nat}(G:s.heap.get? I=some (itN a Y i es.size Z))(N:bt w=false->below t.place Y=i)(O:(wkN w a es Z)[i]?=none)(L:∀U,Heap.ExtBut I s.heap U->Q none { s with heap:=U }) :
 wpAny (model prog w) A (pyNext (.ref I)) Q E s:=by
 have C:s.TypeIs (.ref I) "set_iterator":= ⟨_,G,rfl⟩;unfold pyNext;refine aa (w5 (m6 (name:=Str.ofString "__next__") C Cu
  (jt Cu C Lg ?_ (Nx _))))
 unfold Builtin.«set_iterator.__next__»;refine aa (m:=slotArgs "__next__" 0 _) (aj ?_);refine aa (wpAny_fieldsOf G rfl ?_);show wpAny _ _ (setEntries a>>=_) _ _ s;refine aa (nq X.get X.dat X.tab.fits ?_);rw[ym];simp only[du,jq];show wpAny _ _ (setNext a Y i Z>>=_) _ _ s;refine aa (azo X N (λW F J S=>by rw[J]at O;cases O) (λV=>?_));dsimp only;refine aa (jr G (by simp) λM K B=>?_);show wpAny _ _ (newExc (.type "StopIteration") []>>=_) _ _ _;refine aim (show A.in1.handled=none from R) λU x k z_=>?_
 obtain⟨o,P,H⟩:=z_;exact aa (o5 (T :="StopIteration") (b:=true) ⟨o,P,H⟩ isSubtype_stop (aj (L _ λb o n z=>k b o (B.extBut b o n z))))
def ItS(w:World)(a I:Addr)(J:List (Int×Tok))(o:Obj)(G:Array (Int×Value))(T:Nat)(t:SetTable)(i:Nat)(h:Heap):Prop:=
 Mr w h a J o G T t/\∃Y,h.get? I=some (itN a Y i G.size T)/\(bt w=false->below t.place Y=i)
def Mr.at(X:Mr w h a xs o Z U t)(e:h'.get? a=some o):Mr w h' a xs o Z U t:=⟨e,X.exa,X.dat,X.tab,X.ent,X.nod,X.led,X.pla⟩
theorem Walks.ben{I:Addr}(W:A.handled=none)(F:a≠I)(K:List (Int×Tok))(o:Obj)(G:Array (Int×Value))(O:Nat)(t:SetTable) :
 Walks prog w A I [I,a] [I] G.size (λi v=>((wkN w a G O)[i]?).map (·.2)=some v) (ItS w a I K o G O t)where
 sub:=λb Y=>by simp at Y;simp[Y]
 frame:=λ_ _ _ st H=>⟨st.1.at (H a (by simp) o st.1.get),let ⟨C,e,r⟩:=st.2;⟨C,H I (by simp) _ e,r⟩⟩
 item:=λi s Q E R st B=>by
  obtain⟨X,T,J,Y⟩:=st;have S:(wkN w a G O)[i]?=some ((wkN w a G O)[i]'(by rw[Xo];exact R)):=by simp[Xo,R]
  refine aoa X J Y S λP C g r V=>B _ P s.toks (by rw[S];rfl) ⟨X.at ((V.2 a F).trans X.get),C,g,r⟩ λb o Y e=>(V.2 b (λh=>Y (by simp[h]))).trans e
 done:=λs Q E st B=>by obtain⟨X,T,J,Y⟩:=st;exact au2 W X J Y (by simp[Xo]) λP N=>B P s.toks λb o Y e=>N b o (λh=>Y (by simp[h])) e
 self:=λ_ s _ _ st B=>by obtain⟨X,T,J,Y⟩:=st;have L:s.TypeIs (.ref I) "set_iterator":= ⟨_,J,rfl⟩;refine wpAny_pyIter_slot L Nv (jt Nv L U3 ?_ (Wq _));show wpAny _ _ (ret (.ref I)) _ _ s;exact aj ⟨_,rfl,"set_iterator",_,L,Cu.lookup,B⟩
def a8l(X:Mr w s.heap a xs o Z U t)(T:Q (.ref s.heap.objs.size) { s with heap:=s.heap.push (itN a 0 0 Z.size U) }):wpAny (model prog w) A (pyIter (.ref a)) Q E s:=by
 have Y:s.TypeIs (.ref a) "set":= ⟨o,X.get,X.exa.1⟩;refine wpAny_pyIter_slot Y F.slot_set_iter (jt F.slot_set_iter Y Xn ?_ (F.args_set_iter_1 _));unfold Builtin.«frozenset.__iter__» Builtin.Frozenset.slot0 slotArgs;simp only[List.isEmpty_nil,qz,du,↓reduceIte,bind_assoc,List.length_nil,ym];unfold Builtin.Frozenset.addrOf Builtin.Frozenset.sizeOf;refine aa (aj ?_)
 try dsimp only
 refine aa (aj ?_);refine aa (aa (nq X.get X.dat X.tab.fits (aj ?_)));refine aa ?_;unfold setDrawn;refine aa (j8 X.get X.dat X.tab.fits ?_);dsimp only;refine aa (Ww (aj ?_));have G:(!bt w&&(!t.plain&&decide (Z.size > 1)))=false:=by rw[X.pla];simp
 show wpAny _ _ (if(!bt w&&(!t.plain&&decide (Z.size > 1)))=true then _ else _) _ _ s;rw[G];simp only[du,jq];refine aa (aj (aa (wpAny_setEpoch_of X.get X.dat X.tab.fits ?_)));exact aa (uq (aj ⟨_,rfl,"set_iterator",_,⟨_,cu _ rfl,rfl⟩,Cu.lookup,T⟩))
def a8m(Y:s.TypeIs (.ref a) "set")(h:Q false s):wpAny (model prog w) A (Builtin.List.listLengthHint (.ref a)) Q E s:=by
 unfold Builtin.List.listLengthHint;refine aa (wpAny_specialOf Y F.slot_set_len.lookup ?_)
 (generalize hid:("set.__len__": String)=id0;(fail_if_success (clear hid id0));wp_delta;rw[show splitId id0=some ("set","__len__")from by subst hid;decide+kernel];subst hid)
 refine aa (o5 (b:=true) Y sub_set_self ?_);refine aa (vo Y ?_);exact aj h
def aob(d:A.handled=none)(X:Mr w s.heap a xs o Z U t)(M:Z.size<=sizeLine)(h:∀h' tk qq,(∀b o,s.heap.get? b=some o->h'.get? b=some o)->s.heap.objs.size<=h'.objs.size->ItemsOf (λi v=>((wkN w a Z U)[i]?).map (·.2)=some v) qq Z.size->Q qq.toList { s with heap:=h',toks:=tk }) :
 wpAny (model prog w) A (collect (.ref a)) Q E s:=by
 have z:a<s.heap.objs.size:=bu X.get
 have J:s.heap.objs.size≠a:=yr z;unfold collect;refine aa (wpAny_runValue (p7 F.entry_proto_collect ?_));rw[m5 F.plain_proto_collect _];show wpAny _ A.in1 (newList []>>=λl=>again (.builtin "list.__iadd__" ⟨[l,.ref a],[]⟩)) _ _ s;refine aa (uq ?_);refine aj ⟨plainId_quiet F.plain_list_iadd _,p7 F.entry_list_iadd ?_⟩;rw[m5 F.plain_list_iadd _];have H:Mr w (s.heap.push { cls:=.type "list",data:=.seq ([]:Zl).toArray }) a xs o Z U t:=X.at (au _ X.get);have P:Shared.TypeIs { s with heap:=s.heap.push { cls:=.type "list",data:=.seq ([]:Zl).toArray } } (.ref a) "set":= ⟨o,H.get,H.exa.1⟩;have c:Builtin.List.listSameRef (.ref s.heap.objs.size) (.ref a)=false:=by simp[Builtin.List.listSameRef,J]
 show wpAny _ A.in1 (Builtin.List.listExtendWith (.ref s.heap.objs.size) (.ref a) (.ref s.heap.objs.size)) _ _ _;unfold Builtin.List.listExtendWith;refine aa (vo P ?_);rw[cj (by rw[c];decide)];refine aa (a8l (s:={ s with heap:=s.heap.push { cls:=.type "list",data:=.seq ([]:Zl).toArray } }) H ?_);have N:(s.heap.push { cls:=.type "list",data:=.seq ([]:Zl).toArray }).objs.size=s.heap.objs.size+1:=j7 ..;show wpAny _ A.in1 (holding [.ref (s.heap.push { cls:=.type "list",data:=.seq ([]:Zl).toArray }).objs.size] (Builtin.List.listLengthHint (.ref a))>>=_) _ _ { s with heap:=(s.heap.push { cls:=.type "list",data:=.seq ([]:Zl).toArray }).push (itN a 0 0 Z.size U) };have q:((s.heap.push { cls:=.type "list",data:=.seq ([]:Zl).toArray }).push (itN a 0 0 Z.size U)).get? (s.heap.push { cls:=.type "list",data:=.seq ([]:Zl).toArray }).objs.size=some (itN a 0 0 Z.size U):=cu _ rfl;have gS:((s.heap.push { cls:=.type "list",data:=.seq ([]:Zl).toArray }).push (itN a 0 0 Z.size U)).get? s.heap.objs.size=some { cls:=.type "list",data:=.seq ([]:Zl).toArray }:=au _ (cu _ rfl);have G:∀b o,s.heap.get? b=some o->((s.heap.push { cls:=.type "list",data:=.seq ([]:Zl).toArray }).push (itN a 0 0 Z.size U)).get? b=some o:=λb o e=>au _ (au _ e)
 have j:s.heap.objs.size<=((s.heap.push { cls:=.type "list",data:=.seq ([]:Zl).toArray }).push (itN a 0 0 Z.size U)).objs.size:=by rw[j7,N];exact a_ x_ x_
 generalize(s.heap.push { cls:=.type "list",data:=.seq ([]:Zl).toArray }).push (itN a 0 0 Z.size U)=hp at *;rw[N]at q⊢;have D:Mr w hp a xs o Z U t:=X.at (G a o X.get);refine aa (jh (a8m ⟨o,D.get,D.exa.1⟩ ?_));rw[dj (by decide+kernel)];refine aa (o4 ?_);refine aa ?_;show wpAny _ A.in1 (updateSeq s.heap.objs.size (·.push .none)>>=λ_=>updateSeq s.heap.objs.size (·.pop)) _ _ _;refine aa (wpAny_updateSeq gS rfl ?_);have Y:=o6 (Obj.mapSeq (·.push Value.none)) gS rfl;refine wpAny_updateSeq (hz:=by seq_fits) Y rfl ?_;have B:=o6 (Obj.mapSeq (·.pop)) Y rfl;have T:∀b o,b≠s.heap.objs.size->hp.get? b=some o->((hp.update s.heap.objs.size (Obj.mapSeq (·.push Value.none))).update s.heap.objs.size (Obj.mapSeq (·.pop))).get? b=some o:=
  λb o O e=>(vh _ _ (km O)).trans ((vh _ _ (km O)).trans e)
 have r:((hp.update s.heap.objs.size (Obj.mapSeq (·.push Value.none))).update s.heap.objs.size (Obj.mapSeq (·.pop))).objs.size=hp.objs.size:=by rw[Heap.size_update,Heap.size_update]
 generalize(hp.update s.heap.objs.size (Obj.mapSeq (·.push Value.none))).update s.heap.objs.size (Obj.mapSeq (·.pop))=h3 at *;have W:=(Walks.ben (prog:=prog) (w:=w) (A:=A.in1) (I:=s.heap.objs.size+1) (a:=a) d (gh (wu z)) xs o Z U t).toS;refine aj ⟨plainId_quiet F.plain_extend_loop _,codeAny_extend_loopS W M _ (by simp only[dh,vq,or_false,not_or];exact⟨gh (j4 _),J⟩) _ Z.size 0 _ _ _ rfl (jd _)
  ⟨X.at (T a o (km J) (G a o X.get)),0,T _ _ (yr (j4 _)) q,λ_=>agv X.tab.srt⟩ B (ItemsOf.nil _) λV C f L K m=>?_⟩
 show wpAny _ A (load s.heap.objs.size>>=_) _ _ V;refine aa (wpAny_load K ?_);obtain⟨h',k,g,S,R⟩:=V;have u:k=s.gens:=L.gens;have y:g=s.drawn:=L.drawn;have p:R=s.os:=L.os;subst u;subst y;subst p;refine aj (h h' S C (λb o e=>?_) ?_ m)
 .have O:=bu e
  exact L.heap b o (by simp only[dh,vq,or_false,not_or];exact⟨gh O,gh (wu O)⟩) (T b o (gh O) (G b o e))
 .have:=bu K
  exact yq this
def agx{s:Shared}(X:Mr w s.heap a xs o Z U t)(B:ItemsOf (λi v=>((wkN w a Z U)[i]?).map (·.2)=some v) acc Z.size) :
 ∃ns:List Int,PyProof.Rows.IntsAre acc.toList ns/\ns.Perm (xs.map (·.1)):=by
 obtain⟨Y,O,J⟩:=Fb (f:=enI) (adz (w:=w) (a:=a) (es:=Z) (ep:=U)) X.ent;have C:acc.toList=Y.map λy=>Value.int y.1 y.2:=by
  apply t7;intro i;have G:acc.toList.length=Z.size:=by simpa using B.1
  have P:Y.length=Z.size:=by rw[J.length_eq,<-X.size]
  by_cases T:i<Z.size
  .have N:acc.toList[i]?=some (acc.toList[i]'(b_ T (g_ G))):=by simp[G,T]
   have E:=B.2 i _ (by rw[<-m7];exact N);rw[N,<-E,<-m7,O,ig,ig];cases Y[i]?<;>rfl
  .rw[pq (a_ (f_ G) (s_ T)),pq (by simp;exact a_ (f_ P) (s_ T))]
 refine⟨Y.map (·.1),?_,J.map _⟩;rw[C];clear C J O B
 induction Y with
 |nil=>exact .nil|cons y Y L=>exact .cons _ _ L
def ad0(z:A.handled=none)(F:Dr w s.heap a S n)(C:n<31)(h:∀(h':Heap) (U:Nat) (p:Addr) (out:U1) (Z:Xs),(∀b o,s.heap.get? b=some o->h'.get? b=some o)->s.heap.objs.size<=p->PyProof.Rows.IntsAre out.toList Z->Z.Pairwise (·<=·)->Z.Nodup->(∀k,S k↔k∈Z) ->
 (∃c,h'.get? p=some (PyProof.Rows.seqObj "list" out c))->Q (.ref p) { s with heap:=h',toks:=U }) :
 wpAny (model prog w) A (call (.builtin "sorted") [.ref a]) Q E s:=by
 obtain⟨l,o,j,u,t,X,W,P,g⟩:=F;have G:=X.size;refine Calls.call_function_entry PyProof.Rows.kind_sorted PyProof.Rows.plain_sorted PyProof.Rows.entry_sorted (PyProof.Rows.args_sorted1 _) ?_;unfold Builtin.«sorted»;refine aa (m:=checkCount "sorted" 1 1 _) (aj ?_);refine aa (aob (by simpa using z) X (by rw[t8];exact e_ (c_ (f_ G) (c_ (f_ P) (b_ C (by decide))))) λO U Y keep L V=>?_);obtain⟨Z,M,K⟩:=agx X V;have T:Y.toList.length=n:=by have:=V.1;simp;exact u_ (a_ (f_ this) (a_ (f_ G) (f_ P))) (a_ (g_ P) (a_ (g_ G) (g_ this)))
 have q:Y=Y.toList.toArray:=by simp
 refine aa (wpAny_newList ?_ (by rw[t8];exact e_ (c_ (f_ T) (b_ C (by decide)))));have J:(O.push (PyProof.Rows.seqObj "list" Y.toList.toArray 0)).get? O.objs.size=some (PyProof.Rows.seqObj "list" Y.toList.toArray 0):=cu _ rfl;refine aa (jh (jt PyProof.Rows.slot_list_sort ⟨_,J,rfl⟩ PyProof.Rows.entry_list_sort (PyProof.Rows.list_sort_tree (s:={ s with heap:=O.push (PyProof.Rows.seqObj "list" Y.toList.toArray 0),toks:=U }) J M (c_ (f_ T) (b_ C (by decide))) λout N D y I=>⟨_,rfl,?_⟩) (PyProof.Rows.args_list_sort _)));have H:=y.trans K;refine aj ⟨_,rfl,h _ U O.objs.size out N (λb o e=>?_) L D I (H.nodup_iff.mpr X.nod) (λk=>(W k).trans H.mem_iff.symm) (PyProof.Rows.sortedHeap_at J)⟩;have B:=keep b o e;have R:=bu B;rw[PyProof.Rows.sortedHeap_old (gh R) (by rw[j7];exact wu R),Heap.get?_push_ne _ _ _ (gh R)];exact B
end Xe
set_option backward.match.sparseCases false
namespace MW
open PySem (Str)
set_option genInjectivity true in
inductive D where
 |non|bl (b:Bool)|int (i:Int)|str (s:Str)|tup (ds:List D)|vl (ds:List D)|fz (ds:List D)|ref (n:Nat)|sy (n e k j:Nat)
noncomputable abbrev Kx:=Sum Int Str
set_option genInjectivity true in
inductive MO where
 |lst (ds:List D)|dT (je:List (List Kx×D))|dK (je:List (Kx×D))|ins (c:Nat) (fs:List (Nat×D))
noncomputable abbrev dz:=List MO
noncomputable abbrev Env:=List (Option D)
set_option genInjectivity true in
inductive Res(α:Type)where
 |ok (a:α) (M:dz)|bad
namespace Res
noncomputable def bind{Y β:Type}(r:Res Y)(f:Y->dz->Res β):Res β:=
 match r with|ok a M=>f a M|bad=>bad
@[simp] def Ca(a:α)(M:dz)(f:α->dz->Res β):(ok a M).bind f=f a M:=rfl
@[simp] def a8o(f:α->dz->Res β):(bad:Res α).bind f=bad:=rfl
noncomputable def v9{α:Type}(o:Option α)(M:dz):Res α:=match o with|some a=>ok a M|none=>bad
@[simp] def Dk(a:α)(M:dz):v9 (some a) M=ok a M:=rfl
@[simp] def a1a(M:dz):v9 (none:Option α) M=bad:=rfl
end Res
inductive Op2 where|add|sub|mul|fdiv|mod|pow
inductive Cp where|eq|ne|lt|le|gt|ge|inn|Tu|isn
inductive Blt where
 |len|tuple|list|max|min|dict|all|isList|isTuple|isBool|isSeq|J7|sorted
inductive Bm where|append|index|get|extend
inductive Tg where
 |name (i:Nat)|names (is:Y3)
set_option genCtorIdx false
mutual
inductive Ex where
 |var (i:Nat)|cst (d:D)
 |bin (op:Op2) (a b:Ex)|neg (a:Ex)
 |cmp (op:Cp) (a b:Ex)|chain (o1 o2:Cp) (a b c:Ex)
 |and (a b:Ex)|or (a b:Ex)|not (a:Ex)|ite (c a b:Ex)
 |tup (es:Ez)|lst (es:Ez)|Lh (es:Ez)|agy|agz
 |ix (a b:Ex)|cut (a:Ex) (lo hi:OEx)
 |call (f:Nat) (es:Ez)|make (c:Nat) (es:Ez)|meth (o:Ex) (m:Nat)|fld (o:Ex) (f:Nat)
 |blt (b:Blt) (es:Ez)|bm (m:Bm) (o:Ex) (es:Ez)
 |comp (v:Bool) (k:Nat) (t:Tg) (it:Q8) (e:Ex)|Ef (v:Bool) (k:Nat) (t:Tg) (it:Q8) (c:Ex) (e:Ex)
 |Xp (a b:Ex)|Zu (e:Ex)|ag1 (e:Ex)
inductive Ez where
 |nil|cons (e:Ex) (es:Ez)
inductive OEx where
 |none|some (e:Ex)
inductive Q8 where
 |val (e:Ex)|U4 (e:Ex)|enm (e:Ex)|zip (es:Ez)
end
noncomputable abbrev Ex.v:=Ex.var
noncomputable abbrev Ex.i(n:Int):Ex:=.cst (.int n)
noncomputable abbrev Ex.l(e:Ex):Ex:=.blt .len (.cons e .nil)
noncomputable abbrev Ez.z:=Ez.nil
noncomputable abbrev Ez.c:=Ez.cons
noncomputable abbrev Ez.o(a:Ex):Ez:=.cons a .nil
noncomputable abbrev Ez.p(a b:Ex):Ez:=.cons a (.cons b .nil)
noncomputable abbrev Ez.q(a b c:Ex):Ez:=.cons a (.cons b (.cons c .nil))
inductive Lv where
 |tg (t:Tg)|sub (o i:Ex)|fld (o:Ex) (f:Nat)
mutual
inductive De where
 |asg (l:Lv) (e:Ex)|expr (e:Ex)|iff (c:Ex) (a b:ql)|whl (c:Ex) (b:ql)|for_ (t:Tg) (it:Q8) (b:ql)
 |ret (e:Ex)|brk|cont|raise
inductive ql where
 |nil|cons (s:De) (r:ql)
end
set_option genCtorIdx true
noncomputable abbrev De.a(i:Nat)(e:Ex):De:=.asg (.tg (.name i)) e
noncomputable abbrev De.f(c:Ex)(b:ql):De:=.iff c b .nil
noncomputable abbrev ql.z:=ql.nil
noncomputable abbrev ql.c:=ql.cons
noncomputable abbrev ql.o(a:De):ql:=.cons a .nil
noncomputable abbrev ql.p(a b:De):ql:=.cons a (.cons b .nil)
noncomputable abbrev ql.q(a b c:De):ql:=.cons a (.cons b (.cons c .nil))
structure Fn where
 np:Nat
 ns:Nat
 body:ql
structure Cl where
 init:Nat
 meths:List (Nat×Nat)
noncomputable def gr(M:dz):D->Option (List D)
 |.vl ds=>some ds|.ref n=>match M[n]? with|some (.lst ds)=>some ds|_=>none
 |_=>none
def Dd(M:dz):D->Option (List D)
 |.tup ds=>some ds|d=>gr M d
noncomputable def Xq:D->Option Kx
 |.int i=>some (.inl i)|.str s=>some (.inr s)|_=>none
def abm:List D->Option (List Kx)
 |[]=>some []
 |d::ds=>match Xq d,abm ds with
  |some k,some ks=>some (k::ks)|_,_=>none
def Q3:D->Option (List Kx)
 |.tup ds=>abm ds|_=>none
noncomputable def aod:Kx->D
 |.inl i=>.int i|.inr s=>.str s
def aoe(Y:List Kx):D:=.tup (Y.map aod)
def Fe:List D->Option (List (List Kx))
 |[]=>some []
 |d::ds=>match Q3 d,Fe ds with
  |some k,some ks=>some (k::ks)|_,_=>none
noncomputable def Tp(f:D->D->Option Bool):List D->List D->Option Bool
 |[],[]=>some true
 |a::as,b::bs=>match f a b,Tp f as bs with
  |some x,some y=>some (x&&y)|_,_=>none
 |_,_=>some false
instance:DecidableEq Kx:=inferInstanceAs (DecidableEq (Sum Int Str))
noncomputable def Af{Y:Type}[DecidableEq Y](T:List (Y×D))(k:Y):Option D:=(T.find? λp=>decide (p.1=k)).map (·.2)
def Kr(M:dz):Nat->D->D->Option Bool
 |0,_,_=>none
 |n+1,a,b=>match a,b with
  |.int i,.int j=>some (decide (i=j))|.bl i,.bl j=>some (i==j)|.sy a b c d,.sy a' b' c' d'=>if a=a'/\b=b'/\c=c'/\d=d' then some true else none
  |.tup as,.tup bs=>Tp (Kr M n) as bs
  |a,b=>match gr M a,gr M b with
   |some as,some bs=>if as.length=bs.length then Tp (Kr M n) as bs else some false
   |_,_=>none
def zy(M:dz)(a b:D):Option Bool:=Kr M 6 a b
def Q4(M:dz)(x:D):List D->Option (List Bool)
 |[]=>some []
 |y::ys=>match zy M y x,Q4 M x ys with
  |some a,some b=>some (a::b)|_,_=>none
def memD(M:dz)(x:D)(Y:List D):Option Bool:=(Q4 M x Y).map (·.any id)
def ad1(M:dz)(x:D)(Y:List D):Option Nat:=(Q4 M x Y).bind (·.findIdx? id)
noncomputable def Wz:List D->Option (List Int)
 |[]=>some []|.int i::r=>(Wz r).map (i::·)|_::_=>none
noncomputable def Zv(n:Nat)(i:Int):Option Nat:=if 0<=i then(if i<n then some i.toNat else none)else if -(n:Int)<=i then some (i+n).toNat else none
noncomputable def clip(n:Nat)(d:Nat):Option Int->Nat
 |none=>d|some i=>if 0<=i then min i.toNat n else(i+n).toNat
def ag2(Y:List D)(T G:Option Int):List D:=(Y.drop (clip Y.length 0 T)).take (clip Y.length Y.length G-clip Y.length 0 T)
noncomputable def a1b:List Int->Option Int
 |[]=>none|a::r=>some (r.foldl (λm x=>if m<x then x else m) a)
noncomputable def insI(x:Int):List Int->List Int
 |[]=>[x]|y::ys=>if x<y then x::y::ys else y::insI x ys
def sortI(Y:Xs):List Int:=Y.foldr insI []
noncomputable def Bp:List Int->List Int
 |[]=>[]|x::xs=>if x∈xs then Bp xs else x::Bp xs
def keysOf(M:dz)(d:D):Option (List D):=
 match d with
 |.ref n=>match M[n]? with
  |some (.dT je)=>some (je.map λp=>aoe p.1)
  |_=>gr M d
 |_=>gr M d
noncomputable def Dz{T:Type}[DecidableEq T](G:List (T×D))(k:T)(v:D):List (T×D):=
 if(G.any λY=>decide (Y.1=k))=true then G.map (λY=>if Y.1=k then(Y.1,v)else Y)else G++[(k,v)]
noncomputable def Ff(Y:List (List Kx)):Bool:=decide (Y.length<=30)&&Y.all λk=>k.all λx=>match x with|.inl _=>true|.inr _=>false
noncomputable def J8(Y T:List (List Kx)):Bool:=Y.all (λx=>T.any λy=>decide (y=x))&&T.all (λy=>Y.any λx=>decide (x=y))
noncomputable def new(o:MO)(M:dz):Res D:=.ok (.ref M.length) (M++[o])
def Xr(a b:D)(M:dz):Res D:=
 match a,b with
 |.int i,.int j=>.ok (.int (i+j)) M|.tup xs,.tup ys=>if xs.length+ys.length<=100000 then .ok (.tup (xs++ys)) M else .bad
 |x,y=>match gr M x,gr M y with
  |some xs,some ys=>if xs.length+ys.length<=100000 then .ok (.vl (xs++ys)) M else .bad
  |_,_=>.bad
noncomputable def ii{α:Type}(x y:D)(f:Int->Int->α)(z:α):α:=match x with|.int i=>(match y with|.int j=>f i j|_=>z)|_=>z
def abn(h:ii x y f z=r)(Y:z≠r):∃i j,x=.int i/\y=.int j/\f i j=r:=by
 cases x with
 |int i=>cases y with
  |int j=>exact⟨i,j,rfl,rfl,h⟩|_=>exact absurd h Y
 |_=>exact absurd h Y
@[simp] def bep(i j:Int)(f:Int->Int->α)(z:α):ii (.int i) (.int j) f z=f i j:=rfl
def a8p(a b:D)(M:dz):Res D:=ii a b (λi j=>.ok (.int (i-j)) M) .bad
def ad2(a b:D)(M:dz):Res D:=match a with
 |.tup [d]=>(match b with|.int n=>if 0<=n/\n<=100000 then .ok (.tup (List.replicate n.toNat d)) M else .bad|_=>.bad)
 |_=>ii a b (λi j=>if(-(2^64)<i/\i<2^64)\/(-(2^64)<j/\j<2^64)then .ok (.int (i*j)) M else .bad) .bad
def a1c(a b:D)(M:dz):Res D:=ii a b (λi j=>if 0<j/\j<1073741824 then .ok (.int (i/j)) M else .bad) .bad
def a8q(a b:D)(M:dz):Res D:=ii a b (λi j=>if 0<j then .ok (.int (i%j)) M else .bad) .bad
def azq(a b:D)(M:dz):Res D:=ii a b (λi j=>if 0<=j/\j<=64/\i.natAbs<2^64 then .ok (.int (i^j.toNat)) M else .bad) .bad
def Ey(Y:Op2):D->D->dz->Res D:=
 match Y with
 |.add=>Xr|.sub=>a8p|.mul=>ad2|.fdiv=>a1c|.mod=>a8q|.pow=>azq
def R9(M:dz)(a b:D):Option Bool:=
 match b with
 |.ref n=>match M[n]? with
  |some (.dT je)=>(Q3 a).map λk=>(Af je k).isSome
  |_=>(Dd M b).bind (memD M a)
 |_=>(Dd M b).bind (memD M a)
def ad3(f:Int->Int->Bool)(a b:D):Option Bool:=ii a b (λi j=>some (f i j)) none
def J1(Y:Cp)(a b:D)(M:dz):Option Bool:=
 match Y with
 |.lt=>ad3 (λi j=>decide (i<j)) a b
 |.le=>ad3 (λi j=>decide (i<=j)) a b
 |.gt=>ad3 (λi j=>decide (j<i)) a b
 |.ge=>ad3 (λi j=>decide (j<=i)) a b
 |.eq=>zy M a b|.ne=>(zy M a b).map not|.inn=>R9 M a b|.Tu=>(R9 M a b).map not
 |.isn=>match b with
  |.non=>(match a with|.non=>some false|.tup _=>some true|.ref _=>some true|_=>none)
  |_=>none
def Bk(a b:D)(M:dz):Option D:=
 match a with
 |.ref n=>match M[n]? with
  |some (.dT je)=>(Q3 b).bind (Af je)|some (.dK je)=>(Xq b).bind (Af je)
  |_=>match gr M a,b with
   |some ds,.int i=>(Zv ds.length i).bind λj=>ds[j]?
   |_,_=>none
 |.fz ds=>match b with
  |.int i=>(Zv ds.length i).bind λj=>ds[j]?
  |_=>none
 |_=>match Dd M a,b with
  |some ds,.int i=>(Zv ds.length i).bind λj=>ds[j]?
  |_,_=>none
noncomputable def allB:List D->Option Bool
 |[]=>some true|.bl b::r=>(allB r).map (b&&·)|_::_=>none
def ad4(a:D)(Y G:Option Int)(M:dz):Option D:=(gr M a).map λT=>.vl (ag2 T Y G)
noncomputable def U5(Y:List (List Kx×D)):Bool:=Y.all λp=>match p.1 with
 |[.inl i,.inl j]=>decide (-1<=i)&&decide (i<9)&&decide (-1<=j)&&decide (j<9)|_=>false
noncomputable def U6(M:dz):D->Res D
 |.ref n=>match M[n]? with
  |some (.lst ds)=>.ok (.int ds.length) M|_=>.bad
 |.fz ds=>.ok (.int ds.length) M|.tup ds=>.ok (.int ds.length) M|.vl ds=>.ok (.int ds.length) M|_=>.bad
def W0(M:dz):D->Res D
 |.ref n=>match M[n]? with
  |some (.dT je)=>if U5 je then new (.dT je) M else .bad
  |_=>.bad
 |_=>.bad
def isX(bt Y:Option Bool)(d:D):Option Bool:=match d with
 |.tup _=>bt|.int _=>Y|.sy _ _ _ _=>Y|_=>none
def isR(bt Y:Option Bool)(M:dz)(d:D):Res D:=Res.v9 ((isX bt Y d).map D.bl) M
def two(Y:List D)(f:Int->Int->Int)(g:D->Option Int)(M:dz):Res D:=
 match Y with
 |[a,b]=>(match a,b with|.int i,.int j=>.ok (.int (f i j)) M|_,_=>.bad)
 |[d]=>Res.v9 ((g d).map D.int) M|_=>.bad
noncomputable def Oo(Y:List D)(g:D->Res D):Res D:=
 match Y with
 |[d]=>g d|_=>.bad
def au4:D->Option Nat
 |.tup ds=>(Wz ds).map (·.length)|_=>none
def Tv:List D->Option (List Nat)
 |[]=>some []
 |d::ds=>match au4 d,Tv ds with
  |some k,some ks=>some (k::ks)|_,_=>none
def ag3:D->Option (List Nat)
 |.tup ds=>Tv ds|_=>none
noncomputable def syR(n e k c:Nat):D:=.tup ((List.range c).map (.sy n e k))
def syM(n e:Nat)(Y:Y3):D:=.tup (Y.zipIdx.map λq=>syR n e q.2 q.1)
def Xu(n:Nat)(Y:Y3)(m:Nat):List D:=(List.range m).map λe=>syM n e Y
def ad5(Y:List D)(M:dz):Res D:=match Y with
 |[]=>new (.lst []) M
 |d::_=>match ag3 d with
  |some T=>if T≠[]/\(∀x∈Y,ag3 x=some T)/\Y.length<6000000 then new (.lst (Xu M.length T Y.length)) M else .bad
  |none=>.bad
def qm(b:Blt)(Y:List D)(M:dz):Res D:=
 match b with
 |.len=>Oo Y (U6 M)|.tuple=>Oo Y λd=>Res.v9 ((Dd M d).map D.tup) M
 |.max=>two Y (λi j=>if i<j then j else i) (λd=>((gr M d).bind Wz).bind a1b) M
 |.min=>two Y (λi j=>if j<i then j else i) (λ_=>none) M
 |.J7=>Oo Y λd=>Res.v9 (((gr M d).bind Wz).bind λis=>if(Bp is).length<31 then some (D.vl ((sortI (Bp is)).map D.int))else none) M
 |.dict=>Oo Y (W0 M)|.all=>Oo Y λd=>Res.v9 (((gr M d).bind allB).map D.bl) M
 |.isList=>Oo Y (isR (some false) none M)|.isTuple=>Oo Y (isR (some true) (some false) M)|.isBool=>Oo Y (isR none (some false) M)|.isSeq=>Oo Y (isR (some true) (some false) M)
 |.sorted=>Oo Y λd=>match gr M d with
  |some T=>ad5 T M|none=>.bad
 |.list=>Oo Y λd=>match Dd M d with
  |some T=>new (.lst T) M|none=>.bad
def Oq(m:Bm)(x:D)(M:dz):Bool:=
 match m with
 |.get=>(match x with|.ref n=>(match M[n]? with|some (.dK _)=>true|some (.dT _)=>true|_=>false)|_=>false)
 |_=>(gr M x).isSome
noncomputable def onL(o:D)(M:dz)(f:Nat->List D->Res D):Res D:=match o with
 |.ref n=>match M[n]? with|some (.lst xs)=>f n xs|_=>.bad
 |_=>.bad
def aof(o k:D)(M:dz):Option (Option D):=match o with
 |.ref n=>match M[n]? with
  |some (.dK je)=>(Xq k).map (Af je)|some (.dT je)=>(Q3 k).map (Af je)|_=>none
 |_=>none
def Ks(m:Bm)(o:D)(T:List D)(M:dz):Res D:=
 match m with
 |.append=>onL o M λn Y=>Oo T λd=>if Y.length<6000000 then .ok .non (M.set n (.lst (Y++[d])))else .bad
 |.extend=>onL o M λn Y=>Oo T λy=>match y with
  |.vl ys=>if Y.length+ys.length<100000 then .ok .non (M.set n (.lst (Y++ys)))else .bad
  |_=>.bad
 |.index=>Oo T λd=>Res.v9 (((gr M o).bind (ad1 M d)).map λ(j:Nat)=>D.int (j:Int)) M
 |.get=>match T with
  |[k,d]=>Res.v9 ((aof o k M).map (·.getD d)) M|_=>.bad
def setOp(o i v:D)(M:dz):Option dz:=
 match o with
 |.ref n=>match M[n]? with
  |some (.lst xs)=>match i with
   |.int j=>(Zv xs.length j).map λq=>M.set n (.lst (xs.set q v))
   |_=>none
  |some (.dT je)=>(Q3 i).bind λk=>if je.length<100000 then some (M.set n (.dT (Dz je k v)))else none
  |some (.dK je)=>(Xq i).bind λk=>if je.length<100000 then some (M.set n (.dK (Dz je k v)))else none
  |_=>none
 |_=>none
noncomputable def Vs(f:Nat)(v:D):List (Nat×D)->List (Nat×D)
 |[]=>[(f,v)]|(g,x)::r=>if g=f then(g,v)::r else(g,x)::Vs f v r
noncomputable def Tw(o:D)(f:Nat)(M:dz):Option D:=
 match o with
 |.ref n=>match M[n]? with
  |some (.ins _ fs)=>fs.lookup f|_=>none
 |_=>none
def Tz(o:D)(f:Nat)(v:D)(M:dz):Option dz:=
 match o with
 |.ref n=>match M[n]? with
  |some (.ins c fs)=>if fs.length<1000 then some (M.set n (.ins c (Vs f v fs)))else none
  |_=>none
 |_=>none
inductive Src where
 |con (ds:List D)|live (n:Nat) (len:Nat)
noncomputable def Src.len:Src->Nat
 |.con ds=>ds.length|.live _ k=>k
noncomputable def Src.item(s:Src)(i:Nat)(M:dz):Option D:=
 match s with
 |.con ds=>ds[i]?
 |.live n k=>match M[n]? with
  |some (.lst ds)=>if ds.length=k then ds[i]? else none
  |_=>none
noncomputable def Src.fin(s:Src)(M:dz):Bool:=
 match s with
 |.con _=>true
 |.live n k=>match M[n]? with
  |some (.lst ds)=>ds.length==k|_=>false
noncomputable def srcOf(M:dz)(d:D):Option Src:=
 match d with
 |.tup ds=>some (.con ds)|.vl ds=>some (.con ds)
 |.ref n=>match M[n]? with
  |some (.lst ds)=>some (.live n ds.length)|_=>none
 |_=>none
inductive Flow where
 |next|brk|cont|ret (d:D)
noncomputable def Gj:List Nat->List D->Env->Env
 |i::is,d::ds,ρ=>Gj is ds (ρ.set i (some d))|_,_,ρ=>ρ
def Tg.put(t:Tg)(d:D)(Y:Env):Option Env:=
 match t with
 |.name i=>some (Y.set i (some d))
 |.names is=>match d with
  |.tup ds=>if ds.length=is.length then some (Gj is ds Y)else none
  |.vl ds=>if ds.length=is.length then some (Gj is ds Y)else none
  |_=>none
structure Jy where
 call:Nat->List D->dz->Res D
 cls:List Cl
def Dj(fin:dz->Bool)(item:Nat->dz->Option D)(Y:D->Env->dz->Res (Flow×Env)):Nat->Nat->Env->dz->Res (Flow×Env)
 |0,_,ρ,M=>if fin M then .ok (.next,ρ) M else .bad
 |k+1,i,ρ,M=>match item i M with
  |none=>.bad
  |some d=>(Y d ρ M).bind λr T=>match r.1 with
   |.next=>Dj fin item Y k (i+1) r.2 T|.cont=>Dj fin item Y k (i+1) r.2 T|.brk=>.ok (.next,r.2) T|.ret v=>.ok (.ret v,r.2) T
def Eg(fin:dz->Bool)(item:Nat->dz->Option D)(Y:D->dz->Res (Option D)):Nat->Nat->dz->Res (List D)
 |0,_,M=>if fin M then .ok [] M else .bad
 |k+1,i,M=>match item i M with
  |none=>.bad|some d=>(Y d M).bind λo G=>(Eg fin item Y k (i+1) G).bind λT J=>.ok (match o with|some x=>x::T|none=>T) J
def Az(s:Src)(Y:D->dz->Res (Option D))(M:dz):Res (List D):=if s.len<=100000 then Eg s.fin s.item Y s.len 0 M else .bad
def G4(c:Env->dz->Res D)(Y:Env->dz->Res (Flow×Env)):Nat->Env->dz->Res (Flow×Env)
 |0,_,_=>.bad
 |k+1,ρ,M=>(c ρ M).bind λb G=>match b with
  |.bl false=>.ok (.next,ρ) G
  |.bl true=>(Y ρ G).bind λr T=>match r.1 with
   |.next=>G4 c Y k r.2 T|.cont=>G4 c Y k r.2 T|.brk=>.ok (.next,r.2) T|.ret v=>.ok (.ret v,r.2) T
  |_=>.bad
noncomputable def ag4:Nat:=1000000
noncomputable def Im(Y:List (List D))(n:Nat):List D:=(List.range n).map λi=>.tup (Y.map λl=>l.getD i .non)
noncomputable def Li(Y:List D):Nat->List D:=λn=>(Y.zipIdx n).map λp=>D.tup [.int p.2,p.1]
def ak2(Y:List D)(M:dz):Res Src:=match Y with
 |[.tup xs,.tup ys]=>if xs.length=ys.length then .ok (.con (Im [xs,ys] ys.length)) M else .bad
 |_=>.bad
mutual
def Ex.den(W:Jy):Ex->Env->dz->Res D
 |.var i,ρ,M=>match ρ[i]? with
  |some (some d)=>.ok d M|_=>.bad
 |.cst d,_,M=>.ok d M|.bin op a b,ρ,M=>(a.den W ρ M).bind λx Y=>(b.den W ρ Y).bind λy T=>Ey op x y T
 |.neg a,ρ,M=>(a.den W ρ M).bind λx Y=>match x with|.int i=>.ok (.int (-i)) Y|_=>.bad
 |.cmp op a b,ρ,M=>(a.den W ρ M).bind λx Y=>(b.den W ρ Y).bind λy T=>Res.v9 ((J1 op x y T).map D.bl) T
 |.chain o1 o2 a b c,ρ,M=>(a.den W ρ M).bind λx Y=>(b.den W ρ Y).bind λy T=>(Res.v9 (J1 o1 x y T) T).bind λq T=>if q then(c.den W ρ T).bind λz B=>Res.v9 ((J1 o2 y z B).map D.bl) B else .ok (.bl false) T
 |.and a b,ρ,M=>(a.den W ρ M).bind λx Y=>match x with|.bl true=>b.den W ρ Y|.bl false=>.ok (.bl false) Y|_=>.bad
 |.or a b,ρ,M=>(a.den W ρ M).bind λx Y=>match x with|.bl true=>.ok (.bl true) Y|.bl false=>b.den W ρ Y|_=>.bad
 |.not a,ρ,M=>(a.den W ρ M).bind λx Y=>match x with|.bl b=>.ok (.bl !b) Y|_=>.bad
 |.ite c a b,ρ,M=>(c.den W ρ M).bind λx Y=>match x with|.bl true=>a.den W ρ Y|.bl false=>b.den W ρ Y|_=>.bad
 |.tup es,ρ,M=>(es.den W ρ M).bind λG Y=>.ok (.tup G) Y
 |.lst es,ρ,M=>(es.den W ρ M).bind λG Y=>new (.lst G) Y
 |.Lh es,ρ,M=>(es.den W ρ M).bind λG Y=>.ok (.vl G) Y
 |.agy,_,M=>new (.dT []) M|.agz,_,M=>new (.dK []) M|.ix a b,ρ,M=>(a.den W ρ M).bind λx Y=>(b.den W ρ Y).bind λy T=>Res.v9 (Bk x y T) T
 |.cut a lo hi,ρ,M=>(a.den W ρ M).bind λx Y=>(lo.den W ρ Y).bind λl T=>(hi.den W ρ T).bind λh B=>Res.v9 (ad4 x l h B) B
 |.call f es,ρ,M=>(es.den W ρ M).bind λG Y=>W.call f G Y
 |.make c es,ρ,M=>(es.den W ρ M).bind λG Y=>match W.cls[c]? with
  |some C=>(W.call C.init (.ref Y.length::G) (Y++[.ins c []])).bind λr T=>match r with|.non=>.ok (.ref Y.length) T|_=>.bad
  |none=>.bad
 |.meth o m,ρ,M=>(o.den W ρ M).bind λx Y=>match x with
  |.ref n=>match Y[n]? with
   |some (.ins c _)=>match(W.cls[c]?).bind λC=>C.meths.lookup m with
    |some f=>W.call f [.ref n] Y|none=>.bad
   |_=>.bad
  |_=>.bad
 |.fld o f,ρ,M=>(o.den W ρ M).bind λx Y=>Res.v9 (Tw x f Y) Y
 |.blt b es,ρ,M=>(es.den W ρ M).bind λG Y=>qm b G Y
 |.bm m o es,ρ,M=>(o.den W ρ M).bind λx Y=>if Oq m x Y then(es.den W ρ Y).bind λG T=>Ks m x G T else .bad
 |.comp v k t it e,ρ,M=>(it.den W ρ M).bind λs Y =>
  (Az s (λd M=>match t.put d (ρ++List.replicate k none)with
   |some J=>(e.den W J M).bind λx O=>.ok (some x) O
   | none=>.bad) Y).bind λG T=>if v then .ok (.vl G) T else new (.lst G) T
 |.Ef v k t it c e,ρ,M=>(it.den W ρ M).bind λs Y =>
  (Az s (λd M=>match t.put d (ρ++List.replicate k none)with
   |some J=>(c.den W J M).bind λb O=>match b with
    |.bl true=>(e.den W J O).bind λx N=>.ok (some x) N
    |.bl false=>.ok none O|_=>.bad
   | none=>.bad) Y).bind λG T=>if v then .ok (.vl G) T else new (.lst G) T
 |.Xp a b,ρ,M=>(a.den W ρ M).bind λx Y =>
  match(keysOf Y x).bind Fe with
  |some E=>if Ff E then(b.den W ρ Y).bind λy T =>
   match(keysOf T y).bind Fe with
   |some L=>if Ff L then .ok (.bl !J8 E L) T else .bad
   |none=>.bad
   else .bad
  |none=>.bad
 |.Zu e,ρ,M=>(e.den W ρ M).bind λx Y=>match x with
  |.int i=>if i.natAbs<=100000 then .ok (.tup ((List.range i.toNat).map λ(k:Nat)=>D.int (k:Int))) Y else .bad
  |_=>.bad
 |.ag1 e,ρ,M=>(e.den W ρ M).bind λx Y=>match x with
  |.int i=>if i.natAbs<=100000 then new (.lst ((List.range i.toNat).map λ(k:Nat)=>D.int (k:Int))) Y else .bad
  |_=>.bad
def Ez.den(W:Jy):Ez->Env->dz->Res (List D)
 |.nil,_,M=>.ok [] M|.cons e es,ρ,M=>(e.den W ρ M).bind λx Y=>(es.den W ρ Y).bind λT G=>.ok (x::T) G
def OEx.den(W:Jy):OEx->Env->dz->Res (Option Int)
 |.none,_,M=>.ok none M|.some e,ρ,M=>(e.den W ρ M).bind λx Y=>match x with|.int i=>.ok (some i) Y|_=>.bad
def Q8.den(W:Jy):Q8->Env->dz->Res Src
 |.val e,ρ,M=>(e.den W ρ M).bind λx Y=>Res.v9 (srcOf Y x) Y
 |.U4 e,ρ,M=>(e.den W ρ M).bind λx Y=>match x with
  |.int i=>if i.natAbs<=100000 then .ok (.con ((List.range i.toNat).map λ(k:Nat)=>D.int (k:Int))) Y else .bad
  |_=>.bad
 |.enm e,ρ,M=>(e.den W ρ M).bind λx Y=>match x with
  |.tup ds=>.ok (.con (Li ds 0)) Y|_=>.bad
 |.zip es,ρ,M=>(es.den W ρ M).bind ak2
end
def Lv.put(W:Jy)(l:Lv)(d:D)(Y:Env)(M:dz):Res Env:=
 match l with
 |.tg t=>Res.v9 (t.put d Y) M|.sub o i=>(o.den W Y M).bind λx T=>(i.den W Y T).bind λy G=>(Res.v9 (setOp x y d G) G).bind λJ _=>.ok Y J
 |.fld o f=>(o.den W Y M).bind λx T=>(Res.v9 (Tz x f d T) T).bind λG _=>.ok Y G
mutual
def De.den(W:Jy):De->Env->dz->Res (Flow×Env)
 |.asg l e,Y,M=>(e.den W Y M).bind λx T=>(l.put W x Y T).bind λG J=>.ok (.next,G) J
 |.expr e,Y,M=>(e.den W Y M).bind λ_ T=>.ok (.next,Y) T
 |.iff c a b,Y,M=>(c.den W Y M).bind λx T=>match x with|.bl true=>a.den W Y T|.bl false=>b.den W Y T|_=>.bad
 |.whl c b,Y,M=>G4 (c.den W) (b.den W) ag4 Y M
 | .for_ t it b,Y,M=>(it.den W Y M).bind λs T=>Dj s.fin s.item (λd Y M=>match t.put d Y with
  | some G=>b.den W G M|none=>.bad) s.len 0 Y T
 |.ret e,Y,M=>(e.den W Y M).bind λx T=>.ok (.ret x,Y) T
 |.brk,Y,M=>.ok (.brk,Y) M|.cont,Y,M=>.ok (.cont,Y) M|.raise,_,_=>.bad
def ql.den(W:Jy):ql->Env->dz->Res (Flow×Env)
 |.nil,ρ,M=>.ok (.next,ρ) M
 |.cons s r,ρ,M=>(s.den W ρ M).bind λp Y=>match p.1 with
  |.next=>r.den W p.2 Y|.brk=>.ok (.brk,p.2) Y|.cont=>.ok (.cont,p.2) Y|.ret d=>.ok (.ret d,p.2) Y
end
structure Prog where
 fns:List Fn
 cls:List Cl
def Fn.run(W:Jy)(f:Fn)(T:List D)(M:dz):Res D:=
 if T.length=f.np then
  (f.body.den W (T.map some++List.replicate (f.ns-f.np) none) M).bind λp Y=>match p.1 with
   |.ret d=>.ok d Y|.next=>.ok .non Y|_=>.bad
 else .bad
def Prog.call(P:Prog):Nat->Nat->List D->dz->Res D
 |0,_,_,_=>.bad
 |n+1,f,ds,M=>match P.fns[f]? with
  |some F=>F.run ⟨P.call n,P.cls⟩ ds M|none=>.bad
@[simp] def ain(i:Nat):(Ex.var i).den W Z M=match Z[i]? with|some (some d)=>.ok d M|_=>.bad:=rfl
@[simp high] theorem bes(d:D)(r:Env):(Ex.var 0).den W (some d::r) M=.ok d M:=rfl
@[simp high] theorem bet(Y:Option D)(d:D)(r:Env):(Ex.var 1).den W (Y::some d::r) M=.ok d M:=rfl
@[simp high] theorem beu(T Y:Option D)(d:D)(r:Env):(Ex.var 2).den W (T::Y::some d::r) M=.ok d M:=rfl
@[simp high] theorem bev(G T Y:Option D)(d:D)(r:Env):(Ex.var 3).den W (G::T::Y::some d::r) M=.ok d M:=rfl
@[simp high] theorem bew(J G Y T:Option D)(d:D)(r:Env):(Ex.var 4).den W (J::G::Y::T::some d::r) M=.ok d M:=rfl
@[simp high] theorem bex(B T Y J G:Option D)(d:D)(r:Env):(Ex.var 5).den W (B::T::Y::J::G::some d::r) M=.ok d M:=rfl
@[simp high] theorem bey(O T Y B G J:Option D)(d:D)(r:Env):(Ex.var 6).den W (O::T::Y::B::G::J::some d::r) M=.ok d M:=rfl
@[simp high] theorem bez(C T Y B G J O:Option D)(d:D)(r:Env):(Ex.var 7).den W (C::T::Y::B::G::J::O::some d::r) M=.ok d M:=rfl
@[simp high] theorem be0(N T Y O G B C J:Option D)(d:D)(r:Env):(Ex.var 8).den W (N::T::Y::O::G::B::C::J::some d::r) M=.ok d M:=rfl
@[simp high] theorem be1(L G Y C J O N B T:Option D)(d:D)(r:Env):(Ex.var 9).den W (L::G::Y::C::J::O::N::B::T::some d::r) M=.ok d M:=rfl
@[simp high] theorem bc4(E G Y C J O N B T L:Option D)(d:D)(r:Env):(Ex.var 10).den W (E::G::Y::C::J::O::N::B::T::L::some d::r) M=.ok d M:=rfl
@[simp high] theorem bc5(P J T N B C L O G E Y:Option D)(d:D)(r:Env):(Ex.var 11).den W (P::J::T::N::B::C::L::O::G::E::Y::some d::r) M=.ok d M:=rfl
@[simp high] theorem bc6(R B G L O N E C J P Y T:Option D)(d:D)(r:Env):(Ex.var 12).den W (R::B::G::L::O::N::E::C::J::P::Y::T::some d::r) M=.ok d M:=rfl
@[simp] def W2(d:D):(Ex.cst d).den W Z M=.ok d M:=rfl
@[simp] def au5(Y:Op2)(a b:Ex):(Ex.bin Y a b).den W Z M=(a.den W Z M).bind λx U=>(b.den W Z U).bind λy M2=>Ey Y x y M2:=rfl
@[simp] def au6(a:Ex):(Ex.neg a).den W U M=(a.den W U M).bind λx Z=>match x with|.int i=>.ok (.int (-i)) Z|_=>.bad:=rfl
@[simp] def au7(Y:Cp)(a b:Ex):(Ex.cmp Y a b).den W Z M=(a.den W Z M).bind λx U=>(b.den W Z U).bind λy M2=>Res.v9 ((J1 Y x y M2).map D.bl) M2:=rfl
@[simp] def ak3(Y T:Cp)(a b c:Ex):(Ex.chain Y T a b c).den W Z M=(a.den W Z M).bind λx M1=>(b.den W Z M1).bind λy M2=>(Res.v9 (J1 Y x y M2) M2).bind λq M2=>if q then(c.den W Z M2).bind λz U=>Res.v9 ((J1 T y z U).map D.bl) U else .ok (.bl false) M2:=rfl
def aio(a b:Ex):(Ex.and a b).den W U M=(a.den W U M).bind λx Z=>match x with|.bl true=>b.den W U Z|.bl false=>.ok (.bl false) Z|_=>.bad:=rfl
def aog(a b:Ex):(Ex.or a b).den W U M=(a.den W U M).bind λx Z=>match x with|.bl true=>.ok (.bl true) Z|.bl false=>b.den W U Z|_=>.bad:=rfl
@[simp] def aip(a:Ex):(Ex.not a).den W U M=(a.den W U M).bind λx Z=>match x with|.bl b=>.ok (.bl !b) Z|_=>.bad:=rfl
def au8(c a b:Ex):(Ex.ite c a b).den W Z M=(c.den W Z M).bind λx U=>match x with|.bl true=>a.den W Z U|.bl false=>b.den W Z U|_=>.bad:=rfl
@[simp] def au9(Y:Ez):(Ex.tup Y).den W U M=(Y.den W U M).bind λZ M1=>.ok (.tup Z) M1:=rfl
@[simp] def ava(Y:Ez):(Ex.lst Y).den W U M=(Y.den W U M).bind λZ M1=>new (.lst Z) M1:=rfl
@[simp] def aoh(Y:Ez):(Ex.Lh Y).den W U M=(Y.den W U M).bind λZ M1=>.ok (.vl Z) M1:=rfl
@[simp] def aoi:Ex.agy.den W Z M=new (.dT []) M:=rfl
@[simp] def aoj:Ex.agz.den W Z M=new (.dK []) M:=rfl
@[simp] def a1d(a b:Ex):(Ex.ix a b).den W Z M=(a.den W Z M).bind λx U=>(b.den W Z U).bind λy M2=>Res.v9 (Bk x y M2) M2:=rfl
@[simp] def avb(a:Ex)(Y T:OEx):(Ex.cut a Y T).den W Z M=(a.den W Z M).bind λx U=>(Y.den W Z U).bind λl M2=>(T.den W Z M2).bind λh M3=>Res.v9 (ad4 x l h M3) M3:=rfl
@[simp] def T3(f:Nat)(Y:Ez):(Ex.call f Y).den W U M=(Y.den W U M).bind λZ M1=>W.call f Z M1:=rfl
@[simp] theorem ad6{W:Jy}{Y:Env}{M:dz}(c:Nat)(T:Ez):(Ex.make c T).den W Y M=(T.den W Y M).bind λU Z=>match W.cls[c]? with
 |some C=>(W.call C.init (.ref Z.length::U) (Z++[.ins c []])).bind λr G=>match r with|.non=>.ok (.ref Z.length) G|_=>.bad
 |none=>.bad:=rfl
@[simp] theorem ad7{W:Jy}{Y:Env}{M:dz}(o:Ex)(m:Nat):(Ex.meth o m).den W Y M=(o.den W Y M).bind λx Z=>match x with
 |.ref n=>match Z[n]? with
  |some (.ins c _)=>match(W.cls[c]?).bind λC=>C.meths.lookup m with
   |some f=>W.call f [.ref n] Z|none=>.bad
  |_=>.bad
 |_=>.bad:=rfl
@[simp] def avc(o:Ex)(f:Nat):(Ex.fld o f).den W Z M=(o.den W Z M).bind λx M1=>Res.v9 (Tw x f M1) M1:=rfl
@[simp] def W3(b:Blt)(Y:Ez):(Ex.blt b Y).den W U M=(Y.den W U M).bind λZ M1=>qm b Z M1:=rfl
@[simp] def a1e(m:Bm)(o:Ex)(Y:Ez):(Ex.bm m o Y).den W U M=(o.den W U M).bind λx Z=>if Oq m x Z then(Y.den W U Z).bind λds M2=>Ks m x ds M2 else .bad:=rfl
@[simp] theorem ad8{W:Jy}{Y:Env}{M:dz}(e:Ex):(Ex.Zu e).den W Y M=(e.den W Y M).bind λx Z=>match x with
 |.int i=>if i.natAbs<=100000 then .ok (.tup ((List.range i.toNat).map λ(k:Nat)=>D.int (k:Int))) Z else .bad
 |_=>.bad:=rfl
@[simp] theorem aok{W:Jy}{Y:Env}{M:dz}(e:Ex):(Ex.ag1 e).den W Y M=(e.den W Y M).bind λx Z=>match x with
 |.int i=>if i.natAbs<=100000 then new (.lst ((List.range i.toNat).map λ(k:Nat)=>D.int (k:Int))) Z else .bad
 |_=>.bad:=rfl
def Oz(v:Bool)(k:Nat)(t:Tg)(it:Q8)(e:Ex):(Ex.comp v k t it e).den W ρ M=(it.den W ρ M).bind λs M1 =>
 (Az s (λd M=>match t.put d (ρ++List.replicate k none)with
  |some Z=>(e.den W Z M).bind λx M'=>.ok (some x) M'
  | none=>.bad) M1).bind λU M2=>if v then .ok (.vl U) M2 else new (.lst U) M2:=rfl
def Xv(v:Bool)(k:Nat)(t:Tg)(it:Q8)(c e:Ex):(Ex.Ef v k t it c e).den W ρ M=(it.den W ρ M).bind λs M1 =>
 (Az s (λd M=>match t.put d (ρ++List.replicate k none)with
  |some Z=>(c.den W Z M).bind λb M'=>match b with
   |.bl true=>(e.den W Z M').bind λx U=>.ok (some x) U
   |.bl false=>.ok none M'|_=>.bad
  | none=>.bad) M1).bind λds M2=>if v then .ok (.vl ds) M2 else new (.lst ds) M2:=rfl
@[simp] def T4:Ez.nil.den W Z M=.ok [] M:=rfl
@[simp] def Ik(e:Ex)(Y:Ez):(Ez.cons e Y).den W Z M=(e.den W Z M).bind λx U=>(Y.den W Z U).bind λxs M2=>.ok (x::xs) M2:=rfl
@[simp] def ak4:OEx.none.den W Z M=.ok none M:=rfl
@[simp] def ak5(e:Ex):(OEx.some e).den W U M=(e.den W U M).bind λx Z=>match x with|.int i=>.ok (some i) Z|_=>.bad:=rfl
@[simp] def J9(e:Ex):(Q8.val e).den W Z M=(e.den W Z M).bind λx M1=>Res.v9 (srcOf M1 x) M1:=rfl
@[simp] theorem Qo{W:Jy}{Y:Env}{M:dz}(e:Ex):(Q8.U4 e).den W Y M=(e.den W Y M).bind λx Z=>match x with
 |.int i=>if i.natAbs<=100000 then .ok (.con ((List.range i.toNat).map λ(k:Nat)=>D.int (k:Int))) Z else .bad
 |_=>.bad:=rfl
@[simp] theorem aiq{W:Jy}{Y:Env}{M:dz}(e:Ex):(Q8.enm e).den W Y M=(e.den W Y M).bind λx Z=>match x with
 |.tup ds=>.ok (.con (Li ds 0)) Z|_=>.bad:=rfl
@[simp] def avd(Y:Ez):(Q8.zip Y).den W Z M=(Y.den W Z M).bind ak2:=rfl
@[simp] def abo(l:Lv)(e:Ex):(De.asg l e).den W U M=(e.den W U M).bind λx M1=>(l.put W x U M1).bind λZ M2=>.ok (.next,Z) M2:=rfl
@[simp] def ave(e:Ex):(De.expr e).den W Z M=(e.den W Z M).bind λ_ M1=>.ok (.next,Z) M1:=rfl
def a1f(c:Ex)(a b:ql):(De.iff c a b).den W Z M=(c.den W Z M).bind λx U=>match x with|.bl true=>a.den W Z U|.bl false=>b.den W Z U|_=>.bad:=rfl
@[simp] def a1g(e:Ex):(De.ret e).den W Z M=(e.den W Z M).bind λx M1=>.ok (.ret x,Z) M1:=rfl
@[simp] def a1h:De.brk.den W Z M=.ok (.brk,Z) M:=rfl
@[simp] def avf:De.cont.den W Z M=.ok (.cont,Z) M:=rfl
@[simp] def aol:De.raise.den W Z M=.bad:=rfl
def abp(c:Ex)(b:ql):(De.whl c b).den W Z M=G4 (c.den W) (b.den W) ag4 Z M:=rfl
def U7(t:Tg)(it:Q8)(b:ql):(De.for_ t it b).den W Z M=(it.den W Z M).bind λs M1=>Dj s.fin s.item (λd Z M=>match t.put d Z with
 | some U=>b.den W U M|none=>.bad) s.len 0 Z M1:=rfl
@[simp] def avh:ql.nil.den W Z M=.ok (.next,Z) M:=rfl
theorem aom{W:Jy}{Y:Env}{M:dz}(s:De)(r:ql):(ql.cons s r).den W Y M=(s.den W Y M).bind λp M1=>match p.1 with
 |.next=>r.den W p.2 M1|.brk=>.ok (.brk,p.2) M1|.cont=>.ok (.cont,p.2) M1|.ret d=>.ok (.ret d,p.2) M1:=rfl
def aon(W:Jy)(r:ql)(x:Res (Flow×Env)):Res (Flow×Env):=x.bind λp Y=>match p.1 with
 |.next=>r.den W p.2 Y|.brk=>.ok (.brk,p.2) Y|.cont=>.ok (.cont,p.2) Y|.ret d=>.ok (.ret d,p.2) Y
@[simp] def bc7(s:De)(r:ql):(ql.cons s r).den W Z M=aon W r (s.den W Z M):=rfl
@[simp] def a8s(r:ql):aon W r (.ok (.next,Z) M)=r.den W Z M:=rfl
@[simp] def bc8(r:ql):aon W r (.ok (.brk,Z) M)=.ok (.brk,Z) M:=rfl
@[simp] def a8t(r:ql):aon W r (.ok (.cont,Z) M)=.ok (.cont,Z) M:=rfl
@[simp] def bc9(r:ql)(d:D):aon W r (.ok (.ret d,Z) M)=.ok (.ret d,Z) M:=rfl
def ifK{α:Type}(a b:dz->Res α)(x:Res D):Res α:=x.bind λx Y=>match x with|.bl true=>a Y|.bl false=>b Y|_=>.bad
@[simp] def a8u(c:Ex)(a b:ql):(De.iff c a b).den W Z M=ifK (a.den W Z) (b.den W Z) (c.den W Z M):=rfl
@[simp] def be2(c a b:Ex):(Ex.ite c a b).den W Z M=ifK (a.den W Z) (b.den W Z) (c.den W Z M):=rfl
@[simp] def be3(a b:Ex):(Ex.and a b).den W Z M=ifK (b.den W Z) (.ok (.bl false)) (a.den W Z M):=rfl
@[simp] def bio(a b:Ex):(Ex.or a b).den W Z M=ifK (.ok (.bl true)) (b.den W Z) (a.den W Z M):=rfl
@[simp] def bip(a b:dz->Res α):ifK a b (.ok (.bl true) M)=a M:=rfl
@[simp] def biq(a b:dz->Res α):ifK a b (.ok (.bl false) M)=b M:=rfl
theorem aac{W:Jy}{Y:Env}{M:dz}(a b:Ex):(Ex.Xp a b).den W Y M=(a.den W Y M).bind λx Z =>
 match(keysOf Z x).bind Fe with
 |some G=>if Ff G then(b.den W Y Z).bind λy J =>
  match(keysOf J y).bind Fe with
  |some T=>if Ff T then .ok (.bl !J8 G T) J else .bad
  |none=>.bad
  else .bad
 |none=>.bad:=rfl
@[simp] def aoo(t:Tg)(d:D):(Lv.tg t).put W d Z M=Res.v9 (t.put d Z) M:=rfl
@[simp] def avi(o i:Ex)(d:D):(Lv.sub o i).put W d Z M=(o.den W Z M).bind λx M1=>(i.den W Z M1).bind λy U=>(Res.v9 (setOp x y d U) U).bind λM3 _=>.ok Z M3:=rfl
@[simp] def avj(o:Ex)(f:Nat)(d:D):(Lv.fld o f).put W d U M=(o.den W U M).bind λx Z=>(Res.v9 (Tz x f d Z) Z).bind λM2 _=>.ok U M2:=rfl
@[simp] def a1i(i:Nat)(d:D):(Tg.name i).put d Z=some (Z.set i (some d)):=rfl
@[simp] def azr(is:Y3)(Y:List D)(h:Y.length=is.length):(Tg.names is).put (.tup Y) Z=some (Gj is Y Z):=by simp[Tg.put,h]
@[simp] def azs(i:Nat)(is:Y3)(d:D)(Y:List D):Gj (i::is) (d::Y) Z=Gj is Y (Z.set i (some d)):=rfl
@[simp] def a1j(Y:List D):Gj [] Y ρ=ρ:=by cases Y<;>rfl
@[simp] def a8v(i j:Int):Ey .add (.int i) (.int j) M=.ok (.int (i+j)) M:=rfl
@[simp] def a8w(i j:Int):Ey .sub (.int i) (.int j) M=.ok (.int (i-j)) M:=rfl
def O1(i j:Int)(h:(-(2^64)<i/\i<2^64)\/(-(2^64)<j/\j<2^64)):Ey .mul (.int i) (.int j) M=.ok (.int (i*j)) M:=dj h
def aad(i j:Int)(h:0<j)(Y:j<1073741824):Ey .fdiv (.int i) (.int j) M=.ok (.int (i/j)) M:=dj ⟨h,Y⟩
@[simp] def a8x(i j:Int)(h:0<j):Ey .mod (.int i) (.int j) M=.ok (.int (i%j)) M:=dj h
@[simp] def a1k:Ey .pow (.int 10) (.int 18) M=.ok (.int (10^18)) M:=by simp[Ey,azq]
def U8(xs ys:List D)(h:xs.length+ys.length<=100000):Ey .add (.vl xs) (.vl ys) M=.ok (.vl (xs++ys)) M:=dj h
@[simp] def be4(i j:Int):J1 .lt (.int i) (.int j) M=some (decide (i<j)):=rfl
@[simp] def be5(i j:Int):J1 .le (.int i) (.int j) M=some (decide (i<=j)):=rfl
@[simp] def cmp_gt(i j:Int):J1 .gt (.int i) (.int j) M=some (decide (j<i)):=rfl
@[simp] def be6(i j:Int):J1 .ge (.int i) (.int j) M=some (decide (j<=i)):=rfl
@[simp] def be7(a b:D):J1 .eq a b M=zy M a b:=rfl
@[simp] def be8(a b:D):J1 .ne a b M=(zy M a b).map not:=rfl
@[simp] def be9(a b:D):J1 .inn a b M=R9 M a b:=rfl
@[simp] def a69(a b:D):J1 .Tu a b M=(R9 M a b).map not:=rfl
def W4(n:Nat)(i j:Int):Kr M (n+1) (.int i) (.int j)=some (decide (i=j)):=rfl
def Eh(Y:f a b=some x)(T:Tp f as bs=some y):Tp f (a::as) (b::bs)=some (x&&y):=by simp[Tp,Y,T]
@[simp] def eq_int(i j:Int):zy M (.int i) (.int j)=some (decide (i=j)):=rfl
@[simp] def bir(i j:Bool):zy M (.bl i) (.bl j)=some (i==j):=rfl
@[simp] def aae(ds:List D):gr M (.vl ds)=some ds:=rfl
@[simp] def a8y(ds:List D):Dd M (.vl ds)=some ds:=rfl
@[simp] def a7a(ds:List D):Dd M (.tup ds)=some ds:=rfl
def j5(h:M[n]?=some (.lst ds)):gr M (.ref n)=some ds:=by simp[gr,h]
def Lj(h:gr M d=some ds):Dd M d=some ds:=by cases d<;>first|exact h|(simp[gr]at h)
set_option tactic.hygienic true in
def len_list(h:gr M d=some ds):qm .len [d] M=.ok (.int ds.length) M:=by
 show U6 M d=_;cases d with
 |vl B=>simp[gr]at h;subst h;rfl
 |ref n =>
  simp only[gr]at h;split at h<;>simp at h;rename_i B T;subst h;simp[U6,T]
 |_=>simp[gr]at h
@[simp] def a8z(d:D)(g:D->Res D):Oo [d] g=g d:=rfl
@[simp] def a80(g:D->Res D):Oo [] g=.bad:=rfl
@[simp] def a7b(a b:D)(l:List D)(g:D->Res D):Oo (a::b::l) g=.bad:=rfl
@[simp] def bfa(i j:Int)(f:Int->Int->Int)(g:D->Option Int):two [.int i,.int j] f g M=.ok (.int (f i j)) M:=rfl
@[simp] def avk(d:D)(f:Int->Int->Int)(g:D->Option Int):two [d] f g M=Res.v9 ((g d).map D.int) M:=rfl
@[simp] def a1l(Y:List D):U6 M (.tup Y)=.ok (.int Y.length) M:=rfl
@[simp] theorem azt{M:dz}(n:Nat):W0 M (.ref n)=match M[n]? with
 |some (.dT je)=>if U5 je then new (.dT je) M else .bad
 |_=>.bad:=rfl
def Ea(h:gr M d=some ds)(J:0<=i)(B:ds[i.toNat]?=some x):Bk d (.int i) M=some x:=by
 obtain⟨G,Y⟩:=ao.mp B;have T:i<ds.length:=by lia
 cases d with
 |vl O=>simp[gr]at h;subst h;simp[Bk,Dd,Zv,J,T,G,Y]
 |ref n =>
  simp only[gr]at h;cases e:M[n]? with
  |none=>rw[e]at h;simp at h|some o=>rw[e]at h;cases o<;>simp at h<;>subst h<;>simp[Bk,gr,e,Zv,J,T,G,Y]
 |_=>simp[gr]at h
def Ip(B:0<=i)(T:ds[i.toNat]?=some x):Bk (.tup ds) (.int i) M=some x:=by
 obtain⟨J,Y⟩:=ao.mp T;have G:i<ds.length:=by lia
 simp[Bk,Dd,Zv,B,G,J,Y]
def a81(B:0<=i)(T:ds[i.toNat]?=some x):Bk (.fz ds) (.int i) M=some x:=by
 obtain⟨J,Y⟩:=ao.mp T;have G:i<ds.length:=by lia
 simp[Bk,Zv,B,G,J,Y]
def aop:qm .len [.fz ds] M=.ok (.int ds.length) M:=rfl
@[simp] def bda(x:D)(r:List D):Bk (.tup (x::r)) (.int 0) M=some x:=Ip (by decide) rfl
@[simp] def bdc(x y:D)(r:List D):Bk (.tup (x::y::r)) (.int 1) M=some y:=Ip (by decide) rfl
@[simp] def bdd(x y z:D)(r:List D):Bk (.tup (x::y::z::r)) (.int 2) M=some z:=Ip (by decide) rfl
def aaf(h:M[n]?=some (.dT Z))(Y:Q3 b=some k):Bk (.ref n) b M=Af Z k:=by simp[Bk,h,Y]
def azu(h:M[n]?=some (.dT Z))(Y:Q3 b=some k):R9 M b (.ref n)=some (Af Z k).isSome:=by simp[R9,h,Y]
def a82(h:M[n]?=some (.dK Z))(Y:Xq b=some k):Bk (.ref n) b M=Af Z k:=by simp[Bk,h,Y]
@[simp] def aag(i j:Int):Q3 (.tup [.int i,.int j])=some [.inl i,.inl j]:=rfl
@[simp] def bis(i:Int):Xq (.int i)=some (.inl i):=rfl
def Ep(h:M[n]?=some (.lst Z)):Oq .append (.ref n) M=true:=by simp[Oq,gr,h]
def abq(h:M[n]?=some (.lst Z))(Y:Z.length<6000000):Ks .append (.ref n) [d] M=.ok .non (M.set n (.lst (Z++[d]))):=by simp[Ks,onL,h,Y]
def Es(h:M[n]?=some (.lst Z))(Y:Z.length<100000):Ks .append (.ref n) [d] M=.ok .non (M.set n (.lst (Z++[d]))):=abq h (d_ Y (by decide))
def abr(h:M[n]?=some (.lst Z))(Y:0<=i)(T:i<Z.length):setOp (.ref n) (.int i) d M=some (M.set n (.lst (Z.set i.toNat d))):=by simp[setOp,h,Zv,Y,T]
def aoq(h:M[n]?=some (.dT Z))(Y:Q3 b=some k)(T:Z.length<100000):setOp (.ref n) b d M=some (M.set n (.dT (Dz Z k d))):=by simp[setOp,h,Y,T]
def xm{M:dz}(h:M[a]?=some o):a<M.length:=(ao.mp h).1
def qx{M:dz}(h:M[a]?=some p):(M.set a o)[a]?=some o:=by rw[Ax (xm h)]
def mj{M:dz}(h:b≠a):(M.set b o)[a]?=M[a]?:=vy h
def yx{M:dz}{a:Nat}(h:M[a]?=some o):(M++X)[a]?=some o:=by rw[gn (xm h)];exact h
@[simp] def Et{M:dz}:(M++[o])[M.length]?=some o:=by simp
theorem Xw(x:Int):∀l,(insI x l).Perm (x::l)
 |[]=>Ah _
 |y::l=>by
  unfold insI;split
  .exact Ah _
  .exact((Xw x l).cons y).trans (List.Perm.swap x y l)
theorem Ln:∀l,(sortI l).Perm l
 |[]=>Ah _|x::l=>(Xw x _).trans ((Ln l).cons x)
theorem aor(x:Int):∀{l:Xs},l.Pairwise (·<=·)->(insI x l).Pairwise (·<=·)
 |[],_=>List.pairwise_singleton _ _
 |y::l,h=>by
  obtain⟨T,G⟩:=zg.mp h;unfold insI;split
  .refine zg.mpr ⟨λz Y=>?_,h⟩
   rcases dh.mp Y with rfl|Y
   .lia
   .have:=T z Y;lia
  .refine zg.mpr ⟨λz Y=>?_,aor x G⟩
   rcases dh.mp ((Xw x l).mem_iff.mp Y)with rfl|Y
   .lia
   .exact T z Y
theorem air:∀l,(sortI l).Pairwise (·<=·)
 |[]=>List.Pairwise.nil|x::l=>aor x (air l)
theorem U9(k:Int):∀l,k∈Bp l↔k∈l
 |[]=>Iff.rfl
 |x::l=>by
  unfold Bp;split
  .rename_i h
   rw[U9 k l,dh];exact⟨.inr,λz=>z.elim (λe=>e▸h) id⟩
  .rw[dh,dh,U9 k l]
theorem abt:∀l,(Bp l).Nodup
 |[]=>Bs
 |x::l=>by
  unfold Bp;split
  .exact abt l
  .rename_i h
   exact uf.mpr ⟨λz=>h ((U9 x l).mp z),abt l⟩
theorem aos:∀l,(Bp l).length<=l.length
 |[]=>bz _
 |x::l=>by
  have:=aos l;unfold Bp;split<;>simp<;>omega
theorem azv:∀{a b:Xs},a.Pairwise (·<=·)->b.Pairwise (·<=·)->a.Nodup->b.Nodup->(∀k,k∈a↔k∈b)->a=b
 |[],[],_,_,_,_,_=>rfl|[],y::b,_,_,_,_,h=>nomatch(h y).mpr fc|x::a,[],_,_,_,_,h=>nomatch(h x).mp fc
 |x::a,y::b,ha,hb,na,nb,h=>by
  obtain⟨G,Y⟩:=zg.mp ha;obtain⟨B,T⟩:=zg.mp hb;obtain⟨J,N⟩:=uf.mp na;obtain⟨C,O⟩:=uf.mp nb;have e:x=y:=by
   rcases dh.mp ((h x).mp fc)with e|m
   .exact e
   .rcases dh.mp ((h y).mpr fc)with e|m'
    .exact e.symm
    .have:=B x m;have:=G y m';lia
  subst e
  congr 1
  refine azv Y T N O λk=>⟨λm=>?_,λm=>?_⟩
  .rcases dh.mp ((h k).mp (bw _ m))with rfl|m'
   .exact absurd m J
   .exact m'
  .rcases dh.mp ((h k).mpr (bw _ m))with rfl|m'
   .exact absurd m C
   .exact m'
def ais(Y:ns.Pairwise (·<=·))(T:ns.Nodup)(G:∀k,k∈l↔k∈ns):ns=sortI (Bp l):=
 azv Y (air _) T ((Ln _).nodup_iff.mpr (abt l)) λk=>by rw[(Ln _).mem_iff,U9,G]
noncomputable abbrev Ex.xx(a b c:Ex):Ex:=.ix (.ix a b) c
noncomputable abbrev Ex.tp(a:Ex):Ex:=.blt .tuple (.o a)
noncomputable abbrev De.ap(a b:Ex):De:=.expr (.bm .append a (.o b))
noncomputable abbrev Ex.cp(n:Nat)(i:Q8)(e:Ex):Ex:=.comp true 1 (.name n) i e
noncomputable abbrev De.fr(n:Nat)(e:Ex)(b:ql):De:=.for_ (.name n) (.U4 e) b
noncomputable abbrev De.fv(n:Nat)(e:Ex)(b:ql):De:=.for_ (.name n) (.val e) b
noncomputable abbrev De.as(l:Y3)(e:Ex):De:=.asg (.tg (.names l)) e
noncomputable abbrev De.pt(a b e:Ex):De:=.asg (.sub a b) e
abbrev Ex.k2(n:Nat)(a b:Ex):Ex:=.call n (.p a b)
abbrev Ex.k3(n:Nat)(a b c:Ex):Ex:=.call n (.q a b c)
noncomputable abbrev Ex.t2(a b:Ex):Ex:=.tup (.p a b)
noncomputable abbrev Ex.t3(a b c:Ex):Ex:=.tup (.q a b c)
end MW
namespace K33
open MW
noncomputable abbrev V0:Ex:=.var 0
noncomputable abbrev V1:Ex:=.var 1
noncomputable abbrev V2:Ex:=.var 2
noncomputable abbrev V3:Ex:=.var 3
noncomputable abbrev V4:Ex:=.var 4
noncomputable abbrev V5:Ex:=.var 5
noncomputable abbrev V6:Ex:=.var 6
noncomputable abbrev V7:Ex:=.var 7
noncomputable abbrev V8:Ex:=.var 8
noncomputable abbrev V9:Ex:=.var 9
noncomputable abbrev V10:Ex:=.var 10
noncomputable abbrev V11:Ex:=.var 11
noncomputable abbrev V12:Ex:=.var 12
noncomputable abbrev V13:Ex:=.var 13
noncomputable abbrev V19:Ex:=.var 19
noncomputable abbrev I0:Ex:=.i 0
noncomputable abbrev I1:Ex:=.i 1
noncomputable abbrev I2:Ex:=.i 2
noncomputable section
def Lp:ql:=.c (.expr (.k2 9 V1 V2)) (.c (.expr (.k2 10 V2 V3)) (.c (.expr (.k2 11 V2 V3)) (.q (.asg (.fld V0 2) V1) (.asg (.fld V0 1) V2) (.asg (.fld V0 0) (.blt .dict (.o V3))))))
def Lq:Fn:=⟨4,4,Lp⟩
def Lr:ql:=.o (.ret (.fld V0 1))
def Bh:Fn:=⟨1,1,Lr⟩
def Ka:ql:=.q (.f (.cmp .eq V1 (.i (-1))) (.o (.ret V2))) (.f (.cmp .eq V2 (.i (-1))) (.o (.ret V1))) (.ret (.ix V0 (.t2 V1 V2)))
def Kc:Fn:=⟨3,3,Ka⟩
def Eb:ql:=.o (.f (.cmp .eq (.ix V3 I1) (.ix V5 I0)) (.o (.ap V1 (.t2 V2 V4))))
def Kd:De:=.for_ (.names [4,5]) (.enm V0) Eb
def Ke:ql:=.o Kd
def Kf:De:=.for_ (.names [2,3]) (.enm V0) Ke
def Ny:ql:=.q (.a 1 (.lst .z)) Kf (.ret V1)
def Nz:Fn:=⟨1,6,Ny⟩
def Gk:ql:=.p (.f (.cmp .eq V1 (.i (-1))) (.o (.ret (.cmp .eq V2 V3)))) (.ret (.and (.chain .le .lt I0 V1 (.l V0)) (.cmp .eq (.ix V0 V1) (.t2 V2 V3))))
def Gm:Fn:=⟨4,4,Gk⟩
def Ls:ql:=.o (.f (.not (.and (.chain .le .lt I0 (.ix V2 I0) V0) (.chain .le .lt I0 (.ix V2 I1) V0))) (.o .raise))
def Lw:De:=.fv 2 V1 Ls
def O2:ql:=.q (.f (.not (.chain .le .le I1 V0 (.i 3))) (.o .raise)) (.f (.cmp .gt (.l V1) (.i 5)) (.o .raise)) Lw
def O3:Fn:=⟨2,3,O2⟩
def N5:ql:=.o (.f (.not (.call 8 (.c V0 (.q (.ix V1 (.t2 V3 V4)) (.xx V0 V3 I0) (.xx V0 V4 I1))))) (.o .raise))
def N6:De:=.for_ (.names [3,4]) (.val V2) N5
def Q9:ql:=.q (.a 2 (.call 7 (.o V0))) (.f (.Xp V1 V2) (.o .raise)) N6
def Ra:Fn:=⟨2,5,Q9⟩
def Gp:ql:=.c (.f (.cmp .Tu (.t2 V4 V5) V1) (.o .cont)) (.q (.a 6 (.k3 6 V1 (.ix V1 (.t2 V3 V4)) V5)) (.a 7 (.k3 6 V1 V3 (.ix V1 (.t2 V4 V5)))) (.f (.cmp .ne V6 V7) (.o .raise)))
def Lx:De:=.fr 5 (.l V0) Gp
def Ly:ql:=.o Lx
def Lz:De:=.for_ (.names [3,4]) (.val V2) Ly
def O4:ql:=.p (.a 2 (.call 7 (.o V0))) Lz
def O5:Fn:=⟨2,8,O4⟩
def Ir:ql:=.p (.f (.cmp .lt V1 (.l V0)) (.o (.ret (.ix V0 V1)))) (.ret I0)
def Iu:Fn:=⟨2,2,Ir⟩
def Ms:ql:=.q (.a 2 (.k2 12 V0 V1)) (.f (.cmp .ge V2 (.bin .pow (.i 10) (.i 18))) (.o (.ret (.lst (.p (.bin .sub V2 (.bin .pow (.i 10) (.i 18))) (.cst (.bl true))))))) (.ret (.lst (.p (.bin .mod V2 (.i 2147483647)) (.cst (.bl false)))))
def Mt:Fn:=⟨2,3,Ms⟩
def O6:ql:=.c (.f (.ix V0 I1) (.q (.a 2 (.bin .mod (.ix V0 I0) V1)) (.pt V0 I0 (.bin .fdiv (.ix V0 I0) V1)) (.ret V2))) (.c (.pt V0 I0 (.bin .mod (.bin .add (.bin .mul (.ix V0 I0) (.i 48271)) (.i 29)) (.i 2147483647))) (.q (.a 3 (.bin .mod (.bin .add (.bin .add (.bin .mul (.ix V0 I0) (.ix V0 I0)) (.bin .mul (.i 39373) (.ix V0 I0))) (.i 7)) (.i 2147483629))) (.a 3 (.bin .mod (.bin .add (.bin .mul V3 V3) (.bin .mul (.i 16807) V3)) (.i 2147483587))) (.ret (.bin .mod (.bin .fdiv V3 (.i 8)) V1))))
def O7:Fn:=⟨2,4,O6⟩
def Iw:Ex:=.cp 12 (.U4 (.ix V7 V10)) (.k2 14 V0 (.ix V7 V11))
def Fi:ql:=.q (.a 10 (.k2 14 V0 V6)) (.a 11 (.k2 14 V0 V6)) (.ap V8 (.t3 V10 V11 (.tp Iw)))
def Iz:De:=.fr 9 (.k2 14 V0 (.i 4)) Fi
def Ja:Ex:=.cp 12 (.U4 V6) (.bin .add I1 (.k2 14 V0 (.i 3)))
def Mu:ql:=.c (.a 1 (.k2 14 V0 (.i 12))) (.c (.f (.cmp .lt V1 (.i 7)) (.c (.a 2 (.Lh (.p (.t3 I0 I1 (.t2 I0 I1)) (.t3 I0 I1 (.t2 I1 I0))))) (.c (.a 3 (.Lh (.q (.t3 I0 I1 (.tup (.c I0 (.q I0 I1 I1)))) (.t3 I0 I1 (.tup (.c I0 (.q I1 I0 I1)))) (.t3 I1 I0 (.t2 I0 (.i 3)))))) (.q (.a 4 (.Lh (.o (.t3 I0 I0 (.t2 I1 I0))))) (.a 5 (.Lh (.c V2 (.c V3 (.c V4 (.c (.Lh (.o (.t3 I0 I0 (.t3 I1 I2 I0)))) (.q (.Lh (.o (.t3 I0 I0 (.t2 I0 I0)))) (.Lh .z) (.Lh (.p (.t3 I0 I1 (.t2 I0 I1)) (.t3 I1 I2 (.t3 I0 I0 I1))))))))))) (.ret (.ix V5 V1)))))) (.c (.a 6 (.bin .add I1 (.k2 14 V0 (.i 3)))) (.c (.a 7 Ja) (.q (.a 8 (.lst .z)) Iz (.ret V8)))))
def Ek:Fn:=⟨1,12,Mu⟩
def Hb:Ex:=.cp 10 (.val (.ix V7 I2)) (.xx V8 I2 V10)
def Dt:ql:=.c (.a 4 (.tup .z)) (.q (.f (.cmp .eq (.ix V7 I1) (.ix V8 I0)) (.o (.a 4 (.tp Hb)))) (.a 9 (.t3 (.ix V7 I0) (.ix V8 I1) V4)) (.f (.and (.cmp .ne V4 (.tup .z)) (.and (.cmp .Tu V9 V1) (.or (.cmp .ne (.ix V9 I0) (.ix V9 I1)) (.cmp .ne V4 (.Zu (.l V4)))))) (.o (.ap V1 V9))))
def Hc:De:=.for_ (.names [7,8]) (.val (.Lh (.p (.t2 (.ix V1 V5) (.ix V1 V6)) (.t2 (.ix V1 V6) (.ix V1 V5))))) Dt
def Hd:ql:=.o Hc
def Hf:De:=.fr 6 (.l V1) Hd
def N7:ql:=.p Hf (.a 5 (.bin .add V5 I1))
def Hg:De:=.whl (.and (.cmp .lt V5 (.l V1)) (.cmp .lt (.l V1) (.i 6))) N7
def Aw:ql:=.o (.f (.and (.or (.cmp .ne V2 V3) (.cmp .ne V4 (.Zu (.l V4)))) (.cmp .Tu (.t3 V2 V3 V4) V1)) (.o (.ap V1 (.t3 V2 V3 V4))))
def Hh:De:=.for_ (.names [2,3,4]) (.val V0) Aw
def Rb:ql:=.c (.a 1 (.lst .z)) (.c Hh (.q (.a 5 I0) Hg (.ret V1)))
def Rc:Fn:=⟨1,10,Rb⟩
def Gq:Ex:=.comp true 3 (.names [8,9,10]) (.val V2) (.t2 V8 V9)
def Gr:Ex:=.cp 8 (.val (.xx V2 V5 I2)) (.xx (.ix V2 V6) I2 V8)
def Dg:ql:=.o (.f (.cmp .eq (.xx V2 V5 I1) (.xx V2 V6 I0)) (.p (.a 7 (.t3 (.xx V2 V5 I0) (.xx V2 V6 I1) (.tp Gr))) (.pt V4 (.t2 V5 V6) (.ite (.cmp .inn V7 V2) (.bm .index V2 (.o V7)) (.neg I1)))))
def Ma:De:=.fr 6 (.l V2) Dg
def Mf:ql:=.o Ma
def El:De:=.fr 5 (.l V2) Mf
def Gu:Ex:=.comp true 3 (.names [8,9,10]) (.val V2) (.blt .max (.p V8 V9))
def Mg:ql:=.p (.a 1 (.cut V1 .none (.some (.neg I1)))) (.a 2 (.call 16 (.o V1)))
def Gv:De:=.whl (.cmp .gt (.l V2) (.i 5)) Mg
def O8:ql:=.c (.a 1 (.call 15 (.o V0))) (.c (.a 2 (.call 16 (.o V1))) (.c Gv (.c (.a 3 (.bin .add I1 (.blt .max (.o (.bin .add Gu (.Lh (.o I0))))))) (.c (.f (.cmp .eq V2 (.Lh .z)) (.o (.a 3 (.bin .add I1 (.k2 14 V0 (.i 3)))))) (.q (.a 4 .agy) El (.ret (.t3 V3 (.tp Gq) V4)))))))
def O9:Fn:=⟨1,8,O8⟩
def Ku:Ex:=.Ef true 1 (.name 2) (.U4 (.l (.ix V0 I1))) (.cmp .eq (.xx (.ix V0 I1) V2 I0) V1) V2
def Vt:ql:=.o (.ret (.bin .add (.Lh (.o (.neg I1))) Ku))
def Vu:Fn:=⟨2,2,Vt⟩
def Mv:ql:=.o (.ret (.ite (.cmp .lt V2 I0) V1 (.xx (.ix V0 I1) V2 I1)))
def Mw:Fn:=⟨3,3,Mv⟩
def G5:ql:=.p (.f (.or (.cmp .lt V1 I0) (.cmp .lt V2 I0)) (.o (.ret (.bin .add (.bin .add V1 V2) I1)))) (.ret (.xx V0 I2 (.t2 V1 V2)))
def G6:Fn:=⟨3,3,G5⟩
def Pa:Ex:=.cp 1 (.val (.ix V0 I0)) (.Zu V1)
def aah:ql:=.o (.ret (.tp Pa))
def aai:Fn:=⟨1,1,aah⟩
def Sd:Ex:=.comp true 2 (.names [8,9]) (.zip (.p (.call 22 (.o V2)) (.ix V1 I0))) (.k2 24 V8 V9)
def Xx:ql:=.o (.ap V4 (.bin .add (.xx V1 I1 V5) (.k2 24 (.xx V2 I1 V5) (.xx V1 I0 (.ix V6 I1)))))
def Sh:De:=.for_ (.names [5,6]) (.enm (.meth V0 0)) Xx
def Sq:Ex:=.comp true 2 (.names [8,9]) (.zip (.p (.ix V1 I0) (.ix V2 I0))) (.bin .add V8 V9)
def ad9:ql:=.c (.a 3 (.tp Sq)) (.c (.a 4 (.lst .z)) (.q Sh (.a 7 (.tp Sd)) (.ret (.t3 (.t2 V3 (.tp V4)) (.call 22 (.o V1)) V7))))
def aea:Fn:=⟨3,8,ad9⟩
def Ss:Ex:=.cp 2 (.val V0) (.bin .add V2 V1)
def aeb:ql:=.o (.ret (.tp Ss))
def aec:Fn:=⟨2,2,aeb⟩
def Su:Ex:=.comp true 2 (.names [2,3]) (.zip (.p V0 V1)) (.bin .add V2 V3)
def aed:ql:=.o (.ret (.tp Su))
def aee:Fn:=⟨2,2,aed⟩
def N8:Ex:=.cp 13 (.val (.ix V1 V6)) (.ite (.cmp .eq V13 V12) V11 V13)
def Eu:ql:=.c (.a 9 (.xx V1 V5 V8)) (.q (.a 10 (.xx V1 V6 (.xx V2 V4 V8))) (.f (.cmp .ne (.bm .get V7 (.p V9 V10)) V10) (.c (.a 11 (.blt .min (.p (.ix V7 V9) V10))) (.c (.a 12 (.blt .max (.p (.ix V7 V9) V10))) (.c (.pt V1 V6 N8) (.q (.a 3 (.cst (.bl true))) (.a 7 .agz) .brk))))) (.pt V7 V9 V10))
def Hi:De:=.fr 8 (.l (.ix V1 V5)) Eu
def Hj:ql:=.q (.as [5,6] (.xx V0 I1 V4)) (.a 7 .agz) Hi
def Hk:De:=.fr 4 (.l (.ix V0 I1)) Hj
def Hl:ql:=.p (.a 3 (.cst (.bl false))) Hk
def Hm:De:=.whl V3 Hl
def Rf:ql:=.q (.a 3 (.cst (.bl true))) Hm (.ret V1)
def Rg:Fn:=⟨3,13,Rf⟩
def Jb:Ex:=.cp 19 (.val (.v 16)) (.l V19)
def Jc:Ex:=.cp 19 (.val (.v 18)) (.bm .index (.ix (.v 16) V12) (.o V19))
def Jd:Ex:=.cp 19 (.val (.ix (.v 16) V11)) (.xx V13 V12 (.xx V9 V10 V19))
def Je:ql:=.q (.as [11,12] (.xx V1 I1 V10)) (.a 18 Jd) (.ap (.v 17) (.tp Jc))
def Jf:De:=.fr 10 (.l (.ix V1 I1)) Je
def Jg:Ex:=.cp 19 (.val V13) (.blt .J7 (.o V19))
def Pb:Ex:=.cp 19 (.val (.ix V13 V5)) (.ite (.cmp .eq V19 (.v 15)) (.v 14) V19)
def Fj:ql:=.c (.a 5 (.k2 14 V0 (.ix V1 I0))) (.q (.a 11 (.k2 14 V0 (.i 7))) (.a 12 (.k2 14 V0 (.i 7))) (.f (.cmp .lt (.blt .max (.p V11 V12)) (.l (.ix V13 V5))) (.c (.a 14 (.blt .min (.p (.xx V13 V5 V11) (.xx V13 V5 V12)))) (.q (.a 15 (.blt .max (.p (.xx V13 V5 V11) (.xx V13 V5 V12)))) (.pt V13 V5 Pb) (.a 13 (.k3 26 V1 V13 V9))))))
def Jh:De:=.fr 10 (.k2 14 V0 (.i 4)) Fj
def Ji:Ex:=.comp false 1 (.name 19) (.val V3) (.ag1 (.l V19))
def Jj:Ex:=.comp true 3 (.names [19,20,21]) (.val (.ix V3 V11)) (.bm .index (.ix V3 V12) (.o (.t3 V19 (.v 20) (.k3 20 V1 (.v 21) V10))))
def Pg:ql:=.p (.as [11,12] (.xx V1 I1 V10)) (.ap V9 Jj)
def Jk:De:=.fr 10 (.l (.ix V1 I1)) Pg
def Jl:Ex:=.cp 19 (.val V3) (.l V19)
def Jm:ql:=.o (.ap (.ix V3 V7) (.t3 V4 V5 V8))
def Jo:De:=.for_ (.names [7,8]) (.val V6) Jm
def Jp:Ex:=.cp 19 (.val (.k2 18 V1 V5)) (.t2 (.k3 19 V1 V5 V19) V19)
def Fl:ql:=.q (.a 5 (.k2 14 V0 (.ix V1 I0))) (.a 6 Jp) (.f (.cmp .lt (.bin .add (.blt .max (.o Jl)) (.l V6)) (.i 8)) (.o Jo))
def Jq:De:=.fr 4 (.k2 14 V0 (.bin .add V2 I1)) Fl
def Oa:Ex:=.cp 19 (.U4 (.ix V1 I0)) (.lst .z)
def T5:ql:=.c (.a 3 Oa) (.c Jq (.c (.a 9 (.lst .z)) (.c Jk (.c (.a 13 Ji) (.c Jh (.c (.a 16 Jg) (.q (.a 17 (.lst .z)) Jf (.ret (.t2 (.tp Jb) (.tp (.v 17)))))))))))
def T6:Fn:=⟨3,19,T5⟩
def Sv:ql:=.p (.f (.cmp .lt V2 I0) (.o (.ret V1))) (.ret (.xx (.ix V0 I1) V2 V1))
def Sw:Fn:=⟨3,3,Sv⟩
def Fo:ql:=.c (.a 8 (.t2 (.k3 19 V0 (.ix V4 I0) V7) (.k3 28 V1 (.ix V4 I1) V7))) (.q (.a 9 (.k3 28 V2 V5 V7)) (.f (.cmp .ne (.bm .get V6 (.p V8 V9)) V9) (.o (.ret (.cst .non)))) (.pt V6 V8 V9))
def Fp:De:=.fv 7 (.k2 18 V0 (.ix V4 I0)) Fo
def Mx:ql:=.q (.a 6 (.blt .dict (.o V3))) Fp (.ret V6)
def My:Fn:=⟨6,10,Mx⟩
def Ob:Ex:=.Ef true 1 (.name 6) (.val V4) (.cmp .Tu V6 V2) V6
def Oc:Ex:=.Ef true 1 (.name 6) (.val V4) (.cmp .inn V6 V2) V6
def Hn:Ex:=.cp 6 (.U4 (.xx V1 I0 V5)) (.t2 V5 V6)
def Od:ql:=.o (.expr (.bm .extend V4 (.o Hn)))
def Ho:De:=.fr 5 (.ix V0 I0) Od
def Hq:Ex:=.cp 6 (.val (.xx V1 I1 V3)) (.t2 (.xx (.ix V0 I1) V3 I1) V6)
def Oe:ql:=.o (.expr (.bm .extend V2 (.o Hq)))
def Hr:De:=.fr 3 (.l (.ix V0 I1)) Oe
def Rh:ql:=.c (.a 2 (.lst .z)) (.c Hr (.q (.a 4 (.lst .z)) Ho (.ret (.bin .add Ob Oc))))
def Ri:Fn:=⟨2,6,Rh⟩
def Kv:Ex:=.cp 12 (.U4 (.xx V1 I0 V11)) (.ix V6 (.t2 V11 V12))
def Rj:ql:=.o (.ap V10 (.tp Kv))
def Rm:De:=.fr 11 (.ix V0 I0) Rj
def Kw:ql:=.q (.a 10 (.lst .z)) Rm (.ap V9 (.tp V10))
def Ro:De:=.fv 6 V3 Kw
def Ky:ql:=.p (.a 8 (.call 29 (.c V0 (.c V1 (.c V2 (.q V6 V4 V7)))))) (.f (.cmp .isn V8 (.cst .non)) (.o (.ap V5 V8)))
def Kz:De:=.fr 7 (.xx V2 I0 (.ix V4 I0)) Ky
def K1:ql:=.o (.iff (.cmp .inn V4 V6) (.o (.ap V5 V6)) (.o Kz))
def Rp:De:=.fv 6 V3 K1
def K3:ql:=.q (.a 5 (.lst .z)) Rp (.a 3 V5)
def Rq:De:=.fv 4 (.k2 30 V0 V1) K3
def Vv:ql:=.c (.a 3 (.Lh (.o .agy))) (.c Rq (.q (.a 9 (.lst .z)) Ro (.ret (.blt .sorted (.o V9)))))
def Vw:Fn:=⟨3,12,Vv⟩
def Jr:Ex:=.cp 6 (.U4 (.ix V0 I0)) (.bin .add (.xx V1 I0 V6) (.xx V2 I0 V6))
def Js:Ex:=.cp 6 (.val (.xx V2 I1 V4)) (.bin .add (.xx V1 I0 V5) V6)
def Pj:ql:=.p (.a 5 (.xx (.ix V0 I1) V4 I1)) (.ap V3 (.tp (.bin .add (.blt .list (.o (.xx V1 I1 V4))) Js)))
def Pk:De:=.fr 4 (.l (.ix V0 I1)) Pj
def T7:ql:=.q (.a 3 (.lst .z)) Pk (.ret (.t2 (.tp Jr) (.tp V3)))
def T8:Fn:=⟨3,6,T7⟩
def Pn:ql:=.p (.f (.cmp .eq (.l V1) I0) (.o (.ret (.cst .non)))) (.ret (.ix V1 (.k2 14 V0 (.l V1))))
def Pq:Fn:=⟨2,2,Pn⟩
def K4:Ex:=.comp true 2 (.names [2,3]) (.zip (.p V0 V1)) (.k2 34 V2 V3)
def Kg:ql:=.p (.f (.blt .isSeq (.o V1)) (.q (.f (.or (.cmp .ne (.blt .isTuple (.o V0)) (.blt .isTuple (.o V1))) (.cmp .ne (.blt .isList (.o V0)) (.blt .isList (.o V1)))) (.o (.ret (.cst (.bl false))))) (.f (.cmp .ne (.l V0) (.l V1)) (.o (.ret (.cst (.bl false))))) (.ret (.blt .all (.o K4))))) (.ret (.and (.cmp .eq V0 V1) (.cmp .eq (.blt .isBool (.o V0)) (.blt .isBool (.o V1)))))
def Kh:Fn:=⟨2,2,Kg⟩
def Mz:Ex:=.cp 6 (.U4 (.xx V2 I0 V5)) (.bin .add (.xx V1 I0 V5) V6)
def T9:ql:=.p (.ap V3 (.Zu (.xx V1 I0 V5))) (.ap V4 (.tp Mz))
def Ua:De:=.fr 5 (.ix V0 I0) T9
def Xy:ql:=.c (.a 3 (.lst .z)) (.q (.a 4 (.lst .z)) Ua (.ret (.t3 (.k3 32 V0 V1 V2) (.tp V3) (.tp V4))))
def Xz:Fn:=⟨3,6,Xy⟩
def Dw:Ex:=.cp 9 (.U4 (.ix V1 I0)) (.bin .add (.ix V6 V9) (.ix V7 V9))
def Cr:ql:=.q (.a 6 (.k2 33 V0 (.k3 31 V1 V2 V4))) (.a 7 (.k2 33 V0 (.k3 31 V1 V3 V4))) (.f (.and (.cmp .isn V6 (.cst .non)) (.cmp .isn V7 (.cst .non))) (.p (.a 8 (.tp Dw)) (.f (.not (.k2 34 (.k2 25 V6 V7) V8)) (.o (.ret (.cst (.bl false)))))))
def Gg:De:=.fr 5 I2 Cr
def Hx:ql:=.p Gg (.ret (.cst (.bl true)))
def Hy:Fn:=⟨5,9,Hx⟩
def abu:ql:=.o (.f (.not (.k2 34 (.k3 23 V3 V9 V10) (.k3 35 V2 V9 V10))) (.o (.ret (.cst (.bl false)))))
def ait:De:=.for_ (.names [9,10]) (.val (.Lh (.c (.t2 V4 V5) (.c (.t2 V6 V8) (.c (.t2 V8 V4) (.q (.t2 V7 V4) (.t2 V5 V7) (.t2 V4 V5))))))) abu
def abv:Ex:=.cp 11 (.U4 (.i 3)) (.k3 27 V1 V2 (.i 3))
def azx:ql:=.c (.a 1 (.k2 13 V0 I0)) (.c (.a 2 (.call 17 (.o V1))) (.c (.a 3 (.make 2 (.q (.ix V2 I0) (.ix V2 I1) (.blt .dict (.o (.ix V2 I2)))))) (.c (.as [4,5,6] abv) (.c (.a 7 (.t2 (.bin .mul (.tup (.o I0)) (.ix V2 I0)) (.bin .mul (.tup (.o (.tup .z))) (.l (.ix V2 I1))))) (.q (.a 8 (.k3 32 V2 V4 V5)) ait (.ret (.and (.call 36 (.c V1 (.c V2 (.q V4 V5 V6)))) (.call 36 (.c V1 (.c V2 (.q V6 V6 V4)))))))))))
def aou:Fn:=⟨1,11,azx⟩
def prog:Prog:=⟨[Lq,Bh,Bh,Bh,Bh,Bh,Kc,Nz,Gm,O3,Ra,O5,Iu,Mt,O7,Ek,Rc,O9,Vu,Mw,G6,Bh,aai,aea,aec,aee,Rg,T6,Sw,My,Ri,Vw,T8,Pq,Kh,Xz,Hy,aou],[⟨0,[]⟩,⟨0,[]⟩,⟨0,[(0,2)]⟩]⟩
end
end K33
namespace MW
theorem abw{fin:dz->Bool}{item:Nat->dz->Option D}{T:D->Env->dz->Res (Flow×Env)}(I:Nat->Env->dz->Prop){n:Nat}
 (step:∀i Y M,i<n->I i Y M->∃d fl Z U,item i M=some d/\T d Y M=.ok (fl,Z) U/\(fl=.next\/fl=.cont)/\I (i+1) Z U) (B:∀Y M,I n Y M->fin M=true) :
 ∀(k i:Nat)(Y:Env)(M:dz),i+k=n->I i Y M->∃Z U,Dj fin item T k i Y M=.ok (.next,Z) U/\I n Z U
 |0,i,Y,M,e,h=>by
  have q:i=n:=by lia
  rw[q]at h;exact⟨Y,M,by simp[Dj,B Y M h],h⟩
 |k+1,i,Y,M,e,h=>by
  obtain⟨d,fl,J,O,P,C,E,N⟩:=step i Y M (by lia) h;obtain⟨G,S,L,R⟩:=abw I step B k (i+1) J O (by lia) N;refine⟨G,S,?_,R⟩;rcases E with rfl|rfl<;>simp[Dj,P,C,L]
def W5(I:Nat->Env->dz->Prop)(T:I 0 U M)(step:∀i d U M,ds[i]?=some d->I i U M->∃fl Z M',body d U M=.ok (fl,Z) M'/\(fl=.next\/fl=.cont)/\I (i+1) Z M') :
 ∃Z M',Dj (Src.con ds).fin (Src.con ds).item body (Src.con ds).len 0 U M=.ok (.next,Z) M'/\I ds.length Z M':=by
 refine abw I (λi U M Y h=>?_) (λ_ _ _=>rfl) ds.length 0 U M (u5 _) T;obtain⟨fl,Z,M',a,b,c⟩:=step i ds[i] U M (by simp[Y]) h;exact⟨ds[i],fl,Z,M',by simp[Src.item,Y],a,b,c⟩
def abx(I:Nat->Env->dz->Prop)(G:I 0 ρ M)(step:∀i ρ M,i<n->I i ρ M->∃U Z M',body (.int i) ρ M=.ok (U,Z) M'/\(U=.next\/U=.cont)/\I (i+1) Z M') :
 ∃Z M',Dj (Src.con ((List.range n).map λ(k:Nat)=>D.int (k:Int))).fin (Src.con ((List.range n).map λ(k:Nat)=>D.int (k:Int))).item body (Src.con ((List.range n).map λ(k:Nat)=>D.int (k:Int))).len 0 ρ M=.ok (.next,Z) M'/\I n Z M':=by
 have:=W5 (ds:=(List.range n).map λ(k:Nat)=>D.int (k:Int)) (body:=body) I G (λi d ρ M Y h=>by
  have T:i<n:=by have:=(ao.mp Y).1;simpa using this
  rw[ig,wy T]at Y;have Y:D.int (i:Int)=d:=by simpa using Y
  subst Y;exact step i ρ M T h)
 simpa using this
def aov(I:Nat->Env->dz->Prop)(T:I 0 U M)(stay:∀i U M,I i U M->M[p]?=some (.lst ds))(step:∀i d U M,ds[i]?=some d->I i U M->∃fl Z M',body d U M=.ok (fl,Z) M'/\(fl=.next\/fl=.cont)/\I (i+1) Z M') :
 ∃Z M',Dj (Src.live p ds.length).fin (Src.live p ds.length).item body (Src.live p ds.length).len 0 U M=.ok (.next,Z) M'/\I ds.length Z M':=by
 refine abw I (λi U M Y h=>?_) (λU M h=>by simp[Src.fin,stay _ U M h]) ds.length 0 U M (u5 _) T;obtain⟨fl,Z,M',a,b,c⟩:=step i ds[i] U M (by simp[Y]) h;exact⟨ds[i],fl,Z,M',by simp[Src.item,stay i U M h,Y],a,b,c⟩
theorem Jt{fin:dz->Bool}{item:Nat->dz->Option D}{body:D->dz->Res (Option D)}(I:Nat->List D->dz->Prop){n:Nat}
 (step:∀i Y M,i<n->I i Y M->∃d o Z,item i M=some d/\body d M=.ok o Z/\I (i+1) (Y++o.toList) Z) (T:∀Y M,I n Y M->fin M=true) :
 ∀(k i:Nat)(Y:List D)(M:dz),i+k=n->I i Y M->∃U Z,Eg fin item body k i M=.ok U Z/\I n (Y++U) Z
 |0,i,Y,M,e,h=>by
  have q:i=n:=by lia
  rw[q]at h;exact⟨[],M,by simp[Eg,T Y M h],by simpa using h⟩
 |k+1,i,Y,M,e,h=>by
  obtain⟨d,o,G,O,J,C⟩:=step i Y M (by lia) h;obtain⟨U,L,B,N⟩:=Jt I step T k (i+1) (Y++o.toList) G (by lia) C;refine⟨o.toList++U,L,?_,by rw[<-wj];exact N⟩;cases o<;>simp[Eg,O,J,B]
def Va{s:Src}{ds:List D}(B:s.fin M=true)(C:s.len=ds.length)(O:∀i,i<ds.length->s.item i M=ds[i]?)(h:∀d∈ds,body d M=.ok (g d) M) :
 Eg s.fin s.item body s.len 0 M=.ok (ds.filterMap g) M:=by
 obtain⟨E,Y,e,L,J⟩:=Jt (fin:=s.fin) (item:=s.item) (body:=body) (λi G Y=>Y=M/\G=(ds.take i).filterMap g) (n:=ds.length) (λi G Y T N=>by
  obtain⟨rfl,rfl⟩:=N;refine⟨ds[i],g ds[i],Y,by rw[O i T];simp[T],h _ (my T),rfl,?_⟩;rw[Ai,List.filterMap_append];simp[T];cases e:g ds[i]<;>simp[e]) (λG Y h=>by rw[h.1];exact B) ds.length 0 [] M (u5 _) ⟨rfl,rfl⟩
 rw[C,e,L];simp at J;rw[J]
def aow(h:∀d∈ds,body d M=.ok (some (g d)) M) :
 Eg (Src.con ds).fin (Src.con ds).item body (Src.con ds).len 0 M=.ok (ds.map g) M:=by
 rw[Va (s:=.con ds) (ds:=ds) (g:=λd=>some (g d)) rfl rfl (λi _=>rfl) h,List.filterMap_eq_map']
end MW
namespace MW
theorem Qp{c:Env->dz->Res D}{T:Env->dz->Res (Flow×Env)}(I:Nat->Env->dz->Prop)(G:Env->dz->Prop)
 (step:∀m Y M,I m Y M->(∃U,c Y M=.ok (.bl false) U/\G Y U) \/
  ∃U fl Z M2 m',c Y M=.ok (.bl true) U/\T Y U=.ok (fl,Z) M2/\(fl=.next\/fl=.cont)/\m'<m/\I m' Z M2) :
 ∀(k m:Nat)(Y:Env)(M:dz),m<k->I m Y M->∃Z M',G4 c T k Y M=.ok (.next,Z) M'/\G Z M'
 |0,m,_,_,h,_=>absurd h (ug _)
 |k+1,m,Y,M,h,hI=>by
  rcases step m Y M hI with⟨U,O,C⟩|⟨U,fl,B,M2,m',O,C,S,R,L⟩
  .exact⟨Y,U,by simp[G4,O],C⟩
  .obtain⟨J,E,P,N⟩:=Qp I G step k m' B M2 (b_ R (z_ h)) L
   refine⟨J,E,?_,N⟩;rcases S with rfl|rfl<;>simp[G4,O,C,P]
end MW
namespace MW
def vz(M Y:dz):Prop:=∀(a:Nat)(o:MO),M[a]?=some o->Y[a]?=some o
def vz.refl(M:dz):vz M M:=λ_ _ h=>h
def vz.trans(a:vz M Z)(b:vz Z M2):vz M M2:=λx o h=>b x o (a x o h)
def vz.app(M X:dz):vz M (M++X):=λ_ _ h=>yx h
def vz.len(k:vz M Z):M.length<=Z.length:=by
 rcases Nat.eq_zero_or_pos M.length with h|h
 .exact a_ (f_ h) (jd _)
 .have:=xm (k (M.length-1) M[M.length-1] (by simp))
  lia
theorem vz.gr(k:vz M Z)(h:gr M d=some ds):MW.gr Z d=some ds:=by
 cases d with
 |vl Y=>exact h
 |ref n =>
  simp only[MW.gr]at h⊢;cases e:M[n]? with
  |none=>rw[e]at h;simp at h|some o=>rw[e]at h;rw[k n o e];exact h
 |_=>simp[MW.gr]at h
def X3(I:Nat->Env->dz->Prop)(Y:gr M d=some ds)(G:I 0 ρ M)(stay:∀i ρ M,I i ρ M->gr M d=some ds)(step:∀i x ρ M,ds[i]?=some x->I i ρ M->∃U Z M',body x ρ M=.ok (U,Z) M'/\(U=.next\/U=.cont)/\I (i+1) Z M') :
 ∃s,srcOf M d=some s/\∃Z M',Dj s.fin s.item body s.len 0 ρ M=.ok (.next,Z) M'/\I ds.length Z M':=by
 cases d with
 |vl T=>simp[gr]at Y;subst Y;exact⟨_,rfl,W5 I G step⟩
 |ref n =>
  cases e:M[n]? with
  |none=>simp[gr,e]at Y
  |some o =>
   cases o with
   |lst T =>
    simp[gr,e]at Y;subst Y;refine⟨.live n T.length,by simp[srcOf,e],aov I G (λi ρ M h=>?_) step⟩;have:=stay i ρ M h;simp only[gr]at this;split at this<;>simp_all
   |_=>simp[gr,e]at Y
 |_=>simp[gr]at Y
def aiu(Y:ds.length<=100000)(h:∀d∈ds,body d M=.ok (some (g d)) M):Az (.con ds) body M=.ok (ds.map g) M:=by rw[Az,dj (show(Src.con ds).len<=100000 from Y)];exact aow h
def aef(Y:ds.length<=100000)(h:∀d∈ds,body d M=.ok (g d) M):Az (.con ds) body M=.ok (ds.filterMap g) M:=by rw[Az,dj (show(Src.con ds).len<=100000 from Y)];exact Va (s:=.con ds) rfl rfl (λ_ _=>rfl) h
def Pr(Y:gr M d=some ds)(G:ds.length<=100000)(h:∀x∈ds,body x M=.ok (g x) M) :
 ∃s,srcOf M d=some s/\Az s body M=.ok (ds.filterMap g) M:=by
 cases d with
 |vl T=>simp[gr]at Y;subst Y;exact⟨_,rfl,aef G h⟩
 |ref n =>
  cases e:M[n]? with
  |none=>simp[gr,e]at Y
  |some o =>
   cases o with
   |lst T =>
    simp[gr,e]at Y;subst Y;exact⟨.live n T.length,by simp[srcOf,e],by rw[Az,dj (show(Src.live n T.length).len<=100000 from G)];exact Va (s:=.live n T.length) (by simp[Src.fin,e]) rfl (λi _=>by simp[Src.item,e]) h⟩
   |_=>simp[gr,e]at Y
 |_=>simp[gr]at Y
def Il(v:Bool)(k:Nat)(t:Tg)(it:Q8)(e:Ex):(Ex.comp v k t it e).den W U M=(it.den W U M).bind λs M1 =>
 (Az s (λd M=>(Res.v9 (t.put d (U++List.replicate k none)) M).bind λZ M=>(e.den W Z M).bind λx M'=>.ok (some x) M') M1).bind λds M2=>if v then .ok (.vl ds) M2 else new (.lst ds) M2:=by
 rw[Oz]
 congr 1;funext s M1;congr 2;funext d M
 cases t.put d (U++List.replicate k none)<;>rfl
def Pu(v:Bool)(k:Nat)(t:Tg)(it:Q8)(c e:Ex):(Ex.Ef v k t it c e).den W ρ M=(it.den W ρ M).bind λs M1 =>
 (Az s (λd M=>(Res.v9 (t.put d (ρ++List.replicate k none)) M).bind λZ M=>(c.den W Z M).bind λb M' =>
  match b with
   |.bl true=>(e.den W Z M').bind λx U=>.ok (some x) U
   | .bl false=>.ok none M'|_=>.bad) M1).bind λds M2=>if v then .ok (.vl ds) M2 else new (.lst ds) M2:=by
 rw[Xv]
 congr 1;funext s M1;congr 2;funext d M
 cases t.put d (ρ++List.replicate k none)<;>rfl
def Qq(t:Tg)(it:Q8)(b:ql):(De.for_ t it b).den W Z M=(it.den W Z M).bind λs M1=>Dj s.fin s.item (λd Z M=>(Res.v9 (t.put d Z) M).bind λU M=>b.den W U M) s.len 0 Z M1:=by
 rw[U7]
 congr 1;funext s M1;congr 1;funext d Z M
 cases t.put d Z<;>rfl
def yo{W:Jy}{n:Nat}(J:S=De.for_ t (.U4 it) b)(Y:it.den W ρ M=.ok (.int (n:Int)) M1)(O:n<=100000)(I:Nat->Env->dz->Prop)(B:I 0 ρ M1)(step:∀i ρ M,i<n->I i ρ M->∃U fl Z M',t.put (.int i) ρ=some U/\b.den W U M=.ok (fl,Z) M'/\(fl=.next\/fl=.cont)/\I (i+1) Z M') :
 ∃Z M',S.den W ρ M=.ok (.next,Z) M'/\I n Z M':=by
 subst J;rw[Qq,Qo,Y];have G:((n:Int)).natAbs<=100000:=by lia
 simp only[Res.Ca,G,lz,wg];exact abx I B (λi ρ M T h=>by
  obtain⟨U,fl,Z,M',a,b,c,d⟩:=step i ρ M T h;exact⟨fl,Z,M',by rw[a];exact b,c,d⟩)
def Dl{W:Jy}(J:S=De.for_ t (.val it) b)(Y:it.den W ρ M=.ok d M1)(B:gr M1 d=some ds)(I:Nat->Env->dz->Prop)(C:I 0 ρ M1)(stay:∀i ρ M,I i ρ M->gr M d=some ds)(step:∀i x ρ M,ds[i]?=some x->I i ρ M->∃U fl Z M',t.put x ρ=some U/\b.den W U M=.ok (fl,Z) M'/\(fl=.next\/fl=.cont)/\I (i+1) Z M') :
 ∃Z M',S.den W ρ M=.ok (.next,Z) M'/\I ds.length Z M':=by
 subst J;rw[Qq,J9,Y];obtain⟨s,O,T⟩:=X3 (body:=λd ρ M=>(Res.v9 (t.put d ρ) M).bind λZ M=>b.den W Z M) I B C stay (λi x ρ M G h=>by
  obtain⟨U,fl,Z,M',a,b,c,d⟩:=step i x ρ M G h;exact⟨fl,Z,M',by rw[a];exact b,c,d⟩)
 simp only[Res.Ca,O,Res.Dk];exact T
def aeg{W:Jy}(G:S=De.for_ t (.val it) b)(Y:it.den W ρ M=.ok (.tup ds) M1)(I:Nat->Env->dz->Prop)(J:I 0 ρ M1)(step:∀i x ρ M,ds[i]?=some x->I i ρ M->∃U fl Z M',t.put x ρ=some U/\b.den W U M=.ok (fl,Z) M'/\(fl=.next\/fl=.cont)/\I (i+1) Z M') :
 ∃Z M',S.den W ρ M=.ok (.next,Z) M'/\I ds.length Z M':=by
 subst G;rw[Qq,J9,Y];exact W5 I J (λi x ρ M T h=>by
  obtain⟨U,fl,Z,M',a,b,c,d⟩:=step i x ρ M T h;exact⟨fl,Z,M',by rw[a];exact b,c,d⟩)
def Px{W:Jy}(B:S=De.for_ t (.enm it) b)(G:it.den W ρ M=.ok (.tup ds) M1)(I:Nat->Env->dz->Prop)(O:I 0 ρ M1)(step:∀i x ρ M,ds[i]?=some x->I i ρ M->∃U fl Z M',t.put (.tup [.int i,x]) ρ=some U/\b.den W U M=.ok (fl,Z) M'/\(fl=.next\/fl=.cont)/\I (i+1) Z M') :
 ∃Z M',S.den W ρ M=.ok (.next,Z) M'/\I ds.length Z M':=by
 subst B;rw[Qq,aiq,G];have:=W5 (ds:=Li ds 0) (body:=λd ρ M=>(Res.v9 (t.put d ρ) M).bind λZ M=>b.den W Z M) I O (λi x ρ M T h=>by
  have Y:i<ds.length:=by have:=(ao.mp T).1;simpa[Li]using this
  have J:x=.tup [.int i,ds[i]]:=by simp[Li,Y]at T;exact T.symm
  subst J;obtain⟨U,fl,Z,M',a,b,c,d⟩:=step i ds[i] ρ M (by simp[Y]) h;exact⟨fl,Z,M',by rw[a];exact b,c,d⟩)
 have e:(Li ds 0).length=ds.length:=by simp[Li]
 rw[e]at this;exact this
def Cd(T:it.den W U M=.ok d M1)(C:gr M1 d=some ds)(O:ds.length<=100000)(h:∀x∈ds,∃Z,t.put x (U++List.replicate k none)=some Z/\e.den W Z M1=.ok (g x) M1) :
 (Ex.comp v k t (.val it) e).den W U M=if v then .ok (.vl (ds.map g)) M1 else new (.lst (ds.map g)) M1:=by
 rw[Il,J9,T];obtain⟨s,N,J⟩:=Pr (g:=λx=>some (g x)) (body:=λd M=>(Res.v9 (t.put d (U++List.replicate k none)) M).bind λY M=>(e.den W Y M).bind λx G=>.ok (some x) G) C O (λx B=>by
  obtain⟨Z,a,b⟩:=h x B;rw[a];simp[b])
 simp only[Res.Ca,N,Res.Dk,J,List.filterMap_eq_map']
def Ia(T:it.den W U M=.ok (.tup ds) M1)(O:ds.length<=100000)(h:∀x∈ds,∃Z,t.put x (U++List.replicate k none)=some Z/\e.den W Z M1=.ok (g x) M1) :
 (Ex.comp v k t (.val it) e).den W U M=if v then .ok (.vl (ds.map g)) M1 else new (.lst (ds.map g)) M1:=by
 rw[Il,J9,T];have J:=aiu (g:=g) (M:=M1) (body:=λd M=>(Res.v9 (t.put d (U++List.replicate k none)) M).bind λY M=>(e.den W Y M).bind λx G=>.ok (some x) G) O (λx B=>by
  obtain⟨Z,a,b⟩:=h x B;rw[a];simp[b])
 show(Az (.con ds) _ M1).bind _=_;rw[J];rfl
def X4(Y:it.den W U M=.ok (.int (n:Int)) M1)(B:n<=100000)(h:∀i,i<n->∃Z,t.put (.int i) (U++List.replicate k none)=some Z/\c.den W Z M1=.ok (.bl (q i)) M1/\(q i=true->e.den W Z M1=.ok (g i) M1)) :
 (Ex.Ef v k t (.U4 it) c e).den W U M=if v then .ok (.vl (((List.range n).filter q).map g)) M1 else new (.lst (((List.range n).filter q).map g)) M1:=by
 rw[Pu,Qo,Y];have O:((n:Int)).natAbs<=100000:=by lia
 simp only[Res.Ca,O,lz,wg];rw[aef (ds:=(List.range n).map λ(k:Nat)=>D.int (k:Int)) (g:=λd=>match d with|.int i=>if q i.toNat then some (g i.toNat)else none|_=>none) (by simpa using B) (λx G=>by
  obtain⟨i,J,rfl⟩:=bf.mp G;obtain⟨Z,a,b,c⟩:=h i (jk.mp J);rw[a,Res.Dk,Res.Ca,b,Res.Ca];cases e:q i with
  | true=>simp[e,c e]|false=>simp[e])]
 have:(((List.range n).map λ(k:Nat)=>D.int (k:Int)).filterMap λd=>match d with|.int i=>if q i.toNat then some (g i.toNat)else none|_=>none)=((List.range n).filter q).map g:=by
  rw[List.filterMap_map]
  induction List.range n with
  |nil=>rfl|cons a l T=>by_cases e:q a=true<;>simp[e,T]
 rw[this];rfl
theorem aiv{fin:dz->Bool}{item:Nat->dz->Option D}{body:D->Env->dz->Res (Flow×Env)}(I:Nat->Env->dz->Prop)(G:Env->dz->Prop){n:Nat}
 (step:∀i Y M,i<n->I i Y M->∃d fl Z U,item i M=some d/\body d Y M=.ok (fl,Z) U/\(((fl=.next\/fl=.cont)/\I (i+1) Z U)\/(fl=.brk/\G Z U))) (J:∀Y M,I n Y M->fin M=true/\G Y M) :
 ∀(k i:Nat)(Y:Env)(M:dz),i+k=n->I i Y M->∃Z U,Dj fin item body k i Y M=.ok (.next,Z) U/\G Z U
 |0,i,Y,M,e,h=>by
  have q:i=n:=by lia
  rw[q]at h;exact⟨Y,M,by simp[Dj,(J Y M h).1],(J Y M h).2⟩
 |k+1,i,Y,M,e,h=>by
  obtain⟨d,fl,T,C,L,N,⟨P,B⟩|⟨rfl,B⟩⟩:=step i Y M (by lia) h
  .obtain⟨O,S,E,R⟩:=aiv I G step J k (i+1) T C (by lia) B
   refine⟨O,S,?_,R⟩;rcases P with rfl|rfl<;>simp[Dj,L,N,E]
  .exact⟨T,C,by simp[Dj,L,N],B⟩
def aeh{W:Jy}{n:Nat}(C:S=De.for_ t (.U4 it) b)(T:it.den W U M=.ok (.int (n:Int)) M1)(L:n<=100000)(I:Nat->Env->dz->Prop)(Y:Env->dz->Prop)(N:I 0 U M1)(J:∀U M,I n U M->Y U M)(step:∀i U M,i<n->I i U M->∃qq fl Z M',t.put (.int i) U=some qq/\b.den W qq M=.ok (fl,Z) M'/\(((fl=.next\/fl=.cont)/\I (i+1) Z M')\/(fl=.brk/\Y Z M'))) :
 ∃Z M',S.den W U M=.ok (.next,Z) M'/\Y Z M':=by
 subst C;rw[Qq,Qo,T];have O:((n:Int)).natAbs<=100000:=by lia
 simp only[Res.Ca,O,lz,wg];obtain⟨Z,M',e,h⟩:=aiv (fin:=(Src.con ((List.range n).map λ(k:Nat)=>D.int (k:Int))).fin) (item:=(Src.con ((List.range n).map λ(k:Nat)=>D.int (k:Int))).item) (body:=λd U M=>(Res.v9 (t.put d U) M).bind λZ M=>b.den W Z M) I Y (n:=n) (λi U M G h=>by
  obtain⟨qq,fl,Z,M',a,b,c⟩:=step i U M G h;exact⟨.int i,fl,Z,M',by simp[Src.item,G],by rw[a];exact b,c⟩) (λU M h=>⟨rfl,J U M h⟩) n 0 U M1 (u5 _) N
 have B:(Src.con ((List.range n).map λ(k:Nat)=>D.int (k:Int))).len=n:=by simp[Src.len]
 rw[B];exact⟨Z,M',e,h⟩
def aby(T:it.den W ρ M=.ok (.int (n:Int)) M1)(J:n<=100000)(I:Nat->List D->dz->Prop)(C:I 0 [] M1)(step:∀i xs M,i<n->I i xs M->∃Z x M',t.put (.int i) (ρ++List.replicate k none)=some Z/\e.den W Z M=.ok x M'/\I (i+1) (xs++[x]) M') :
 ∃U M',(Ex.comp v k t (.U4 it) e).den W ρ M=(if v then .ok (.vl U) M' else new (.lst U) M')/\I n U M':=by
 rw[Il,Qo,T];have O:((n:Int)).natAbs<=100000:=by lia
 simp only[Res.Ca,O,lz,wg];obtain⟨U,M',g,h⟩:=Jt (fin:=(Src.con ((List.range n).map λ(k:Nat)=>D.int (k:Int))).fin) (item:=(Src.con ((List.range n).map λ(k:Nat)=>D.int (k:Int))).item) (body:=λd M=>(Res.v9 (t.put d (ρ++List.replicate k none)) M).bind λY M=>(e.den W Y M).bind λx M'=>.ok (some x) M') I (n:=n) (λi xs M G h=>by
  obtain⟨Z,x,M',a,b,c⟩:=step i xs M G h;exact⟨.int i,some x,M',by simp[Src.item,G],by rw[a];simp[b],by simpa using c⟩) (λ_ _ _=>rfl) n 0 [] M1 (u5 _) C
 have B:(Src.con ((List.range n).map λ(k:Nat)=>D.int (k:Int))).len=n:=by simp[Src.len]
 refine⟨U,M',?_,by simpa using h⟩;rw[Az,B,dj J,g];rfl
set_option tactic.hygienic true in
def K5(B:it.den W ρ M=.ok d M1)(O:gr M1 d=some ds)(P:ds.length<=100000)(I:Nat->List D->dz->Prop)(H:I 0 [] M1)(stay:∀i Z M,I i Z M->gr M d=some ds)(step:∀i y Z M,ds[i]?=some y->I i Z M->∃Y x M',t.put y (ρ++List.replicate k none)=some Y/\e.den W Y M=.ok x M'/\I (i+1) (Z++[x]) M') :
 ∃G M',(Ex.comp v k t (.val it) e).den W ρ M=(if v then .ok (.vl G) M' else new (.lst G) M')/\I ds.length G M':=by
 rw[Il,J9,B];obtain⟨s,E,Q,R,L⟩:∃s,srcOf M1 d=some s/\s.len=ds.length/\(∀M i,gr M d=some ds->s.item i M=ds[i]?)/\∀M,gr M d=some ds->s.fin M=true:=by
  cases d with
  |vl V=>cases O;exact⟨.con ds,rfl,rfl,λ_ _ _=>rfl,λ_ _=>rfl⟩
  |ref p =>
   have get:∀{M:dz},gr M (.ref p)=some ds->M[p]?=some (.lst ds):=fun{M} h=>by
    simp only[gr]at h;split at h
    .rename_i z;cases h;exact z
    .cases h
   refine⟨.live p ds.length,by simp[srcOf,get O],rfl,λM i h=>by simp[Src.item,get h],λM h=>by simp[Src.fin,get h]⟩
  |_=>cases O
 simp only[Res.Ca,E,Res.Dk];obtain⟨G,M',g,h⟩:=Jt (fin:=s.fin) (item:=s.item) (body:=λd M=>(Res.v9 (t.put d (ρ++List.replicate k none)) M).bind λT M=>(e.den W T M).bind λx M'=>.ok (some x) M') I (n:=ds.length) (λi Z M N h=>by
  obtain⟨Y,x,M',a,b,c⟩:=step i ds[i] Z M (by simp[N]) h;exact⟨ds[i],some x,M',by rw[R M i (stay i Z M h)];simp[N],by rw[a];simp[b],by simpa using c⟩) (λZ M h=>L M (stay _ Z M h)) ds.length 0 [] M1 (u5 _) H
 refine⟨G,M',?_,by simpa using h⟩;rw[Az,Q,dj P,g];rfl
def Vc{Y:Type}{f g:Y->Nat}{l:List Y}(h:∀x∈l,f x<=g x):(l.map f).sum<=(l.map g).sum:=by
 induction l with
 |nil=>exact bz _
 |cons a l T =>
  rw[gq,gq,u0,u0];exact Nat.add_le_add (h a (by simp)) (T λx G=>h x (bw _ G))
def sum_filter{Y:Type}{f:Y->Nat}{p:Y->Bool}{l:List Y}:((l.filter p).map f).sum<=(l.map f).sum:=by
 induction l with
 |nil=>exact bz _
 |cons a l T =>
  rw[An,gq,u0];split
  .rw[gq,u0];exact By T _
  .exact gf T (Bg _ _)
open Classical in
def red{B:Type}{R:B->B->Prop}(tr:∀{a b c},R a b->R b c->R a c)(c:B->Nat)(G:List B) :
 ∃Z:List B,(∀g∈Z,g∈G)/\(∀g∈G,∃h∈Z,h=g\/R h g)/\Z.Pairwise (λa b=>¬R a b/\¬R b a)/\(Z.map c).sum<=(G.map c).sum:=by
 induction G with
 |nil=>exact⟨[],by simp,by simp,.nil,bz _⟩
 |cons g G P =>
  obtain⟨Z,L,C,N,O⟩:=P
  by_cases z:∃h∈Z,R h g
  .obtain⟨h,J,T⟩:=z
   refine⟨Z,λx Y=>bw _ (L x Y),λx Y=>?_,N,?_⟩
   .rcases dh.mp Y with q|q
    .exact⟨h,J,.inr (q▸T)⟩
    .exact C x q
   .rw[gq,u0];exact gf O (Bg _ _)
  .refine⟨g::Z.filter (λh=>decide (¬R g h)),λx Y=>?_,λx Y=>?_,?_,?_⟩
   .rcases dh.mp Y with q|q
    .rw[q];simp
    .exact bw _ (L x (jg.mp q).1)
   .rcases dh.mp Y with q|q
    .exact⟨g,by simp,.inl q.symm⟩
    .obtain⟨h,J,T⟩:=C x q
     by_cases y:R g h
     .refine⟨g,by simp,.inr ?_⟩
      rcases T with rfl|T
      .exact y
      .exact tr y T
     .exact⟨h,bw _ (jg.mpr ⟨J,v8 y⟩),T⟩
   .refine zg.mpr ⟨λh J=>?_,N.filter _⟩
    obtain⟨S,E⟩:=jg.mp J;exact⟨kh E,λq=>z ⟨h,S,q⟩⟩
   .rw[gq,gq,u0,u0]
    exact By (gf sum_filter O) _
def ag5{Y:Type}(p:Y->Bool)(l:List Y):(l.filter p).length+(l.filter λx=>!p x).length=l.length:=by
 induction l with
 |nil=>rfl
 |cons a l T =>
  rw[An,An];cases p a<;>simp<;>lia
def X5{G:Type}{l:List G}{p:G->Bool}{a b:G}(B:a∈l)(J:b∈l)(n:a≠b)(C:p a=false)(O:p b=false):(l.filter p).length<=l.length-2:=by
 have e:=ag5 p l;have T:a∈l.filter (λx=>!p x):=jg.mpr ⟨B,by rw[C];rfl⟩;have Y:b∈l.filter (λx=>!p x):=jg.mpr ⟨J,by rw[O];rfl⟩;have:2<=(l.filter (λx=>!p x)).length:=by
  generalize l.filter (λx=>!p x)=y at T Y
  match y,T,Y with
  |[x],T,Y=>exact absurd ((ie.mp T).trans (ie.mp Y).symm) n|_::_::_,_,_=>simp
 lia
structure Plc(α:Type)where
 V:α->Prop
 W:α->List Int
 mv:α->Int->α
 st:∀p,-1∈W p/\mv p (-1)=p
 cl:∀{p w},V p->w∈W p->V (mv p w)
 tw:∀{p w v},V p->w∈W p->v∈W (mv p w)->∃u∈W p,mv p u=mv (mv p w) v
namespace Plc
variable{α:Type}(S:Plc α)
def R(p q:α):Prop:=S.V p/\∃w∈S.W p,q=S.mv p w
def End(q:α):Prop:=∃x,S.V x/\∃k∈S.W x,k≠-1/\q=S.mv x k
noncomputable def cost(G:List α):Nat:=(G.map λg=>max 1 ((S.W g).length-2)).sum
def Dm(l:List α)(q:α):Prop:=∃p∈l,S.R p q
variable{S}
def R.avl(h:S.V p):S.R p p:=⟨h,-1,(S.st p).1,(S.st p).2.symm⟩
def R.v(h:S.R p q):S.V q:=by obtain⟨T,w,Y,e⟩:=h;rw[e];exact S.cl T Y
def R.tr(h:S.R p q)(g:S.R q r):S.R p r:=by obtain⟨T,w,G,rfl⟩:=h;obtain⟨_,v,Y,rfl⟩:=g;obtain⟨u,J,e⟩:=S.tw T G Y;exact⟨T,u,J,e.symm⟩
def Dm.cl(h:S.Dm l p)(g:S.R p q):S.Dm l q:=by obtain⟨x,Y,r⟩:=h;exact⟨x,Y,r.tr g⟩
theorem Dm.v(h:S.Dm l q):S.V q:=by obtain⟨_,_,r⟩:=h;exact r.v
open Classical in
def gens{G N E:List α}(gv:∀g∈G,S.V g)(gg:∀q,S.V q->∃g∈G,S.R g q)(gc:S.cost G<=8)(hN:∀p∈N,S.V p/\¬S.End p)(hA:∀q,S.V q->¬S.End q->q∈N)(j:Nat) :
 ∃A:List α,A.length<=8/\(∀a∈A,S.Dm ((N++E).take j) a)/\∀q,S.Dm ((N++E).take j) q->∃a∈A,S.R a q:=by
 obtain⟨T,h1,h2,h3,h4⟩:=red (R:=S.R) (λa b=>a.tr b) (λg=>max 1 ((S.W g).length-2)) G;have M:∀g∈T,S.V g:=λg Y=>gv g (h1 g Y)
 have O:∀q,S.V q->∃g∈T,S.R g q:=λq B=>by
  obtain⟨g,Y,r⟩:=gg q B;obtain⟨h,J,z⟩:=h2 g Y;rcases z with rfl|z
  .exact⟨h,J,r⟩
  .exact⟨h,J,z.tr r⟩
 have P:(T.map λg=>max 1 ((S.W g).length-2)).sum<=8:=gf h4 gc
 have one:∀g∈T,∀h∈T,S.R g h->g=h:=λg Y h hh r=>by
  by_cases e:g=h
  .exact e
  .exact absurd r (List.Pairwise.forall_of_forall_of_flip (R:=λa b=>a≠b->¬S.R a b) (λ_ _ n=>absurd rfl n) (h3.imp λz _=>z.1) (h3.imp λz _=>z.2) Y hh e)
 by_cases hj:j<=N.length
 .refine⟨T.filter λg=>decide (S.Dm ((N++E).take j) g),?_,λa F=>kh (jg.mp F).2,λq B=>?_⟩
  .refine gf (qw _ _) (gf ?_ P)
   have:=Vc (l:=T) (f:=λ_=>1) (g:=λg=>max 1 ((S.W g).length-2)) λx _=>Nat.le_max_left _ _
   simpa[List.map_const',List.sum_replicate_nat]using this
  .obtain⟨p,I,r⟩:=id B
   have H:p∈N:=by rw[List.take_append_of_le_length hj]at I;exact List.mem_of_mem_take I
   obtain⟨v,K⟩:=hN p H;obtain⟨g,Y,r'⟩:=O p v;have e:p=g:=by
    obtain⟨C,w,L,e⟩:=r'
    by_cases z:w=-1
    .rw[e,z,(S.st g).2]
    .exact absurd ⟨g,C,w,L,z,e⟩ K
   subst e;exact⟨p,jg.mpr ⟨Y,v8 ⟨p,I,R.avl v⟩⟩,r⟩
 .have all:∀q,S.V q->¬S.End q->S.Dm ((N++E).take j) q:=λq C K=>by
   refine⟨q,?_,R.avl C⟩;rw[List.take_append];exact qi _ (by rw[Ay (by lia)];exact hA q C K)
  generalize hD:S.Dm ((N++E).take j)=D at all;have dc:∀{p q},D p->S.R p q->D q:=fun{p q} h g=>by rw[<-hD]at h⊢;exact h.cl g
  have X:∀{q},D q->S.V q:=fun{q} h=>by rw[<-hD]at h;exact h.v
  refine⟨T.flatMap λg=>if D g then[g]else((S.W g).filter λw=>decide (D (S.mv g w))).map (S.mv g),?_,λa F=>?_,λq B=>?_⟩
  .rw[List.length_flatMap]
   refine gf (Vc λg Y=>?_) P
   by_cases z:D g
   .rw[dj z];exact Nat.le_max_left _ _
   .rw[cj z,dm]
    refine gf ?_ (Nat.le_max_right _ _);have C:=M g Y;obtain⟨x,U,k,Z,nk,e⟩:S.End g:=xg λn=>z (all g C n)
    obtain⟨g',Zj,r⟩:=O x U;have rg:S.R x g:=⟨U,k,Z,e⟩;cases one g' Zj g Y (r.tr rg);obtain⟨_,u,hu,Q⟩:=r
    by_cases zu:u=-1
    .rw[zu,(S.st g).2]at Q
     subst Q;exact X5 (S.st x).1 Z (km nk) (kj (by rw[(S.st x).2];exact z)) (kj (by rw[<-e];exact z))
    .exact X5 (S.st g).1 hu (km zu) (kj (by rw[(S.st g).2];exact z)) (kj λq=>z (dc (by rw[Q];exact q) rg))
  .obtain⟨g,Y,J⟩:=Ao.mp F
   by_cases z:D g
   .rw[dj z]at J
    rw[ie.mp J];exact z
   .rw[cj z]at J
    obtain⟨w,L,rfl⟩:=bf.mp J;exact kh (jg.mp L).2
  .obtain⟨g,Y,r⟩:=O q (X B)
   by_cases z:D g
   .exact⟨g,Ao.mpr ⟨g,Y,by rw[dj z];simp⟩,r⟩
   .obtain⟨_,w,L,e⟩:=r
    refine⟨q,Ao.mpr ⟨g,Y,?_⟩,R.avl (X B)⟩;rw[cj z,e];exact bf.mpr ⟨w,jg.mpr ⟨L,v8 (by rw[<-e];exact B)⟩,rfl⟩
end Plc
noncomputable def enc(l:Y3):Nat:=l.foldr (λa n=>a+7*n) 0
def a1m(h:∀x∈l,x<7):enc l<7^l.length:=by
 induction l with
 |nil=>decide
 |cons a l Y =>
  have G:=h a (by simp);have J:=Y λx T=>h x (bw _ T)
  show a+7*enc l<7^(l.length+1)
  rw[Nat.pow_succ]
  lia
def avm{J:Type}{A:List J}{f g:J->Nat}(G:∀a∈A,f a<7)(T:∀a∈A,g a<7)(e:enc (A.map f)=enc (A.map g)):∀a∈A,f a=g a:=by
 induction A with
 |nil=>simp
 |cons a A B =>
  have e:f a+7*enc (A.map f)=g a+7*enc (A.map g):=e;have O:=G a (by simp);have k2:=T a (by simp);intro x Y;rcases dh.mp Y with q|q
  .rw[q];lia
  .exact B (λx Y=>G x (bw _ Y)) (λx Y=>T x (bw _ Y)) (by lia) x q
def aej{l:Y3}{n:Nat}(h:l.Nodup)(b:∀x∈l,x<n):l.length<=n:=by
 induction n generalizing l with
 |zero=>cases l with
  |nil=>exact bz _|cons a l=>exact absurd (b a (by simp)) (ug _)
 |succ n T =>
  have:=T (l:=l.erase n) (h.erase n) λx Y=>by
   have G:=b x (List.mem_of_mem_erase Y);have J:=(h.mem_erase_iff.mp Y).1
   lia
  by_cases z:n∈l
  .rw[List.length_erase_of_mem z]at this;lia
  .rw[List.erase_of_not_mem z]at this;lia
def Plc.count{G:Type}{S:Plc G}{A:List G}{D:G->Prop}{fs:List (G->Nat)}{act:G->Nat->Int->Nat}(P:A.length<=8)(T:∀a∈A,D a)(H:∀q,D q->∃a∈A,S.R a q)(sm:∀f∈fs,∀q,D q->f q<7)(C:∀f∈fs,∀p,D p->∀w∈S.W p,f (S.mv p w)=act p (f p) w)
 (E:fs.Pairwise λf g=>∃q,D q/\f q≠g q):fs.length<=7^8:=by
 have n:(fs.map λf=>enc (A.map f)).Nodup:=by
  rw[mz,wk];refine E.imp_of_mem fun{f g} J hg z e=>?_
  obtain⟨q,Q,O⟩:=z;obtain⟨a,Y,_,w,L,rfl⟩:=H q Q;have:=avm (λa Y=>sm f J a (T a Y)) (λa Y=>sm g hg a (T a Y)) e a Y;rw[C f J a (T a Y) w L,C g hg a (T a Y) w L,this]at O;exact O rfl
 have:=aej (n:=7^8) n λx B=>by
  obtain⟨f,J,rfl⟩:=bf.mp B;have N:=a1m (l:=A.map f) λx B=>by obtain⟨a,Y,rfl⟩:=bf.mp B;exact sm f J a (T a Y)
  rw[dm]at N;exact iz N (Nat.pow_le_pow_right (by decide) P)
 simpa using this
abbrev Goes(I:Nat->Env->dz->Prop)(R:D->dz->Prop)(i:Nat)(r:Res (Flow×Env)):Prop:=∃fl ρ' M',r=.ok (fl,ρ') M'/\((fl=.next/\I i ρ' M')\/∃v,fl=.ret v/\R v M')
theorem aiw{fin:dz->Bool}{item:Nat->dz->Option D}{Y:D->Env->dz->Res (Flow×Env)}(I:Nat->Env->dz->Prop)(R:D->dz->Prop){n:Nat}
 (step:∀i Z M,i<n->I i Z M->∃d,item i M=some d/\Goes I R (i+1) (Y d Z M)) (J:∀Z M,I n Z M->fin M=true) :
 ∀k i Z M,i+k=n->I i Z M->Goes I R n (Dj fin item Y k i Z M)
 |0,i,Z,M,e,h=>by
  obtain rfl:i=n:=by lia
  exact⟨_,Z,M,by simp[Dj,J Z M h],.inl ⟨rfl,h⟩⟩
 |k+1,i,Z,M,e,h=>by
  obtain⟨d,C,N,T,B,O,⟨rfl,G⟩|⟨v,rfl,G⟩⟩:=step i Z M (by lia) h
  .have:=aiw I R step J k (i+1) T B (by lia) G
   simpa[Dj,C,O]using this
  .exact⟨.ret v,T,B,by simp[Dj,C,O],.inr ⟨v,rfl,G⟩⟩
section
variable{W:Jy}{ρ:Env}{M M1:dz}{t:Tg}{b:ql}
def avn{it:Q8}{s:Src}{n:Nat}(B:S=De.for_ t it b)(Y:it.den W ρ M=.ok s M1)(G:s.len=n)(I:Nat->Env->dz->Prop)(R:D->dz->Prop)(O:I 0 ρ M1)(T:∀ρ M,I n ρ M->s.fin M=true)
 (step:∀i ρ M,i<n->I i ρ M->∃d Z,s.item i M=some d/\t.put d ρ=some Z/\Goes I R (i+1) (b.den W Z M)):Goes I R n (S.den W ρ M):=by
 subst B;rw[Qq,Y,Res.Ca,G];exact aiw I R (λi ρ M J h=>by
  obtain⟨d,Z,a,b,c⟩:=step i ρ M J h;exact⟨d,a,by rw[b];exact c⟩) T n 0 ρ M1 (u5 n) O
end
end MW
namespace K33
open MW
abbrev PW(m:Nat):Jy:=⟨prog.call m,prog.cls⟩
noncomputable abbrev sR(n:Nat):Option D:=some (.ref n)
noncomputable abbrev sI(i:Int):Option D:=some (.int i)
set_option genInjectivity true in
structure F where
 a:Nat
 b:Nat
 r:List Nat
 deriving DecidableEq
noncomputable def nD(x:Nat):D:=.int (x:Int)
def Ge(r:Y3):D:=.tup (r.map nD)
def F.toD(f:F):D:=.tup [.int f.a,.int f.b,Ge f.r]
def aix(x y:Nat):decide ((x:Int)=(y:Int))=decide (x=y):=by
 by_cases h:x=y
 .simp[h]
 .have:¬((x:Int)=(y:Int)):=by lia
  simp[h,this]
def Nb(M:dz)(n x y:Nat):Kr M (n+1) (.int x) (.int y)=some (decide (x=y)):=by rw[W4,aix]
theorem abz(M:dz)(n:Nat):∀r s:List Nat,Tp (Kr M (n+1)) (r.map nD) (s.map nD)=some (decide (r=s))
 |[],[]=>by simp[Tp]|[],_::_=>by simp[Tp]|_::_,[]=>by simp[Tp]
 |x::r,y::s=>by
  rw[gq,gq,Eh (a:=nD x) (b:=nD y) (Nb M n x y) (abz M n r s)]
  by_cases h:x=y<;>simp[h]
def ag6(M:dz)(r s:Y3):zy M (Ge r) (Ge s)=some (decide (r=s)):=abz M 4 r s
def bfc(M:dz)(f g:F):zy M f.toD g.toD=some (decide (f=g)):=by obtain⟨a,b,r⟩:=f;obtain⟨c,d,s⟩:=g;have e:Kr M 5 (Ge r) (Ge s)=some (decide (r=s)):=abz M 3 r s;show Tp (Kr M 5) [.int a,.int b,Ge r] [.int c,.int d,Ge s]=_;rw[Eh (Nb M 4 a c) (Eh (Nb M 4 b d) (Eh e (show Tp (Kr M 5) [] []=some true from rfl)))];simp
theorem aox(M:dz)(g:F):∀fs:List F,Q4 M g.toD (fs.map F.toD)=some (fs.map λf=>decide (f=g))
 |[]=>rfl|f::fs=>by simp only[gq,Q4,bfc,aox M g fs]
def aoy(M:dz)(g:F)(fs:List F):memD M g.toD (fs.map F.toD)=some (decide (g∈fs)):=by
 rw[memD,aox,wz]
 congr 1
 induction fs with
 |nil=>simp
 |cons f fs Y =>
  by_cases h:f=g
  .simp[h]
  .simp only[gq,List.any_cons,Y,dh,id]
   simp[h,km h]
noncomputable def pos(g:F):List F->Nat
 |[]=>0|f::fs=>if f=g then 0 else pos g fs+1
def a83(M:dz)(g:F)(fs:List F):ad1 M g.toD (fs.map F.toD)=if g∈fs then some (pos g fs)else none:=by
 rw[ad1,aox,uw]
 induction fs with
 |nil=>simp
 |cons f fs Y =>
  rw[gq,List.findIdx?_cons,Y,pos]
  by_cases h:f=g
  .simp[h]
  .by_cases T:g∈fs<;>simp[h,km h,T]
theorem ab0(g:F):∀{fs:List F},g∈fs->fs[pos g fs]?=some g
 |f::fs,h=>by
  by_cases e:f=g
  .simp[pos,e]
  .have:g∈fs:=by
    rcases dh.mp h with q|q
    .exact absurd q.symm e
    .exact q
   simp[pos,e,ab0 g this]
def ag7(G:fs.Nodup)(h:fs[i]?=some f):pos f fs=i:=by have m:f∈fs:=bh h;have g:=ab0 f m;obtain⟨J,Y⟩:=ao.mp h;obtain⟨B,T⟩:=ao.mp g;exact(List.getElem_inj G).mp (T.trans Y.symm)
noncomputable def F.comp(f g:F):F:=⟨f.a,g.b,f.r.map λx=>g.r.getD x 0⟩
def F.Q5(f:F):Prop:=f.a=f.b/\f.r=List.range f.r.length
instance (f:F):Decidable f.Q5:=inferInstanceAs (Decidable (_/\_))
structure Zk(sz:Nat->Nat)(f:F):Prop where
 a:f.a<3
 b:f.b<3
 len:f.r.length=sz f.a
 ran:∀x∈f.r,x<sz f.b
def Sz(sz:Nat->Nat):Prop:=∀k,1<=sz k/\sz k<=4
def Good(sz:Nat->Nat)(fs:List F):Prop:=∀f∈fs,Zk sz f
def getD_mem{r:Y3}(h:x<r.length):r.getD x 0∈r:=by rw[cz,bx h];exact my h
theorem Zk.comp(Y:Zk sz f)(T:Zk sz g)(h:f.b=g.a):Zk sz (f.comp g):=by
 refine⟨Y.a,T.b,by simp[F.comp,Y.len],λx J=>?_⟩;obtain⟨y,G,rfl⟩:=bf.mp J;have:y<g.r.length:=by rw[T.len,<-h];exact Y.ran y G
 exact T.ran _ (getD_mem this)
def aek(r:Y3):(List.range r.length).map (λx=>r.getD x 0)=r:=by
 apply t7;intro i
 by_cases h:i<r.length
 .simp[h,wy h]
 .simp[Nat.le_of_not_lt h,pq]
def ag8(Y:Zk sz f)(J:Zk sz g)(T:f.b=g.a):(f.comp g).comp h=f.comp (g.comp h):=by
 simp only[F.comp,Ar,F.mk.injEq,true_and];apply yu;intro x G;have:x<g.r.length:=by rw[J.len,<-T];exact Y.ran x G
 simp[this]
noncomputable def idF(sz:Nat->Nat)(k:Nat):F:=⟨k,k,List.range (sz k)⟩
def ab1(Y:Zk sz f)(h:f.Q5):f=idF sz f.a:=by obtain⟨a,b,r⟩:=f;obtain⟨T,G⟩:=h;have:=Y.len;simp only[idF]at *;subst T;rw[<-this,<-G]
def id_comp(Y:Zk sz f):(idF sz f.a).comp f=f:=by obtain⟨a,b,r⟩:=f;have:=Y.len;simp only[idF,F.comp]at *;rw[<-this,aek]
def comp_id(Y:Zk sz f):f.comp (idF sz f.b)=f:=by
 obtain⟨a,b,r⟩:=f;have:=Y.ran;simp only[idF,F.comp,F.mk.injEq,true_and]at *
 conv=>rhs;rw[<-List.map_id r]
 apply yu;intro x T;simp[wy (this x T)]
def Py(fs:List F):Prop:=∀f∈fs,∀g∈fs,f.b=g.a->f.comp g∈fs\/(f.comp g).Q5
def call_of(T:1<=m)(Y:prog.fns[f]?=some Z):prog.call m f ds M=Z.run (PW (m-1)) ds M:=by obtain⟨n,rfl⟩:∃n,m=n+1:=⟨m-1,by lia⟩;simp[Prog.call,Y]
def a1n(n:Int)(f:Bool):Prop:=0<=n/\(f=false->n<2147483647)
def Vx(t:Nat)(f:Bool)(M:dz):Prop:=∃n,M[t]?=some (.lst [.int n,.bl f])/\a1n n f
structure St(t:Nat)(f:Bool)(M M':dz):Prop where
 len:M.length<=M'.length
 has:Vx t f M'
 keep:∀(a:Nat)(o:MO),a≠t->M[a]?=some o->M'[a]?=some o
def St.trans(a:St t f M Z)(b:St t f Z M2):St t f M M2:=
 ⟨gf a.len b.len,b.has,λx o n h=>b.keep x o n (a.keep x o n h)⟩
def St.of(h:Vx t f M)(k:vz M M'):St t f M M':=
 ⟨k.len,let ⟨n,a,b⟩:=h;⟨n,k _ _ a,b⟩,λa o _ e=>k a o e⟩
def Dn(P:1<=m)(V:Vx t f M)(Y:0<many)(Q:many<1073741824) :
 ∃(v:Nat)(J:dz),prog.call m 14 [.ref t,.int many] M=.ok (.int v) J/\(v:Int)<many/\St t f M J/\J.length=M.length:=by
 obtain⟨n,h,T⟩:=V;rw[call_of P rfl];have L:=j5 h;have C:=Ea L (i:=0) (by decide) rfl;have E:=Ea L (i:=1) (by decide) rfl;have fin:∀n':Int,a1n n' f->St t f M (M.set t (.lst [.int n',.bl f])):=λn' o=>⟨by simp,⟨n',qx h,o⟩,λa u e q=>by rw[mj (km e)];exact q⟩
 have B:many≠0:=by lia
 have N:∀y:Int,∃v:Nat,y%many=(v:Int)/\(v:Int)<many:=λy=>by have a:=Cj y B;have b:=Ba y Y;exact⟨(y%many).toNat,by lia,by lia⟩
 cases f with
 |true =>
  obtain⟨v,e,l⟩:=N n;refine⟨v,_,?_,l,fin (n/many) ⟨Int.ediv_nonneg T.1 (by lia),by simp⟩,by simp⟩;simp[Fn.run,O7,O6,C,E,Y,aad _ _ Y Q,abr h,e]
 |false =>
  have K:=T.1;have A:=T.2 rfl;obtain⟨n',O⟩:∃n',(n*48271+29)%2147483647=n':=⟨_,rfl⟩;have S:0<=n':=O▸Cj _ (by decide)
  have W:n'<2147483647:=O▸Ba _ (by decide)
  obtain⟨x,G⟩:∃x,(n'*n'+39373*n'+7)%2147483629=x:=⟨_,rfl⟩;have I:0<=x:=G▸Cj _ (by decide)
  have F:x<2147483629:=G▸Ba _ (by decide)
  obtain⟨y,R⟩:∃y,(x*x+16807*x)%2147483587=y:=⟨_,rfl⟩;obtain⟨v,e,l⟩:=N (y/8);refine⟨v,_,?_,l,fin n' ⟨S,λ_=>W⟩,by simp⟩;have k:=qx (o:=.lst [.int n',.bl false]) h;have H:=Ea (j5 k) (i:=0) (by decide) rfl;simp[Fn.run,O7,O6,C,E,Y,abr h,O1 n 48271 (.inr (by decide)),O,H,O1 n' n' (.inl (by lia)),O1 39373 n' (.inl (by decide)),G,O1 x x (.inl (by lia)),O1 16807 x (.inl (by decide)),R,aad _ 8 (by decide) (by decide),e]
def aiy{k:Nat}{Y:Xs}(G:1<=m):prog.call m 12 [.fz (Y.map D.int),.int k] M=.ok (.int (Y.getD k 0)) M:=by
 rw[call_of G rfl]
 by_cases T:k<Y.length
 .simp[Fn.run,Iu,Ir,aop,T,a81 (ds:=Y.map D.int) (i:=k) (x:=.int (Y.getD k 0)) q_ (by simp[T])]
 .simp[Fn.run,Iu,Ir,aop,T]
def aoz{k:Nat}{ns:Xs}(Y:2<=m):∃n f,prog.call m 13 [.fz (ns.map D.int),.int k] M=.ok (.ref M.length) (M++[.lst [.int n,.bl f]])/\a1n n f:=by
 rw[call_of (a_ (by decide) Y) rfl]
 by_cases h:(10:Int)^18<=ns.getD k 0
 .refine⟨ns.getD k 0-10^18,true,?_,by lia,by simp⟩
  have T:(1000000000000000000:Int)<=ns[k]?.getD 0:=by simpa using h
  simp[Fn.run,Mt,Ms,aiy (show 1<=m-1 by exact r_ Y),T,MW.new]
 .refine⟨ns.getD k 0%2147483647,false,?_,Cj _ (by decide),λ_=>Ba _ (by decide)⟩
  have T:¬(1000000000000000000:Int)<=ns[k]?.getD 0:=by simpa using h
  simp[Fn.run,Mt,Ms,aiy (show 1<=m-1 by exact r_ Y),T,MW.new]
def aiz(n:Nat)(i:Nat)(M:dz)(h:i<n):(Src.con ((List.range n).map λ(k:Nat)=>D.int (k:Int))).item i M=some (.int i):=by simp[Src.item,wy h]
def ai0(n:Nat):(Src.con ((List.range n).map λ(k:Nat)=>D.int (k:Int))).len=n:=by simp[Src.len]
def ao0{K:Nat}(L:1<=m)(V:Vx t f M)(H:K<=3) :
 ∃(Y:Y3)(T:dz),Ja.den (PW m) [sR t,a1,a2,a3,a4,a5,sI K,a7,a8,a9,a10,a11] M=.ok (.vl (Y.map nD)) T/\Y.length=K/\(∀x∈Y,1<=x/\x<=3)/\St t f M T/\T.length=M.length:=by
 unfold Ja;rw[Oz];have G:K<=100000:=a_ H (by decide)
 simp[G];refine hG λ_ _k=>?_
 have h:=Jt (fin:=λ_=>true) (item:=(Src.con ((List.range K).map λ(k:Nat)=>D.int (k:Int))).item)
  (body:=λd M=>((prog.call m 14 [D.ref t,D.int 3] M).bind λy O=>Ey .add (.int 1) y O).bind λx T=>Res.ok (some x) T)
  (λi N T=>∃Y:List Nat,N=Y.map nD/\Y.length=i/\(∀x∈Y,1<=x/\x<=3)/\St t f M T/\T.length=M.length) (n:=K)
  (λi N T E P=>by
   refine hG λ_ _k=>?_
   obtain⟨Y,rfl,rfl,J,B,C⟩:=P;obtain⟨v,O,e,l,F,S⟩:=Dn L B.has (many:=3) (by decide) (by decide);apply _k;refine⟨.int Y.length,sI (1+v),O,aiz K _ T E,by simp[e],Y++[1+v],by simp[nD],by simp,λx R=>?_,B.trans F,S.trans C⟩;rcases dw.mp R with q|q
   .exact J x q
   .have:x=1+v:=by simpa using q
    lia) (λ_ _ _=>rfl) K 0 [] M (u5 _) ⟨[],rfl,rfl,by simp,St.of V (vz.refl M),rfl⟩
 obtain⟨A,T,e,Y,J,B,C,W,Q⟩:=h;apply _k;refine⟨Y,T,?_,B,C,W,Q⟩;rw[Az,ai0,dj G,show(Src.con ((List.range _).map λ(k:Nat)=>D.int (k:Int))).fin=λ_=>true from rfl,e];simp at J;simp[J]
def a1o{T:Y3}(P:1<=m)(F:Vx t f M)(G:∀x∈T,1<=x/\x<=3)(J:i<T.length)(N:j<T.length) :
 ∃(r:Y3)(Y:dz),Iw.den (PW m) [sR t,a1,a2,a3,a4,a5,a6,some (.vl (T.map nD)),a8,a9,sI i,sI j] M=.ok (.vl (r.map nD)) Y /\
  r.length=T.getD i 0/\(∀x∈r,x<T.getD j 0)/\St t f M Y/\Y.length=M.length:=by
 unfold Iw;rw[Oz];have R:=Ea (M:=M) (d:=.vl (T.map nD)) (i:=i) (x:=.int ((T.getD i 0:Nat):Int)) rfl q_ (by simp[J,nD]);have X:∀Y,Bk (.vl (T.map nD)) (.int j) Y=some (.int ((T.getD j 0:Nat):Int)):=λY=>Ea rfl q_ (by simp[N,nD])
 have I:=G _ (getD_mem J);have L:=G _ (getD_mem N);generalize ea:T.getD i 0=a at *;generalize eb:T.getD j 0=b at *;have C:a<=100000:=a_ I.2 (by decide)
 simp[R,X,C];refine hG λ_ _k=>?_
 have h:=Jt (fin:=λ_=>true) (item:=(Src.con ((List.range a).map λ(k:Nat)=>D.int (k:Int))).item)
  (body:=λd M=>(prog.call m 14 [D.ref t,D.int b] M).bind λx Y=>Res.ok (some x) Y)
  (λi E Y=>∃r:List Nat,E=r.map nD/\r.length=i/\(∀x∈r,x<b)/\St t f M Y/\Y.length=M.length) (n:=a)
  (λi E Y J S=>by
   refine hG λ_ _k=>?_
   obtain⟨r,rfl,rfl,B,O,G⟩:=S;obtain⟨v,Q,e,l,A,V⟩:=Dn P O.has (many:=b) (m_ L.1) (m_ (c_ L.2 (by decide)));apply _k;refine⟨.int r.length,sI v,Q,aiz a _ Y J,by simp[e],r++[v],by simp[nD],by simp,λx H=>?_,O.trans A,V.trans G⟩;rcases dw.mp H with q|q
   .exact B x q
   .have:x=v:=by simpa using q
    exact c_ (f_ this) (o_ l)) (λ_ _ _=>rfl) a 0 [] M (u5 _) ⟨[],rfl,rfl,by simp,St.of F (vz.refl M),rfl⟩
 obtain⟨z,Y,e,r,B,O,G,K,W⟩:=h;apply _k;refine⟨r,Y,?_,O,G,K,W⟩;rw[Az,ai0,dj C,show(Src.con ((List.range _).map λ(k:Nat)=>D.int (k:Int))).fin=λ_=>true from rfl,e];simp at B;simp[B]
def ab2{v:Nat}{T:Y3}(R:1<=m)(hs:Vx t f M)(V:T.length=K)(P:1<=K)(J:K<=3)(h3:∀x∈T,1<=x/\x<=3)(hp:M[p]?=some (.lst []))(Y:p≠t) :
 ∃(fs:List F)(O:Env)(G:dz),Iz.den (PW m) [sR t,sI v,none,none,none,none,sI K,some (.vl (T.map nD)),sR p,a9,a10,a11] M=.ok (.next,O) G /\
  O[8]?=some (sR p)/\G[p]?=some (.lst (fs.map F.toD))/\fs.length<=3/\Good (λk=>T.getD k 1) fs/\M.length<=G.length/\Vx t f G/\(∀(a:Nat)(o:MO),a≠t->a≠p->M[a]?=some o->G[a]?=some o):=by
 refine hG λ_ _k=>?_
 obtain⟨w,M1,e1,l1,S,qq⟩:=Dn R hs (many:=4) (by decide) (by decide);apply _k;unfold Iz;rw[U7];have s:w<=100000:=e_ (b_ (o_ l1) (by decide))
 simp[e1,s];refine hG λ_ _k=>?_
 obtain⟨O,G,e,fs,W,B,Q,rfl,h1,h2,h4,h5,h6,h7⟩:=abx (n:=w) (body:=λd C M=>Fi.den (PW m) (C.set 9 (some d)) M)
  (λi C G=>∃(fs:List F)(W B Q:Option D),C=[sR t,sI v,none,none,none,none,sI K,some (.vl (T.map nD)),sR p,W,B,Q] /\
   G[p]?=some (.lst (fs.map F.toD))/\fs.length=i/\Good (λk=>T.getD k 1) fs/\M.length<=G.length/\Vx t f G/\(∀(a:Nat)(o:MO),a≠t->a≠p->M[a]?=some o->G[a]?=some o))
  (M:=M1) ⟨[],a9,a10,a11,rfl,by simpa using S.keep p _ Y hp,rfl,by intro f g;simp at g,S.len,S.has,λa o N _ h=>S.keep a o N h⟩
  (λi C M2 hi hI=>by
   refine hG λ_ _k=>?_
   obtain⟨fs,W,B,Q,rfl,U,c,g3,g4,g5,g6⟩:=hI;obtain⟨x,M3,ex,l,L,A⟩:=Dn R g5 (many:=K) (m_ P) (m_ (c_ J (by decide)));obtain⟨y,M4,ey,I,E,u⟩:=Dn R L.has (many:=K) (m_ P) (m_ (c_ J (by decide)));obtain⟨r,M5,er,lr,rr,H,X⟩:=a1o (a1:=some (.int v)) (a2:=none) (a3:=none) (a4:=none) (a5:=none) (a6:=some (.int K)) (a8:=some (.ref p)) (a9:=some (.int i)) (i:=x) (j:=y) R E.has h3 (b_ (o_ l) (g_ V)) (b_ (o_ I) (g_ V));have b:=H.keep p _ Y (E.keep p _ Y (L.keep p _ Y U));apply _k;have hl:(fs.map F.toD).length<100000:=by rw[dm];exact c_ (f_ c) (b_ hi s)
   refine⟨.next,_,M5.set p (.lst (fs.map F.toD++[F.toD ⟨x,y,r⟩])),?_,.inl rfl,fs++[⟨x,y,r⟩],sI i,sI x,sI y,rfl,?_,by simp[c],?_,?_,?_,?_⟩
   .simp[Fi,ex,ey,er,Es b hl,Ep (E.keep p _ Y (L.keep p _ Y U)),qm,F.toD,Ge]
   .rw[qx b];simp
   .intro f g
    rcases dw.mp g with q|q
    .exact g3 f q
    .have:f=⟨x,y,r⟩:=by simpa using q
     subst this;refine⟨by show x<3;exact b_ (o_ l) J,by show y<3;exact b_ (o_ I) J,?_,?_⟩
     .show r.length=T.getD x 1
      rw[lr];simp[cz,bx (show x<T.length by exact b_ (o_ l) (g_ V))]
     .intro z hz
      have:=rr z hz;show z<T.getD y 1
      simp[cz,bx (show y<T.length by exact b_ (o_ I) (g_ V))]at this⊢;exact this
   .have:=H.len;have:=E.len;have:=L.len;simp;exact a_ g4 (a_ (g_ A) (a_ (g_ u) (g_ X)))
   .obtain⟨n',q1,q2⟩:=H.has
    exact⟨n',by rw[mj Y];exact q1,q2⟩
   .intro a o N Z h
    rw[mj (km Z)];exact H.keep a o N (E.keep a o N (L.keep a o N (g6 a o N Z h))))
 have e':Dj (Src.con ((List.range w).map λ(k:Nat)=>D.int (k:Int))).fin (Src.con ((List.range w).map λ(k:Nat)=>D.int (k:Int))).item (λd C M=>Fi.den (PW m) (C.set 9 (some d)) M) (Src.con ((List.range w).map λ(k:Nat)=>D.int (k:Int))).len 0 [sR t,sI v,none,none,none,none,sI K,some (.vl (T.map nD)),sR p,a9,a10,a11] M1=_:=e;apply _k;exact⟨fs,[sR t,sI v,none,none,none,none,sI K,some (.vl (T.map nD)),sR p,W,B,Q],G,e',rfl,h1,by lia,h4,h5,h6,h7⟩
def ao1(Q:2<=m)(hs:Vx t f M):∃(d:D)(M':dz)(fs:List F)(sz:Nat->Nat),prog.call m 15 [.ref t] M=.ok d M'/\gr M' d=some (fs.map F.toD)/\(∀n,d=.ref n->n≠t)/\Sz sz/\Good sz fs/\fs.length<=3/\St t f M M':=by
 have G:1<=m-1:=r_ Q
 obtain⟨v,M1,P,l1,N,q7⟩:=Dn G hs (many:=12) (by decide) (by decide);rw[call_of (a_ G C_) rfl]
 by_cases hv:v<7
 .have J:(v:Int)<7:=m_ hv
  have T:∀(fs:List F)(sz:Nat->Nat),Ek.run (PW (m-1)) [.ref t] M=.ok (.vl (fs.map F.toD)) M1->Sz sz->Good sz fs->fs.length<=3 ->
   ∃(d:D)(M':dz)(fs:List F)(sz:Nat->Nat),Ek.run (PW (m-1)) [.ref t] M=.ok d M'/\gr M' d=some (fs.map F.toD)/\(∀n,d=.ref n->n≠t)/\Sz sz/\Good sz fs/\fs.length<=3/\St t f M M':=
   λfs sz a b c d=>⟨_,M1,fs,sz,a,rfl,λn h=>(by cases h),b,c,d,N⟩
  have run:∀d,Bk (.vl [.vl [.tup [.int 0,.int 1,.tup [.int 0,.int 1]],.tup [.int 0,.int 1,.tup [.int 1,.int 0]]],.vl [.tup [.int 0,.int 1,.tup [.int 0,.int 0,.int 1,.int 1]],.tup [.int 0,.int 1,.tup [.int 0,.int 1,.int 0,.int 1]],.tup [.int 1,.int 0,.tup [.int 0,.int 3]]],
   .vl [.tup [.int 0,.int 0,.tup [.int 1,.int 0]]],.vl [.tup [.int 0,.int 0,.tup [.int 1,.int 2,.int 0]]],.vl [.tup [.int 0,.int 0,.tup [.int 0,.int 0]]],.vl [],.vl [.tup [.int 0,.int 1,.tup [.int 0,.int 1]],.tup [.int 1,.int 2,.tup [.int 0,.int 0,.int 1]]]]) (.int v) M1=some d ->
   Ek.run (PW (m-1)) [.ref t] M=.ok d M1:=λd V=>by simp[Fn.run,Ek,Mu,P,J,V]
  have W:v=0\/v=1\/v=2\/v=3\/v=4\/v=5\/v=6:=by lia
  rcases W with rfl|rfl|rfl|rfl|rfl|rfl|rfl
  .refine T [⟨0,1,[0,1]⟩,⟨0,1,[1,0]⟩] (λ_=>2) ?_ (λk=>by simp) (λf Y=>?_) (by decide)
   .exact run _ rfl
   .simp at Y;rcases Y with rfl|rfl<;>exact⟨by decide,by decide,by decide,by decide⟩
  .refine T [⟨0,1,[0,0,1,1]⟩,⟨0,1,[0,1,0,1]⟩,⟨1,0,[0,3]⟩] (λk=>if k=0 then 4 else 2) ?_ (λk=>by dsimp only;split<;>omega) (λf Y=>?_) (by decide)
   .exact run _ rfl
   .simp at Y;rcases Y with rfl|rfl|rfl<;>exact⟨by decide,by decide,by decide,by decide⟩
  .refine T [⟨0,0,[1,0]⟩] (λ_=>2) ?_ (λk=>by simp) (λf Y=>?_) (by decide)
   .exact run _ rfl
   .simp at Y;subst Y;exact⟨by decide,by decide,by decide,by decide⟩
  .refine T [⟨0,0,[1,2,0]⟩] (λ_=>3) ?_ (λk=>by simp) (λf Y=>?_) (by decide)
   .exact run _ rfl
   .simp at Y;subst Y;exact⟨by decide,by decide,by decide,by decide⟩
  .refine T [⟨0,0,[0,0]⟩] (λ_=>2) ?_ (λk=>by simp) (λf Y=>?_) (by decide)
   .exact run _ rfl
   .simp at Y;subst Y;exact⟨by decide,by decide,by decide,by decide⟩
  .refine T [] (λ_=>1) ?_ (λk=>by simp) (λf Y=>?_) (by decide)
   .exact run _ rfl
   .simp at Y
  .refine T [⟨0,1,[0,1]⟩,⟨1,2,[0,0,1]⟩] (λk=>if k=1 then 3 else 2) ?_ (λk=>by dsimp only;split<;>exact⟨by decide,by decide⟩) (λf Y=>?_) (by decide)
   .exact run _ rfl
   .simp at Y;rcases Y with rfl|rfl<;>exact⟨by decide,by decide,by decide,by decide⟩
 .refine hG λ_ _k=>?_
  have J:¬(v:Int)<7:=by lia
  obtain⟨u,M2,e2,l2,R,qk⟩:=Dn G N.has (many:=3) (by decide) (by decide);obtain⟨K,eK,qv⟩:∃K:Nat,(1:Int)+(u:Int)=(K:Int)/\K=1+u:=⟨1+u,by lia,rfl⟩;obtain⟨O,C,e3,H,E,L,qq⟩:=ao0 (a1:=some (.int v)) (a2:=none) (a3:=none) (a4:=none) (a5:=none) (a7:=none) (a8:=none) (a9:=none) (a10:=none) (a11:=none) (K:=K) G R.has (by lia);apply _k;have B:t<C.length:=by obtain⟨n,h,_⟩:=L.has;exact xm h
  have h4:Vx t f (C++[.lst []]):=by obtain⟨n,h,o⟩:=L.has;exact⟨n,yx h,o⟩
  refine hG λ_ _k=>?_
  obtain⟨fs,q0,M5,e5,X,q1,I,S,Z,U,A⟩:=ab2 (v:=v) (K:=K) (p:=C.length) (a9:=none) (a10:=none) (a11:=none) G h4 H (by lia) (by lia) E (by simp) (i_ B);apply _k;refine⟨.ref C.length,M5,fs,λk=>O.getD k 1,?_,j5 q1,λn h=>by cases h;exact i_ B,λk=>?_,S,I,?_⟩
  .simp[Fn.run,Ek,Mu,P,J,e2,eK,e3,MW.new,e5,X]
  .show 1<=O.getD k 1/\O.getD k 1<=4
   by_cases h:k<O.length
   .have:=E _ (getD_mem h)
    simp[cz,h]at this⊢;exact⟨this.1,a_ this.2 (by decide)⟩
   .simp[cz,h]
  .refine N.trans (R.trans (L.trans ⟨?_,U,λa o na h=>A a o na ?_ (yx h)⟩))
   .have:=Z;simp at this;lia
   .have:=xm h;exact h_ this
structure Up(p:Nat)(M M':dz):Prop where
 len:M'.length=M.length
 oth:∀a:Nat,a≠p->M'[a]?=M[a]?
def Up.refl(p:Nat)(M:dz):Up p M M:=⟨rfl,λ_ _=>rfl⟩
theorem Up.trans(a:Up p M Z)(b:Up p Z M2):Up p M M2:=⟨b.len.trans a.len,λx h=>(b.oth x h).trans (a.oth x h)⟩
theorem Up.set(p:Nat)(M:dz)(o:MO):Up p M (M.set p o):=⟨by simp,λa h=>mj (km h)⟩
def Sy(h:M[p]?=some (.lst ds)):R9 M x (.ref p)=memD M x ds:=by simp[R9,h,Dd,gr]
def Vy(f:F)(M:dz):Bk f.toD (.int 0) M=some (.int f.a):=rfl
def Vz(f:F)(M:dz):Bk f.toD (.int 1) M=some (.int f.b):=rfl
def ao2(f:F)(M:dz):Bk f.toD (.int 2) M=some (Ge f.r):=rfl
def Pz(M:dz)(r:Y3)(n:Nat):zy M (Ge r) (.tup ((List.range n).map λ(k:Nat)=>D.int (k:Int)))=some (decide (r=List.range n)):=ag6 M r (List.range n)
def eq_nil(M:dz)(r:Y3):zy M (Ge r) (.tup [])=some (decide (r=[])):=ag6 M r []
def Cv(M:dz)(a b:Nat):zy M (.int a) (.int b)=some (decide (a=b)):=by rw[eq_int,aix]
def Km(M:dz)(r:Y3):qm .len [Ge r] M=.ok (.int r.length) M:=by simp[qm,Dd,Ge]
def Fq(M:dz)(Y:List D):qm .tuple [.vl Y] M=.ok (.tup Y) M:=by simp[qm,Dd]
def ab3(M:dz)(r:Y3):qm .tuple [.vl (r.map nD)] M=.ok (Ge r) M:=Fq M _
def ag9(Y:Sz sz)(h:Zk sz f):1<=f.r.length/\f.r.length<=4:=by rw[h.len];exact Y _
def avq(M:dz)(r:Y3):srcOf M (Ge r)=some (.con (r.map nD)):=rfl
def ao3(M:dz)(r:Y3)(h:x<r.length):Bk (Ge r) (.int x) M=some (.int (r.getD x 0)):=Ip q_ (by simp[h,nD])
def ao4(O:Sz sz)(G:Zk sz f)(N:Zk sz g)(h:f.b=g.a) :
 Hb.den W [a0,a1,a2,a3,a4,a5,a6,some f.toD,some g.toD,a9] M=.ok (.vl ((f.comp g).r.map nD)) M:=by
 have Y:(f.r.map nD).length<=100000:=by rw[dm,G.len];have:=O f.a;exact a_ this.2 (by decide)
 unfold Hb;rw[Oz];simp[ao2,avq];have:=aiu (M:=M) (ds:=f.r.map nD) (g:=λd=>match d with|.int i=>nD (g.r.getD i.toNat 0)|_=>.non)
  (body:=λd M=>((Res.v9 (Bk (Ge g.r) d M) M).bind λx J=>Res.ok (some x) J)) Y (λd C=>by
   obtain⟨x,B,rfl⟩:=bf.mp C;have T:x<g.r.length:=by rw[N.len,<-h];exact G.ran x B
   rw[show nD x=D.int (x:Int)from rfl,ao3 M g.r T];simp[nD])
 rw[this];simp[F.comp,nD]
def Nf(Y:List F)(f g:F):List F:=if f.b=g.a/\f.comp g∉Y/\¬(f.comp g).Q5 then Y++[f.comp g]else Y
def aha(f g:F):D.tup [.int f.a,.int g.b,Ge (f.comp g).r]=(f.comp g).toD:=rfl
def X6(O:Sz sz)(J:Zk sz f)(N:Zk sz g)(G:M[p]?=some (.lst (Z.map F.toD)))(R:Z.length<100000) :
 ∃(S L:Option D)(M':dz),Dt.den W [a0,sR p,a2,a3,a4,a5,a6,some f.toD,some g.toD,a9] M=.ok (.next,[a0,sR p,a2,a3,S,a5,a6,some f.toD,some g.toD,L]) M' /\
  M'[p]?=some (.lst ((Nf Z f g).map F.toD))/\Up p M M':=by
 by_cases h:f.b=g.a
 .have H:=ao4 (W:=W) (M:=M) (a0:=a0) (a1:=some (.ref p)) (a2:=a2) (a3:=a3) (a4:=some (.tup [])) (a5:=a5) (a6:=a6) (a9:=a9) O J N h
  have P:(f.comp g).r≠[]:=λe=>by have:=(ag9 O (J.comp N h)).1;rw[e]at this;simp at this
  have Y:(f.comp g).r.length<=100000:=by have:=(ag9 O (J.comp N h)).2;exact a_ this (by decide)
  have V:=aoy M (f.comp g) Z;have A:(f.comp g).a=f.a:=rfl;have K:(f.comp g).b=g.b:=rfl;have ap:=Es (d:=(f.comp g).toD) G (by rw[dm];exact R);have B:∃T:Res (Flow×Env),Dt.den W [a0,sR p,a2,a3,a4,a5,a6,some f.toD,some g.toD,a9] M=T/\(f.comp g∈Z->T=.ok (.next,[a0,sR p,a2,a3,some (Ge (f.comp g).r),a5,a6,some f.toD,some g.toD,some (f.comp g).toD]) M)/\(f.comp g∉Z->(f.comp g).Q5->T=.ok (.next,[a0,sR p,a2,a3,some (Ge (f.comp g).r),a5,a6,some f.toD,some g.toD,some (f.comp g).toD]) M) /\
   (f.comp g∉Z->¬(f.comp g).Q5->T=.ok (.next,[a0,sR p,a2,a3,some (Ge (f.comp g).r),a5,a6,some f.toD,some g.toD,some (f.comp g).toD]) (M.set p (.lst ((Z++[f.comp g]).map F.toD)))):=by
   refine⟨_,(by simp[-eq_int,Dt,Vy,Vz,Cv,h,H,ab3,aha,eq_nil,P,Sy G,V];exact rfl),?_,?_,?_⟩
   .intro m;simp[m]
   .intro m i;simp[-eq_int,m,Vy,Vz,Cv,i.1,Km,Y,Pz,v8 i.2]
   .intro m i
    by_cases C:(f.comp g).a=(f.comp g).b
    .have E:¬(f.comp g).r=List.range (f.comp g).r.length:=λq=>i ⟨C,q⟩
     simp[-eq_int,Vy,Vz,Cv,m,C,Km,Y,Pz,E,Ep G,ap]
    .simp[-eq_int,Vy,Vz,Cv,m,C,Km,Y,Pz,Ep G,ap]
  obtain⟨T,e,Q,k2,k3⟩:=B
  by_cases m:f.comp g∈Z
  .exact⟨_,_,M,e.trans (Q m),by rw[Nf,cj (λq=>q.2.1 m)];exact G,Up.refl p M⟩
  .by_cases i:(f.comp g).Q5
   .exact⟨_,_,M,e.trans (k2 m i),by rw[Nf,cj (λq=>q.2.2 i)];exact G,Up.refl p M⟩
   .exact⟨_,_,_,e.trans (k3 m i),by rw[Nf,dj ⟨h,m,i⟩,qx G],Up.set _ _ _⟩
 .refine⟨some (.tup []),some (.tup [.int f.a,.int g.b,.tup []]),M,?_,by rw[Nf,cj (λq=>h q.1)];exact G,Up.refl p M⟩
  have:=ag6 M [] [];simp[Ge]at this;simp[-eq_int,Dt,Vy,Vz,Cv,h,this]
structure Inv(sz:Nat->Nat)(gs:List F):Prop where
 good:Good sz gs
 nd:gs.Nodup
 nid:∀f∈gs,¬f.Q5
def Inv.snoc{sz:Nat->Nat}(h:Inv sz Z)(T:Zk sz f)(J:f∉Z)(B:¬f.Q5):Inv sz (Z++[f]):=by
 refine⟨λx Y=>?_,?_,λx Y=>?_⟩
 .rcases dw.mp Y with q|q
  .exact h.good x q
  .have:x=f:=by simpa using q
   exact this▸T
 .rw[Aa]
  refine⟨h.nd,by simp,λa O b G=>?_⟩;have:b=f:=by simpa using G
  exact λe=>J (by rw[<-this,<-e];exact O)
 .rcases dw.mp Y with q|q
  .exact h.nid x q
  .have:x=f:=by simpa using q
   exact this▸B
def Cl2(Y:List F)(f g:F):Prop:=f.b=g.a->f.comp g∈Y\/(f.comp g).Q5
def Cl2.mono(h:Cl2 U f g)(s:U <+: Z):Cl2 Z f g:=λe=>(h e).imp (λm=>s.subset m) id
def P0(Y:List F)(f g:F):Y <+: Nf Y f g:=by
 unfold Nf;split
 .exact List.prefix_append _ _
 .exact List.prefix_rfl
def X7(Y:List F)(f g:F):(Nf Y f g).length<=Y.length+1:=by unfold Nf;split<;>simp
set_option tactic.hygienic true in
def ael(h:Inv sz Z)(T:Zk sz f)(B:Zk sz g):Inv sz (Nf Z f g):=by
 unfold Nf;split
 .rename_i q;exact h.snoc (T.comp B q.1) q.2.1 q.2.2
 .exact h
def ai1(Y:List F)(f g:F):Cl2 (Nf Y f g) f g:=by
 intro e;unfold Nf
 by_cases m:f.comp g∈Y
 .left;split
  .exact qi _ m
  .exact m
 .by_cases i:(f.comp g).Q5
  .exact .inr i
  .left;rw[dj ⟨e,m,i⟩];simp
def Ub{Y:List F}{i:Nat}(s:Y <+: Z)(h:Y[i]?=some f):Z[i]?=some f:=by obtain⟨t,rfl⟩:=s;rw[gn (ao.mp h).1];exact h
def Rr{Y:List F}{i:Nat}(T:M[p]?=some (.lst (Y.map F.toD)))(h:Y[i]?=some f):Bk (.ref p) (.int i) M=some f.toD:=Ea (j5 T) q_ (by simp[h])
def Ng{Y:List F}(T:M[p]?=some (.lst (Y.map F.toD))):qm .len [.ref p] M=.ok (.int Y.length) M:=by rw[len_list (j5 T)];simp
def a1q{k j:Nat}(N:Sz sz)(J:Inv sz Z)(T:M[p]?=some (.lst (Z.map F.toD)))(V:Z.length<90000)(O:Z[k]?=some f)(L:Z[j]?=some g) :
 ∃(G E I Y:Option D)(M':dz),Hc.den W [a0,sR p,a2,a3,a4,sI k,sI j,a7,a8,a9] M=.ok (.next,[a0,sR p,a2,a3,G,sI k,sI j,E,I,Y]) M' /\
  M'[p]?=some (.lst ((Nf (Nf Z f g) g f).map F.toD))/\Up p M M':=by
 refine hG λ_ _k=>?_
 have C:=J.good f (bh O);have B:=J.good g (bh L);have y:=X7 Z f g;obtain⟨G,Y,X,R,K,z⟩:=X6 (W:=W) (M:=M) (a0:=a0) (a2:=a2) (a3:=a3) (a4:=a4) (a5:=some (.int k)) (a6:=some (.int j)) (a9:=a9) N C B T (b_ V (by decide));obtain⟨Q,A,P,q,S,H⟩:=X6 (W:=W) (M:=X) (a0:=a0) (a2:=a2) (a3:=a3) (a4:=G) (a5:=some (.int k)) (a6:=some (.int j)) (a9:=Y) N B C K (by lia);apply _k;refine⟨Q,some g.toD,some f.toD,A,P,?_,S,z.trans H⟩;unfold Hc;rw[U7];simp[Rr T O,Rr T L,srcOf,Src.len,Src.fin,Dj,Src.item,R,q]
def avs{k:Nat}(r:Sz sz)(I:Inv sz Z)(A:M[p]?=some (.lst (Z.map F.toD)))(t:Z.length<10000)(H:Z[k]?=some f) :
 ∃(Y:List F)(O C G J B:Option D)(T:dz),Hf.den W [a0,sR p,a2,a3,a4,sI k,a6,a7,a8,a9] M=.ok (.next,[a0,sR p,a2,a3,O,sI k,C,G,J,B]) T /\
  T[p]?=some (.lst (Y.map F.toD))/\Up p M T/\Z <+: Y/\Inv sz Y/\Y.length<=3*Z.length/\∀(j:Nat)(g:F),Z[j]?=some g->Cl2 Y f g/\Cl2 Y g f:=by
 unfold Hf;rw[U7];have Q:Z.length<=100000:=e_ (b_ t (by decide))
 simp[Ng A,Q];refine hG λ_ _k=>?_
 obtain⟨qq,T,e,Y,O,C,G,J,B,rfl,x,h2,h3,h4,h5,u⟩:=abx (n:=Z.length) (body:=λd N M=>Hd.den W (N.set 6 (some d)) M)
  (λi N T=>∃(Y:List F)(O C G J B:Option D),N=[a0,sR p,a2,a3,O,sI k,C,G,J,B]/\T[p]?=some (.lst (Y.map F.toD))/\Up p M T/\Z <+: Y/\Inv sz Y/\Y.length<=Z.length+2*i /\
   ∀(j:Nat)(g:F),j<i->Z[j]?=some g->Cl2 Y f g/\Cl2 Y g f) (ρ:=[a0,sR p,a2,a3,a4,sI k,a6,a7,a8,a9]) (M:=M)
  ⟨Z,a4,a6,a7,a8,a9,rfl,A,Up.refl p M,List.prefix_rfl,I,x_,λj g h=>absurd h (ug _)⟩
  (λi N y Hv X=>by
   refine hG λ_ _k=>?_
   obtain⟨Y,O,C,G,J,B,rfl,b,z,E,P,g5,K⟩:=X;have S:Z[i]?=some Z[i]:=by simp[Hv]
   obtain⟨l,c,c8,o,s,m,v,U⟩:=a1q (W:=W) (M:=y) (a0:=a0) (a2:=a2) (a3:=a3) (a4:=O) (a7:=G) (a8:=J) (a9:=B) r P b (by lia) (Ub E H) (Ub E S);have V:=P.good f (bh (Ub E H));have L:=P.good Z[i] (bh (Ub E S));apply _k;refine⟨.next,_,s,?_,.inl rfl,Nf (Nf Y f Z[i]) Z[i] f,l,sI i,c,c8,o,rfl,v,z.trans U,(E.trans (P0 _ _ _)).trans (P0 _ _ _),ael (ael P V L) L V,?_,?_⟩
   .simp[Hd,m]
   .have:=X7 Y f Z[i]
    have:=X7 (Nf Y f Z[i]) Z[i] f
    lia
   .intro j g a R
    have pr:=(P0 Y f Z[i]).trans (P0 (Nf Y f Z[i]) Z[i] f);rcases Nat.lt_succ_iff_lt_or_eq.mp a with q|q
    .exact⟨(K j g q R).1.mono pr,(K j g q R).2.mono pr⟩
    .subst q
     have:g=Z[j]:=by rw[S]at R;exact(lg R).symm
     subst this;exact⟨(ai1 _ _ _).mono (P0 _ _ _),ai1 _ _ _⟩)
 apply _k;refine⟨Y,O,C,G,J,B,T,e,x,h2,h3,h4,by lia,λj g L=>u j g (ao.mp L).1 L⟩
def ao5(f:F)(i j k:Nat)(Y:Env):(Tg.names [i,j,k]).put f.toD Y=some (((Y.set i (sI f.a)).set j (sI f.b)).set k (some (Ge f.r))):=rfl
noncomputable def ab4(Y:List F)(f:F):List F:=if ¬f.Q5/\f∉Y then Y++[f]else Y
def ClK(Y:List F)(k:Nat):Prop:=∀(i j:Nat)(f g:F),i<k->j<k->Y[i]?=some f->Y[j]?=some g->Cl2 Y f g
def ak6(N:Sz sz)(C:Zk sz f)(T:M[p]?=some (.lst (Z.map F.toD)))(L:Z.length<100000) :
 ∃M',Aw.den W [a0,sR p,sI f.a,sI f.b,Ge f.r,a5,a6,a7,a8,a9] M=.ok (.next,[a0,sR p,sI f.a,sI f.b,some (Ge f.r),a5,a6,a7,a8,a9]) M' /\
  M'[p]?=some (.lst ((ab4 Z f).map F.toD))/\Up p M M':=by
 have Y:f.r.length<=100000:=by have:=(ag9 N C).2;exact a_ this (by decide)
 have B:=aoy M f Z;have J:D.tup [.int f.a,.int f.b,Ge f.r]=f.toD:=rfl;have ap:=Es (d:=f.toD) T (by rw[dm];exact L)
 by_cases i:f.Q5
 .refine⟨M,?_,by rw[ab4,cj (λq=>q.1 i)];exact T,Up.refl p M⟩
  simp[-eq_int,Aw,Cv,i.1,Km,Y,Pz,v8 i.2]
 .by_cases m:f∈Z
  .refine⟨M,?_,by rw[ab4,cj (λq=>q.2 m)];exact T,Up.refl p M⟩
   by_cases G:f.a=f.b
   .have O:¬f.r=List.range f.r.length:=λq=>i ⟨G,q⟩
    simp[G]at J;simp[-eq_int,Aw,Cv,G,O,Km,Y,Pz,J,Sy T,B,m]
   .simp[-eq_int,Aw,Cv,G,Km,Y,Pz,J,Sy T,B,m]
  .refine⟨M.set p (.lst ((Z++[f]).map F.toD)),?_,by rw[ab4,dj ⟨i,m⟩,qx T],Up.set _ _ _⟩
   by_cases G:f.a=f.b
   .have O:¬f.r=List.range f.r.length:=λq=>i ⟨G,q⟩
    simp[G]at J;simp[-eq_int,Aw,Cv,G,O,Km,Y,Pz,J,Sy T,B,m,Ep T,ap]
   .simp[-eq_int,Aw,Cv,G,Km,Y,Pz,J,Sy T,B,m,Ep T,ap]
set_option tactic.hygienic true in
def ao6(h:Inv sz Z)(T:Zk sz f):Inv sz (ab4 Z f):=by
 unfold ab4;split
 .rename_i q;exact h.snoc T q.2 q.1
 .exact h
def ao7(Y:List F)(f:F):(ab4 Y f).length<=Y.length+1:=by unfold ab4;split<;>simp
def ak7(hz:Sz sz)(H:Inv sz U)(hp:M[p]?=some (.lst (U.map F.toD)))(hl:U.length<=3) :
 ∃(J:Env)(G:dz),Hg.den W [a0,sR p,a2,a3,a4,sI 0,a6,a7,a8,a9] M=.ok (.next,J) G/\J[1]?=some (sR p)/\∃Z:List F,G[p]?=some (.lst (Z.map F.toD))/\Up p M G/\Inv sz Z/\Z.length<=15 /\
  (Z.length<6->Py Z)/\(U=[]->Z=[]):=by
 unfold Hg;rw[abp];refine Qp (λm o G=>∃(Z:List F)(k:Nat)(r v K y c:Option D),o=[a0,sR p,a2,a3,r,sI k,v,K,y,c]/\G[p]?=some (.lst (Z.map F.toD))/\Up p M G/\Inv sz Z/\Z.length<=15/\ClK Z k/\k<=5/\m=10-k/\(U=[]->Z=[]))
  (λJ G=>J[1]?=some (sR p)/\∃Z:List F,G[p]?=some (.lst (Z.map F.toD))/\Up p M G/\Inv sz Z/\Z.length<=15/\(Z.length<6->Py Z)/\(U=[]->Z=[])) ?_ ag4 10 _ M (by decide)
  ⟨U,0,a4,a6,a7,a8,a9,rfl,hp,Up.refl p M,H,a_ hl (by decide),λi j f g h=>absurd h (ug _),jd _,rfl,id⟩
 intro m o Q x;refine hG λ_ _k=>?_
 obtain⟨Z,k,r,v,K,y,c,rfl,L,I,d,V,t,g6,g7,u⟩:=x;apply _k
 by_cases O:k<Z.length
 .have T:(k:Int)<(Z.length:Int):=m_ O
  by_cases s:Z.length<6
  .have C:(Z.length:Int)<6:=m_ s
   right
   refine hG λ_ _k=>?_
   obtain⟨is,a,b,d7,d8,d9,M2,e,p2,u2,pr,P,l2,E⟩:=avs (W:=W) (M:=Q) (a0:=a0) (a2:=a2) (a3:=a3) (a4:=r) (a6:=v) (a7:=K) (a8:=y) (a9:=c) (k:=k) hz d L (c_ V (by decide)) (show Z[k]?=some Z[k]by simp[O]);apply _k;refine⟨Q,.next,_,M2,10-(k+1),?_,?_,.inl rfl,by lia,is,k+1,a,b,d7,d8,d9,rfl,p2,I.trans u2,P,by lia,?_,by lia,rfl,?_⟩
   .simp[Ng L,T,C]
   .simp[N7,e]
   .intro i j f g S Y R A
    have B:∀(i:Nat)(f:F),i<k+1->is[i]?=some f->Z[i]?=some f:=λi f H R=>by
     have n:i<Z.length:=b_ H O
     have:=Ub pr (show Z[i]?=some Z[i]by simp[n]);rw[R]at this;rw[this];simp[n]
    have N:=B i f S R;have l:=B j g Y A
    by_cases z:i=k
    .subst z
     have:f=Z[i]:=by have:=N;simp[O]at this;exact this.symm
     subst this;exact(E j g l).1
    .by_cases X:j=k
     .subst X
      have:g=Z[j]:=by have:=l;simp[O]at this;exact this.symm
      subst this;exact(E i f N).2
     .exact(t i j f g (by lia) (by lia) N l).mono pr
   .intro e0
    have:=u e0;subst this;simp at O
  .left
   have C:¬(Z.length:Int)<6:=by lia
   exact⟨Q,by simp[Ng L,T,C],rfl,Z,L,I,d,V,λq=>absurd q s,u⟩
 .left
  have T:¬(k:Int)<(Z.length:Int):=by lia
  refine⟨Q,by simp[Ng L,T],rfl,Z,L,I,d,V,λ_=>?_,u⟩;intro f R g A;refine hG λ_ _k=>?_
  obtain⟨i,S,z⟩:=p8 R;obtain⟨j,Y,X⟩:=p8 A;apply _k;exact t i j f g (b_ S (s_ O)) (b_ Y (s_ O)) (by simp[S,z]) (by simp[Y,X])
def aaj(hm:1<=m)(hz:Sz sz)(hg:Good sz fs)(hl:fs.length<=3)(C:gr M d=some (fs.map F.toD)) :
 ∃(G:List F)(Y:dz),prog.call m 16 [d] M=.ok (.ref M.length) Y/\Y[M.length]?=some (.lst (G.map F.toD))/\vz M Y/\Y.length=M.length+1/\Inv sz G/\G.length<=15/\(G.length<6->Py G)/\(fs=[]->G=[]):=by
 rw[call_of hm rfl];refine hG λ_ _k=>?_
 have B:gr (M++[.lst []]) d=some (fs.map F.toD):=(vz.app M _).gr C;obtain⟨s,I,qk,M1,e1,T,N,E,L,rfl,h1,h2,h3,h4,h5⟩:=X3 (body:=λd O M=>match(Tg.names [2,3,4]).put d O with
  | some U=>Aw.den (PW (m-1)) U M|none=>.bad)
  (λi O Y=>∃(T:List F)(N E L:Option D),O=[some d,sR M.length,N,E,L,none,none,none,none,none]/\Y[M.length]?=some (.lst (T.map F.toD))/\Up M.length (M++[.lst []]) Y/\Inv sz T/\T.length<=i/\(fs=[]->T=[]))
  (ρ:=[some d,sR M.length,none,none,none,none,none,none,none,none]) (M:=M++[.lst []]) B
  ⟨[],none,none,none,rfl,by simp,Up.refl _ _,⟨λf J=>by simp at J,by simp,λf J=>by simp at J⟩,by simp,λ_=>rfl⟩
  (λi O Y S=>by
   refine hG λ_ _k=>?_
   obtain⟨T,N,E,L,rfl,g1,H,g3,Q,g5⟩:=S;apply _k;cases d with
   |vl xs=>exact C
   |ref n =>
    have hn:n≠M.length:=by
     simp only[gr]at C;cases e:M[n]? with
     |none=>rw[e]at C;simp at C|some o=>have:=xm e;exact h_ this
    simp only[gr]at B⊢;rw[H.oth n hn];exact B
   | _=>simp[gr]at C)
  (λi x O Y hx S=>by
   refine hG λ_ _k=>?_
   obtain⟨T,N,E,L,rfl,g1,H,g3,Q,g5⟩:=S;obtain⟨f,J,rfl⟩:∃f,fs[i]?=some f/\f.toD=x:=by simpa using hx
   have R:=bh J;have X:=(ao.mp J).1;obtain⟨V,e2,K,A⟩:=ak6 (W:=PW (m-1)) (M:=Y) (a0:=some d) (a5:=none) (a6:=none) (a7:=none) (a8:=none) (a9:=none) hz (hg f R) g1 (c_ Q (b_ X (a_ hl (by decide))));apply _k;refine⟨.next,_,V,?_,.inl rfl,ab4 T f,sI f.a,sI f.b,some (Ge f.r),rfl,K,H.trans A,ao6 g3 (hg f R),?_,λe=>?_⟩
   .rw[ao5];exact e2
   .have:=ao7 T f;exact a_ this (v_ Q)
   .subst e;simp at J)
 apply _k;have qq:T.length<=3:=by simp at h4;exact a_ h4 hl
 refine hG λ_ _k=>?_
 obtain⟨qv,V,e2,q1,G,K,A,P,l2,c2,z2⟩:=ak7 (W:=PW (m-1)) (M:=M1) (a0:=some d) (a2:=N) (a3:=E) (a4:=L) (a6:=none) (a7:=none) (a8:=none) (a9:=none) hz h3 h1 qq;have up:=h2.trans A;apply _k;refine⟨G,V,?_,K,λa o h=>?_,?_,P,l2,c2,λe=>z2 (h5 e)⟩
 .have Z:Hh.den (PW (m-1)) [some d,sR M.length,none,none,none,none,none,none,none,none] (M++[.lst []])=.ok (.next,[some d,sR M.length,N,E,L,none,none,none,none,none]) M1:=by
   unfold Hh;rw[U7];simp[I];exact e1
  simp[Fn.run,Rc,Rb,MW.new,Z,e2,q1]
 .have:=xm h
  rw[up.oth a (h_ this)];exact yx h
 .rw[up.len];simp
noncomputable def eD(f:F):D:=.tup [.int f.a,.int f.b]
def Jz(Y:List F):D:=.tup (Y.map eD)
def ent(Y:List F)(f g:F):Int:=if f.comp g∈Y then(pos (f.comp g) Y:Int)else -1
noncomputable def ky(j k:Nat):List Kx:=[.inl (j:Int),.inl (k:Int)]
def ab5(h:ky j k=ky Z k'):j=Z/\k=k':=by simp[ky]at h;exact⟨D_ h.1,D_ h.2⟩
def Bef(j k Y T:Nat):Prop:=Y<j\/(Y=j/\T<k)
structure Tb(hs:List F)(j k:Nat)(je:List (List Kx×D)):Prop where
 keys:∀p∈je,∃(j' k':Nat)(f g:F),p=(ky j' k',.int (ent hs f g))/\hs[j']?=some f/\hs[k']?=some g/\f.b=g.a/\Bef j k j' k'
 look:∀(j' k':Nat)(f g:F),hs[j']?=some f->hs[k']?=some g->f.b=g.a->Bef j k j' k'->Af je (ky j' k')=some (.int (ent hs f g))
 len:je.length<=j*hs.length+k
def ak8{Y:List (List Kx×D)}(h:∀p∈Y,p.1≠q):Af Y q=none:=by unfold Af;rw[List.find?_eq_none.mpr (λp T=>by simpa using h p T)];rfl
def ak9{Y:List (List Kx×D)}(h:∀p∈Y,p.1≠q):Dz Y q v=Y++[(q,v)]:=by unfold Dz;rw[cj];simp only[Am,f9,not_exists,not_and];exact h
def ab6{Y:List (List Kx×D)}(h:q≠q'):Af (Y++[(q,v)]) q'=Af Y q':=by
 unfold Af;rw[List.find?_append];cases e:Y.find? (λp=>decide (p.1=q'))with
 |some p=>rfl|none=>simp[h]
def ab7{Y:List (List Kx×D)}(h:∀p∈Y,p.1≠q):Af (Y++[(q,v)]) q=some v:=by unfold Af;rw[List.find?_append,List.find?_eq_none.mpr (λp T=>by simpa using h p T)];simp
def Tb.skip(h:Tb Z j k je)(B:Z[j]?=some f)(C:Z[k]?=some g)(n:f.b≠g.a):Tb Z j (k+1) je:=by
 refine⟨λp O=>?_,λY T J G a b c d=>?_,by have:=h.len;exact a_ this (w_ x_)⟩
 .obtain⟨Y,T,J,G,e,a,b,c,d⟩:=h.keys p O
  exact⟨Y,T,J,G,e,a,b,c,by unfold Bef at *;lia⟩
 .by_cases q:Y=j/\T=k
  .obtain⟨rfl,rfl⟩:=q
   rw[B]at a;rw[C]at b;cases a;cases b;exact absurd c n
  .exact h.look Y T J G a b c (by unfold Bef at *;lia)
def Tb.fresh(h:Tb U j k Z):∀p∈Z,p.1≠ky j k:=by
 intro p Y e;obtain⟨G,B,J,T,rfl,a,b,c,d⟩:=h.keys p Y;have:=ab5 e;unfold Bef at d
 lia
def Tb.put(h:Tb Z j k U)(B:Z[j]?=some f)(O:Z[k]?=some g)(n:f.b=g.a):Tb Z j (k+1) (Dz U (ky j k) (.int (ent Z f g))):=by
 rw[ak9 h.fresh];refine⟨λp C=>?_,λY T J G a b c d=>?_,by have:=h.len;simp;lia⟩
 .rcases dw.mp C with q|q
  .obtain⟨Y,T,J,G,e,a,b,c,d⟩:=h.keys p q
   exact⟨Y,T,J,G,e,a,b,c,by unfold Bef at *;lia⟩
  .have:p=(ky j k,.int (ent Z f g)):=by simpa using q
   exact⟨j,k,f,g,this,B,O,n,by unfold Bef;lia⟩
 .by_cases q:Y=j/\T=k
  .obtain⟨rfl,rfl⟩:=q
   rw[B]at a;rw[O]at b;cases a;cases b;exact ab7 h.fresh
  .rw[ab6 (λe=>q (by have:=ab5 e;exact⟨this.1.symm,this.2.symm⟩))]
   exact h.look Y T J G a b c (by unfold Bef at *;lia)
def Tb.next(h:Tb Z j Z.length je):Tb Z (j+1) 0 je:=by
 refine⟨λp B=>?_,λT J G Y a b c d=>?_,by have:=h.len;have e:(j+1)*Z.length=j*Z.length+Z.length:=Nat.succ_mul _ _;exact a_ this (a_ (g_ e) x_)⟩
 .obtain⟨T,J,G,Y,e,a,b,c,d⟩:=h.keys p B
  exact⟨T,J,G,Y,e,a,b,c,by unfold Bef at *;lia⟩
 .have:=(ao.mp b).1
  exact h.look T J G Y a b c (by unfold Bef at *;lia)
def ao8{T:List F}{j k:Nat}(C:Sz sz)(J:Zk sz f)(L:Zk sz g)(h:f.b=g.a)(B:M[q]?=some (.lst (T.map F.toD)))(N:T[j]?=some f)(E:T[k]?=some g) :
 Gr.den W [a0,a1,sR q,a3,a4,sI j,sI k,a7] M=.ok (.vl ((f.comp g).r.map nD)) M:=by
 have G:(f.r.map nD).length<=100000:=by rw[dm,J.len];have:=C f.a;exact a_ this.2 (by decide)
 unfold Gr;rw[Ia (ds:=f.r.map nD) (M1:=M) (g:=λd=>match d with|.int i=>nD (g.r.getD i.toNat 0)|_=>.non) (by simp[Rr B N,ao2,Ge]) G (λx O=>by
  obtain⟨y,P,rfl⟩:=bf.mp O;have Y:y<g.r.length:=by rw[L.len,<-h];exact J.ran y P
  exact⟨_,rfl,by simp[Rr B E,ao2,nD,ao3 M g.r Y]⟩)]
 simp[F.comp,nD]
def ahb(X:Sz sz)(R:Inv sz Z)(H:Z.length<=5)(Y:M[q]?=some (.lst (Z.map F.toD)))(E:M[r]?=some (.dT U))(J:Z[j]?=some f)(T:Z[k]?=some g)(P:Tb Z j k U) :
 ∃(V:Option D)(M':dz)(G:List (List Kx×D)),Dg.den W [a0,a1,sR q,a3,sR r,sI j,sI k,a7] M=.ok (.next,[a0,a1,sR q,a3,sR r,sI j,sI k,V]) M' /\
  M'[r]?=some (.dT G)/\Tb Z j (k+1) G/\Up r M M':=by
 have O:=(ao.mp J).1;have A:=(ao.mp T).1;have I:=R.good f (bh J);have K:=R.good g (bh T)
 by_cases h:f.b=g.a
 .have S:=ao8 (W:=W) (M:=M) (a0:=a0) (a1:=a1) (a3:=a3) (a4:=some (.ref r)) (a7:=a7) X I K h Y J T
  have Q:=aoy M (f.comp g) Z;have C:U.length<100000:=by
   have:=P.len;have:j*Z.length<=5*5:=Nat.mul_le_mul (e_ (b_ O H)) H
   lia
  have st:=aoq (d:=.int (ent Z f g)) (b:=.tup [.int j,.int k]) E rfl C;refine⟨some (f.comp g).toD,_,Dz U (ky j k) (.int (ent Z f g)),?_,qx (o:=.dT (Dz U (ky j k) (.int (ent Z f g)))) E,P.put J T h,Up.set _ _ _⟩
  by_cases m:f.comp g∈Z
  .have N:Ks .index (.ref q) [(f.comp g).toD] M=.ok (.int (pos (f.comp g) Z)) M:=by simp[Ks,onL,j5 Y,a83,m]
   have L:Oq .index (.ref q) M=true:=by simp[Oq,j5 Y]
   have B:ent Z f g=(pos (f.comp g) Z:Int):=dj m;rw[B]at st;simp[-eq_int,Dg,Rr Y J,Rr Y T,Vy,Vz,Cv,h,S,ab3,aha,Sy Y,Q,m,L,N,st,B,ky]
  .have B:ent Z f g=-1:=cj m
   rw[B]at st;simp[-eq_int,Dg,Rr Y J,Rr Y T,Vy,Vz,Cv,h,S,ab3,aha,Sy Y,Q,m,st,B,ky]
 .refine⟨a7,M,U,?_,E,P.skip J T h,Up.refl r M⟩
  simp[-eq_int,Dg,Rr Y J,Rr Y T,Vy,Vz,Cv,h]
def a1s(m:Sz sz)(y:Inv sz Z)(V:Z.length<=5)(Q:M[q]?=some (.lst (Z.map F.toD)))(t:M[r]?=some (.dT []))(B:q≠r) :
 ∃(T:Env)(M':dz)(Y:List (List Kx×D)),El.den W [a0,a1,sR q,a3,sR r,a5,a6,a7] M=.ok (.next,T) M'/\T[2]?=some (sR q)/\T[3]?=some a3/\T[4]?=some (sR r)/\T.length=8 /\
  M'[r]?=some (.dT Y)/\Tb Z Z.length 0 Y/\Up r M M':=by
 unfold El;have X:∀(M':dz),Up r M M'->qm .len [.ref q] M'=.ok (.int Z.length) M':=λM' u=>Ng (by rw[u.oth q B];exact Q)
 obtain⟨T,M',e,R,J,G,Y,rfl,h1,h2,h3⟩:=yo (S:=El) (W:=W) (n:=Z.length) (ρ:=[a0,a1,sR q,a3,sR r,a5,a6,a7]) (M:=M) (M1:=M) rfl (by simp[Ng Q]) (a_ V (by decide))
  (λj O M'=>∃(R J G:Option D)(Y:List (List Kx×D)),O=[a0,a1,sR q,a3,sR r,R,J,G]/\M'[r]?=some (.dT Y)/\Tb Z j 0 Y/\Up r M M')
  ⟨a5,a6,a7,[],rfl,t,⟨λp hp=>by simp at hp,λj' k' f g a b c d=>by unfold Bef at d;lia,by simp⟩,Up.refl r M⟩
  (λj O C i P=>by
   obtain⟨R,J,G,Y,rfl,U,l,z⟩:=P;have N:C[q]?=some (.lst (Z.map F.toD)):=by rw[z.oth q B];exact Q
   obtain⟨qq,L,e2,c6,H,A,rfl,K,k2,k3⟩:=yo (S:=Ma) (W:=W) (n:=Z.length) (ρ:=[a0,a1,sR q,a3,sR r,sI j,J,G]) (M:=C) (M1:=C) rfl (by simp[Ng N]) (a_ V (by decide))
    (λk O M'=>∃(J G:Option D)(Y:List (List Kx×D)),O=[a0,a1,sR q,a3,sR r,sI j,J,G]/\M'[r]?=some (.dT Y)/\Tb Z j k Y/\Up r C M')
    ⟨J,G,Y,rfl,U,l,Up.refl r C⟩
    (λk O L v P=>by
     obtain⟨J,G,Y,rfl,K,k2,k3⟩:=P;have I:L[q]?=some (.lst (Z.map F.toD)):=by rw[k3.oth q B];exact N
     obtain⟨H,x,E,s,o,t3,u3⟩:=ahb (W:=W) (M:=L) (a0:=a0) (a1:=a1) (a3:=a3) (a7:=G) m y V I K (show Z[j]?=some Z[j]by simp[i]) (show Z[k]?=some Z[k]by simp[v]) k2;exact⟨_,.next,_,x,rfl,s,.inl rfl,_,H,E,rfl,o,t3,k3.trans u3⟩)
   exact⟨_,.next,_,L,rfl,by simp[Mf,e2],  .inl rfl,sI j,c6,H,A,rfl,K,k2.next,z.trans k3⟩)
 exact⟨_,M',Y,e,rfl,rfl,rfl,rfl,h1,h2,h3⟩
structure G8(sz:Nat->Nat)(K:Nat)(hs:List F)(je:List (List Kx×D)):Prop where
 hz:Sz sz
 inv:Inv sz hs
 cl:Py hs
 len:hs.length<=5
 k1:1<=K
 k3:K<=3
 ahc:∀f∈hs,f.a<K
 Zw:∀f∈hs,f.b<K
 tb:Tb hs hs.length 0 je
theorem aem:∀(Y:Y3)(a:Nat),∃v:Nat,(Y.map λ(x:Nat)=>(x:Int)).foldl (λm x=>if m<x then x else m) (a:Int)=(v:Int)/\a<=v/\(∀x∈Y,x<=v)/\(v=a\/v∈Y)
 |[],a=>⟨a,rfl,bz _,by simp,.inl rfl⟩
 |x::Y,a=>by
  refine hG λ_ _k=>?_
  obtain⟨v,e,T,G,J⟩:=aem Y (if a<x then x else a);apply _k;refine⟨v,?_,?_,λy B=>?_,?_⟩
  .rw[gq,List.foldl_cons,<-e]
   congr 1
   by_cases q:a<x
   .have:(a:Int)<(x:Int):=m_ q
    simp[q]
   .have:¬(a:Int)<(x:Int):=by lia
    simp[q]
  .split at T<;>omega
  .rcases dh.mp B with q|q
   .subst q;split at T<;>omega
   .exact G y q
  .rcases J with q|q
   .by_cases w:a<x
    .right;rw[dj w]at q;subst q;simp
    .left;rw[cj w]at q;exact q
   .right;exact bw _ q
theorem X8:∀Z:List Nat,Wz (Z.map nD)=some (Z.map λ(x:Nat)=>(x:Int))
 |[]=>rfl|x::Z=>by simp[nD,Wz,show Wz (Z.map nD)=_ from X8 Z]
def ao9(h:xs≠[]):∃v:Nat,qm .max [.vl (xs.map nD)] M=.ok (.int v) M/\(∀x∈xs,x<=v)/\v∈xs:=by
 refine hG λ_ _k=>?_
 obtain⟨a,r,rfl⟩:∃a r,xs=a::r:=List.exists_cons_of_ne_nil h;obtain⟨v,e,Y,G,T⟩:=aem r a;apply _k;refine⟨v,?_,λx J=>?_,?_⟩
 .have:=X8 (a::r)
  simp only[qm,avk,aae,uw,this];simp only[gq,a1b,uw,wz,Res.Dk,e]
 .rcases dh.mp J with q|q
  .subst q;exact Y
  .exact G x q
 .rcases T with q|q
  .rw[q];simp
  .exact bw _ q
def max2(a b:Nat):qm .max [.int a,.int b] M=.ok (nD (max a b)) M:=by
 by_cases h:a<b
 .have Y:(a:Int)<b:=m_ h
  have e:max a b=b:=by lia
  simp[qm,h,nD,e]
 .have Y:¬(a:Int)<b:=by lia
  have e:max a b=a:=by lia
  simp[qm,h,nD,e]
noncomputable def toF:D->F
 |.tup [.int a,.int b,.tup r]=>⟨a.toNat,b.toNat,r.map λd=>match d with|.int i=>i.toNat|_=>0⟩
 |_=>⟨0,0,[]⟩
def W6(f:F):toF f.toD=f:=by
 obtain⟨a,b,r⟩:=f;show F.mk a b ((r.map nD).map λd=>match d with|.int i=>i.toNat|_=>0)=F.mk a b r;rw[Ar]
 conv=>rhs;rw[<-List.map_id r]
 exact qt _ (yu λx _=>rfl)
def apa{Y:List F}(G:Y.length<=100000)(J:M[q]?=some (.lst (Y.map F.toD))) :
 Gu.den W [a0,a1,sR q,a3,a4,a5,a6,a7] M=.ok (.vl ((Y.map λf=>max f.a f.b).map nD)) M:=by
 unfold Gu;rw[Cd (d:=.ref q) (ds:=Y.map F.toD) (M1:=M) (g:=λd=>nD (max (toF d).a (toF d).b)) (by simp) (j5 J) (by simpa using G) (λx T=>by
  refine hG λ_ _k=>?_
  obtain⟨f,B,rfl⟩:=bf.mp T;apply _k;exact⟨_,ao5 _ _ _ _ _,by simp[max2,W6]⟩)]
 simp[W6]
def ala{T:List F}(G:Z[2]?=some (sR q))(Y:Z.length=8)(B:T.length<=100000)(O:M[q]?=some (.lst (T.map F.toD))) :
 Gq.den W Z M=.ok (.vl (T.map eD)) M:=by
 unfold Gq;rw[Cd (d:=.ref q) (ds:=T.map F.toD) (M1:=M) (g:=λd=>eD (toF d)) (by simp[G]) (j5 O) (by simpa using B) (λx J=>by
  refine hG λ_ _k=>?_
  obtain⟨f,C,rfl⟩:=bf.mp J;apply _k;refine⟨_,ao5 _ _ _ _ _,?_⟩;rw[W6];simp[eD,List.getElem?_set,Y])]
 simp[W6]
def alb(I:1<=m)(hz:Sz sz)(Q:Vx t f M)(hg:Good sz fs)(K:fs.length<=3)(hd:gr M d=some (fs.map F.toD))(hq:M[q]?=some (.lst (hs.map F.toD)))(E:q≠t)(X:Inv sz hs)(L:hs.length<=15)(hc:hs.length<6->Py hs)(h0:fs=[]->hs=[]) :
 ∃(T:Env)(M':dz),Gv.den (PW m) [sR t,some d,sR q,a3,a4,a5,a6,a7] M=.ok (.next,T) M'/\∃(P:D)(J:Nat)(Y:List F),T=[sR t,some P,sR J,a3,a4,a5,a6,a7] /\
  M'[J]?=some (.lst (Y.map F.toD))/\J≠t/\Inv sz Y/\Y.length<=5/\Py Y/\vz M M':=by
 unfold Gv;rw[abp];refine Qp (λn V M'=>∃(d:D)(fs hs:List F)(q:Nat),V=[sR t,some d,sR q,a3,a4,a5,a6,a7]/\fs.length=n/\Good sz fs/\fs.length<=3/\gr M' d=some (fs.map F.toD)/\M'[q]?=some (.lst (hs.map F.toD))/\q≠t /\
  Inv sz hs/\hs.length<=15/\(hs.length<6->Py hs)/\(fs=[]->hs=[])/\vz M M')
  (λT M'=>∃(P:D)(J:Nat)(Y:List F),T=[sR t,some P,sR J,a3,a4,a5,a6,a7]/\M'[J]?=some (.lst (Y.map F.toD))/\J≠t/\Inv sz Y/\Y.length<=5/\Py Y/\vz M M') ?_ ag4 fs.length _ M (by unfold ag4;exact c_ K (by decide))
  ⟨d,fs,hs,q,rfl,rfl,hg,K,hd,hq,E,X,L,hc,h0,vz.refl M⟩
 intro n V B hI;refine hG λ_ _k=>?_
 obtain⟨d,fs,hs,q,rfl,rfl,g1,W,C,N,A,g6,g7,g8,g9,G⟩:=hI;apply _k
 by_cases c:5<hs.length
 .right
  refine hG λ_ _k=>?_
  have S:(5:Int)<(hs.length:Int):=m_ c
  have Wx:fs≠[]:=λe=>by rw[g9 e]at c;simp at c
  have qq:1<=fs.length:=List.length_pos_iff.mpr Wx
  have H:ad4 d none (some (-1)) B=some (.vl (fs.dropLast.map F.toD)):=by
   have O:ag2 (fs.map F.toD) none (some (-1))=fs.dropLast.map F.toD:=by
    have e2:((-1:Int)+(fs.length:Int)).toNat=fs.length-1:=by lia
    simp[ag2,clip,e2,List.map_dropLast,List.dropLast_eq_take]
   cases d with
   |tup U=>simp[gr]at C|vl U=>simp only[ad4,C,wz,O]|ref n=>simp only[ad4,C,wz,O]|_=>simp[gr]at C
  have gd:Good sz fs.dropLast:=λf hf=>g1 f (List.dropLast_subset fs hf)
  obtain⟨Y,M2,e,p2,k2,l2,Z,b2,c2,z2⟩:=aaj (M:=B) (m:=m) (d:=.vl (fs.dropLast.map F.toD)) I hz gd (by simp;exact a_ W (by decide)) rfl;have R:t<B.length:=by obtain⟨n,h,_⟩:=Q;exact xm (G t _ h)
  apply _k;refine⟨B,.next,_,M2,fs.length-1,?_,?_,.inl rfl,by lia,.vl (fs.dropLast.map F.toD),fs.dropLast,Y,B.length,rfl,by simp,gd,by simp;exact a_ W (by decide),rfl,p2,i_ R,Z,b2,c2,z2,G.trans k2⟩
  .simp[Ng N,S]
  .simp[-List.map_dropLast,Mg,H,e]
 .left
  have S:¬(5:Int)<(hs.length:Int):=by lia
  exact⟨B,by simp[Ng N,S],d,q,hs,rfl,N,A,g6,s_ c,g8 (c_ (s_ c) (by decide)),G⟩
def ahd(C:3<=m)(R:Vx t f M):∃(K r:Nat)(sz:Nat->Nat)(Q:List F)(A:List (List Kx×D))(M':dz),prog.call m 17 [.ref t] M=.ok (.tup [.int K,Jz Q,.ref r]) M'/\M'[r]?=some (.dT A)/\M.length<=r/\G8 sz K Q A/\St t f M M':=by
 rw[call_of (a_ (by decide) C) rfl];have q5:t<M.length:=by obtain⟨n,h,_⟩:=R;exact xm h
 refine hG λ_ _k=>?_
 obtain⟨d,M1,fs,sz,e1,d1,n1,Z,g1,l1,s1⟩:=ao1 (m:=m-1) (r_ C) R;obtain⟨Q,M2,e2,p2,k2,q8,i2,b2,c2,z2⟩:=aaj (M:=M1) (m:=m-1) (d:=d) (r_ (a_ (by decide) C)) Z g1 l1 d1;apply _k;have qv:t<M1.length:=by obtain⟨n,h,_⟩:=s1.has;exact xm h
 refine hG λ_ _k=>?_
 have s2:St t f M1 M2:=St.of s1.has k2;obtain⟨q7,M3,e3,I,q,T,rfl,S,q3,i3,N,c3,k3⟩:=alb (M:=M2) (m:=m-1) (t:=t) (f:=f) (d:=d) (fs:=fs) (hs:=Q) (q:=M1.length) (a3:=none) (a4:=none) (a5:=none) (a6:=none) (a7:=none) (r_ (a_ (by decide) C)) Z s2.has g1 l1 (k2.gr d1) p2 (i_ qv) i2 b2 c2 z2;have s3:St t f M2 M3:=St.of s2.has k3;have q2:=s1.trans (s2.trans s3);apply _k;refine hG λ_ _k=>?_
 have P:=apa (W:=PW (m-1)) (M:=M3) (a0:=some (.ref t)) (a1:=some I) (a3:=none) (a4:=none) (a5:=none) (a6:=none) (a7:=none) (by exact a_ N (by decide):T.length<=100000) S;obtain⟨v,ev,H,q4⟩:=ao9 (M:=M3) (xs:=(T.map λf:F=>max f.a f.b)++[0]) (by simp);have J:Ey .add (.vl ((T.map λf:F=>max f.a f.b).map nD)) (.vl [.int 0]) M3=.ok (.vl (((T.map λf:F=>max f.a f.b)++[0]).map nD)) M3:=by rw[U8 _ _ (by simp;exact a_ N (by decide))];simp[nD]
 generalize hX:(D.vl ((T.map λf:F=>max f.a f.b).map nD))=X at P J;generalize hY:(D.vl (((T.map λf:F=>max f.a f.b)++[0]).map nD))=Y at ev J;have q6:v<=2:=by
  rcases dw.mp q4 with w|w
  .refine hG λ_ _k=>?_
   obtain⟨x,B,rfl⟩:=bf.mp w;apply _k;have:=(i3.good x B).a;have:=(i3.good x B).b;lia
  .simp at w;exact a_ (f_ w) (jd _)
 have E:zy M3 (.ref q) (.vl [])=some (decide (T=[])):=by
  simp only[zy];cases T with
  |nil=>simp[Kr,gr,S,Tp]|cons a l=>simp[Kr,gr,S]
 apply _k;refine hG λ_ _k=>?_
 obtain⟨K,G,hK,k1,q0,ka,kb,p4,s4,l4⟩:∃(K:Nat)(G:dz),
  (De.iff (.cmp .eq (.v 2) (.Lh .nil)) (.o (.asg (.tg (.name 3)) (.bin .add (.i 1) (.call 14 (.p (.v 0) (.i 3)))))) .nil).den (PW (m-1)) [sR t,some I,sR q,sI (1+(v:Int)),none,none,none,none] M3
   = .ok (.next,[sR t,some I,sR q,sI K,none,none,none,none]) G/\1<=K/\K<=3/\(∀f∈T,f.a<K)/\(∀f∈T,f.b<K)/\G[q]?=some (.lst (T.map F.toD))/\St t f M3 G/\G.length=M3.length:=by
  by_cases V:T=[]
  .refine hG λ_ _k=>?_
   obtain⟨w,G,ew,lw,sw,q1⟩:=Dn (m:=m-1) (r_ (a_ (by decide) C)) s3.has (many:=3) (by decide) (by decide);apply _k;refine⟨1+w,G,?_,x_,by lia,by simp[V],by simp[V],sw.keep q _ q3 S,sw,q1⟩;simp[E,V,ew]
  .refine⟨1+v,M3,?_,x_,by lia,λx B=>?_,λx B=>?_,S,St.of s3.has (vz.refl _),rfl⟩
   .simp[E,V]
   .have:=H (max x.a x.b) (qi _ (bf.mpr ⟨x,B,rfl⟩));lia
   .have:=H (max x.a x.b) (qi _ (bf.mpr ⟨x,B,rfl⟩));lia
 have p5:(G++[.dT []])[q]?=some (.lst (T.map F.toD)):=yx p4;have L:=xm p4;obtain⟨zq,M6,A,e6,r2,r3,r4,r8,p6,t6,U⟩:=a1s (W:=PW (m-1)) (M:=G++[.dT []]) (q:=q) (r:=G.length) (a0:=some (.ref t)) (a1:=some I) (a3:=some (.int K)) (a5:=none) (a6:=none) (a7:=none) Z i3 N p5 (by simp) (h_ L);apply _k;have qk:M6[q]?=some (.lst (T.map F.toD)):=by rw[U.oth q (h_ L)];exact p5
 have qq:=ala (W:=PW (m-1)) (M:=M6) r2 r8 (by exact a_ N (by decide):T.length<=100000) qk;have O:=q2.trans s4;refine⟨K,G.length,sz,T,A,M6,?_,p6,O.len,⟨Z,i3,c3,N,k1,q0,ka,kb,t6⟩,?_⟩
 .simp only[Fn.run,O9,O8]
  simp[-a8u,e1,e2,e3,P,J,ev,hK,MW.new,e6,r3,r4,qq,Fq,Jz]
 .refine O.trans ⟨?_,?_,λa o na h=>?_⟩
  .rw[U.len];simp
  .obtain⟨n,h,o⟩:=s4.has
   exact⟨n,by rw[U.oth t (by have:=xm h;exact h_ this)];exact yx h,o⟩
  .rw[U.oth a (by have:=xm h;exact h_ this)];exact yx h
noncomputable def pD(p:Nat×Nat):D:=.tup [.int p.1,.int p.2]
def Meet(Y:List F)(j k:Nat):Prop:=∃f g,Y[j]?=some f/\Y[k]?=some g/\f.b=g.a
structure Ps(hs:List F)(j k:Nat)(ps:List (Nat×Nat)):Prop where
 all:∀p:Nat×Nat,p∈ps↔Meet hs p.1 p.2/\Bef j k p.1 p.2
 len:ps.length<=j*hs.length+k
def Ps.skip(h:Ps Z j k ps)(Y:Z[j]?=some f)(T:Z[k]?=some g)(n:f.b≠g.a):Ps Z j (k+1) ps:=by
 refine⟨λp=>?_,by have:=h.len;exact a_ this (w_ x_)⟩;rw[h.all p];constructor
 .exact λq=>⟨q.1,by have:=q.2;unfold Bef at *;lia⟩
 .intro q
  refine⟨q.1,?_⟩;have J:=q.2
  by_cases e:p.1=j/\p.2=k
  .refine hG λ_ _k=>?_
   obtain⟨B,G,a,b,c⟩:=q.1;rw[e.1,Y]at a;rw[e.2,T]at b;cases a;cases b;apply _k;exact absurd c n
  .unfold Bef at *;lia
def Ps.put(h:Ps Z j k ps)(Y:Z[j]?=some f)(T:Z[k]?=some g)(n:f.b=g.a):Ps Z j (k+1) (ps++[(j,k)]):=by
 refine⟨λp=>?_,by have:=h.len;simp;lia⟩;rw[dw,h.all p,ie];constructor
 .rintro(q|q)
  .exact⟨q.1,by have:=q.2;unfold Bef at *;lia⟩
  .subst q;exact⟨⟨f,g,Y,T,n⟩,by unfold Bef;lia⟩
 .intro q
  by_cases e:p.1=j/\p.2=k
  .right;exact Prod.ext e.1 e.2
  .left;exact⟨q.1,by have:=q.2;unfold Bef at *;lia⟩
def Ps.next(h:Ps Z j Z.length ps):Ps Z (j+1) 0 ps:=by
 refine⟨λp=>?_,by have:=h.len;have e:(j+1)*Z.length=j*Z.length+Z.length:=Nat.succ_mul _ _;exact a_ this (a_ (g_ e) x_)⟩;rw[h.all p];constructor
 .exact λq=>⟨q.1,by have:=q.2;unfold Bef at *;lia⟩
 .intro q
  refine⟨q.1,?_⟩;refine hG λ_ _k=>?_
  obtain⟨f,g,a,b,c⟩:=q.1;have:=(ao.mp b).1;have:=q.2;apply _k;unfold Bef at *;lia
def aen(f:F)(M:dz):Bk (eD f) (.int 0) M=some (.int f.a):=rfl
def Wa(f:F)(M:dz):Bk (eD f) (.int 1) M=some (.int f.b):=rfl
def Rt{i:Nat}(h:Z[i]?=some f):Bk (Jz Z) (.int i) M=some (eD f):=Ip q_ (by simp[h])
def K7:qm .len [Jz Z] M=.ok (.int Z.length) M:=by simp[qm,Dd,Jz]
def Qa(x y:D)(i j:Nat)(Y:Env):(Tg.names [i,j]).put (.tup [x,y]) Y=some ((Y.set i (some x)).set j (some y)):=rfl
def aeo(C:Z.length<=5)(T:M[q]?=some (.lst (ps.map pD)))(B:Z[j]?=some f)(O:Z[k]?=some g)(G:Ps Z j k ps) :
 ∃(M':dz)(Y:List (Nat×Nat)),Eb.den W [a0,sR q,sI j,eD f,sI k,eD g] M=.ok (.next,[a0,sR q,sI j,some (eD f),sI k,some (eD g)]) M' /\
  M'[q]?=some (.lst (Y.map pD))/\Ps Z j (k+1) Y/\Up q M M':=by
 have J:=(ao.mp B).1;have L:=(ao.mp O).1
 by_cases h:f.b=g.a
 .have N:(ps.map pD).length<100000:=by
   have:=G.len;have:j*Z.length<=5*5:=Nat.mul_le_mul (e_ (b_ J C)) C
   rw[dm];lia
  have ap:=Es (d:=.tup [.int j,.int k]) T N;refine⟨M.set q (.lst ((ps++[(j,k)]).map pD)),ps++[(j,k)],?_,qx T,G.put B O h,Up.set _ _ _⟩;simp[-eq_int,Eb,aen,Wa,Cv,h,Ep T,ap,pD]
 .refine⟨M,ps,?_,T,G.skip B O h,Up.refl q M⟩
  simp[-eq_int,Eb,aen,Wa,Cv,h]
def aep(H:1<=m)(q:hs.length<=5) :
 ∃(M':dz)(Y:List (Nat×Nat)),prog.call m 7 [Jz hs] M=.ok (.ref M.length) M'/\M'[M.length]?=some (.lst (Y.map pD))/\Ps hs hs.length 0 Y/\Up M.length (M++[.lst []]) M':=by
 rw[call_of H rfl];refine hG λ_ _k=>?_
 obtain⟨o,M',e,E,R,G,T,Y,rfl,d,Q,n⟩:=Px (S:=Kf) (W:=PW (m-1)) (ds:=hs.map eD) (ρ:=[Jz hs,sR M.length,none,none,none,none]) (M:=M++[.lst []]) (M1:=M++[.lst []]) rfl (by simp[Jz])
  (λj J M'=>∃(E R G T:Option D)(Y:List (Nat×Nat)),J=[some (Jz hs),sR M.length,E,R,G,T]/\M'[M.length]?=some (.lst (Y.map pD))/\Ps hs j 0 Y/\Up M.length (M++[.lst []]) M')
  ⟨none,none,none,none,[],rfl,by simp,⟨λp=>by simp[Bef],by simp⟩,Up.refl _ _⟩
  (λj x J B u C=>by
   refine hG λ_ _k=>?_
   obtain⟨E,R,G,T,Y,rfl,c,K,s⟩:=C;obtain⟨f,I,rfl⟩:∃f,hs[j]?=some f/\eD f=x:=by simpa using u
   obtain⟨v,L,i,A,t,O,rfl,P,k2,k3⟩:=Px (S:=Kd) (W:=PW (m-1)) (ds:=hs.map eD) (ρ:=[Jz hs,sR M.length,sI j,eD f,G,T]) (M:=B) (M1:=B) rfl (by simp[Jz])
    (λk J M'=>∃(G T:Option D)(Y:List (Nat×Nat)),J=[some (Jz hs),sR M.length,sI j,some (eD f),G,T]/\M'[M.length]?=some (.lst (Y.map pD))/\Ps hs j k Y/\Up M.length B M')
    ⟨G,T,Y,rfl,c,K,Up.refl _ _⟩
    (λk y J L V C=>by
     refine hG λ_ _k=>?_
     obtain⟨G,T,Y,rfl,P,k2,k3⟩:=C;obtain⟨g,F,rfl⟩:∃g,hs[k]?=some g/\eD g=y:=by simpa using V
     obtain⟨l,N,z,X,t3,r⟩:=aeo (W:=PW (m-1)) (M:=L) (a0:=some (Jz hs)) q P I F k2;apply _k;exact⟨_,.next,_,l,Qa _ _ _ _ _,z,.inl rfl,sI k,some (eD g),N,rfl,X,t3,k3.trans r⟩)
   rw[dm]at k2;apply _k;exact⟨_,.next,_,L,Qa _ _ _ _ _,by simp[Ke,i],.inl rfl,sI j,some (eD f),A,t,O,rfl,P,k2.next,s.trans k3⟩)
 rw[dm]at Q;apply _k;refine⟨M',Y,?_,d,Q,n⟩;simp[Fn.run,Nz,Ny,MW.new,e]
def bothW(T:List F)(Y:List (List Kx×D))(x y:Int):Option D:=if x=-1 then some (.int y)else if y=-1 then some (.int x)else Af Y [.inl x,.inl y]
def ai2(G:1<=m)(J:M[r]?=some (.dT Z))(h:bothW U Z x y=some v):prog.call m 6 [.ref r,.int x,.int y] M=.ok v M:=by
 rw[call_of G rfl];unfold bothW at h
 by_cases Y:x=-1
 .rw[dj Y]at h;cases h
  simp[Fn.run,Kc,Ka,Y]
 .rw[cj Y]at h
  by_cases T:y=-1
  .rw[dj T]at h;cases h
   simp[Fn.run,Kc,Ka,Y,T]
  .rw[cj T]at h
   simp[Fn.run,Kc,Ka,Y,T,aaf J (aag x y),h]
def alc(Y:List F)(c:F):Int:=if c∈Y then(pos c Y:Int)else -1
def Nh(Y:List F)(f g:F):ent Y f g=alc Y (f.comp g):=rfl
def ai3(Y:hs.Nodup){i:Nat}(h:hs[i]?=some f):alc hs f=i:=by have m:f∈hs:=bh h;rw[alc,dj m,ag7 Y h]
def Vd:∀k:List Kx,Q3 (aoe k)=some k:=by
 intro k;show abm (k.map aod)=some k
 induction k with
 |nil=>rfl|cons a l Y=>cases a<;>simp[abm,aod,Xq,Y]
theorem aeq:∀Z:List (List Kx×D),Fe (Z.map λp=>aoe p.1)=some (Z.map (·.1))
 |[]=>rfl|p::l=>by simp[Fe,Vd,aeq l]
theorem aer:∀Z:List (Nat×Nat),Fe (Z.map pD)=some (Z.map λp=>ky p.1 p.2)
 |[]=>rfl|p::l=>by simp[Fe,pD,aer l,ky]
def apb{Y:List (List Kx×D)}(h:Af Y q=some v):∃p∈Y,p.1=q:=by
 unfold Af at h;cases e:Y.find? (λp=>decide (p.1=q))with
 |none=>rw[e]at h;cases h|some p=>exact⟨p,List.mem_of_find?_eq_some e,by simpa using List.find?_some e⟩
section
variable{sz:Nat->Nat}{K:Nat}{hs:List F}{je:List (List Kx×D)}(P:G8 sz K hs je)
include P
theorem G8.look(Y:hs[j]?=some f)(T:hs[k]?=some g)(h:f.b=g.a):Af je (ky j k)=some (.int (ent hs f g)):=
 P.tb.look j k f g Y T h (.inl (ao.mp Y).1)
theorem G8.no(h:¬Meet hs j k):Af je (ky j k)=none:=by apply ak8;intro p Y e;obtain⟨T,G,f,g,rfl,a,b,c,_⟩:=P.tb.keys p Y;obtain⟨rfl,rfl⟩:=ab5 e;exact h ⟨f,g,a,b,c⟩
theorem G8.kl:je.length<=25:=by
 have:=P.tb.len;have:hs.length*hs.length<=5*5:=Nat.mul_le_mul P.len P.len
 lia
theorem G8.plain:Ff (je.map (·.1))=true:=by have:=P.kl;simp only[Ff,dm,az,f9];refine⟨a_ this (by decide),?_⟩;rw[jf];intro k Y;obtain⟨p,T,rfl⟩:=bf.mp Y;obtain⟨j,k,f,g,rfl,_⟩:=P.tb.keys p T;simp[ky]
theorem G8.sm:U5 je=true:=by
 unfold U5;rw[jf];intro p Y;obtain⟨j,k,f,g,rfl,a,b,_⟩:=P.tb.keys p Y;have:=(ao.mp a).1;have:=(ao.mp b).1;have:=P.len;simp[ky]
 lia
theorem G8.same(h:Ps hs hs.length 0 ps):J8 (je.map (·.1)) (ps.map λp=>ky p.1 p.2)=true:=by
 unfold J8;rw[az,jf,jf];constructor
 .intro x G
  obtain⟨p,Y,rfl⟩:=bf.mp G;obtain⟨j,k,f,g,rfl,a,b,c,d⟩:=P.tb.keys p Y;rw[Am];exact⟨ky j k,bf.mpr ⟨(j,k),(h.all (j,k)).mpr ⟨⟨f,g,a,b,c⟩,d⟩,rfl⟩,by simp⟩
 .intro y T
  obtain⟨p,Y,rfl⟩:=bf.mp T;obtain⟨⟨f,g,a,b,c⟩,d⟩:=(h.all p).mp Y;obtain⟨q,J,e⟩:=apb (P.look a b c);rw[Am];exact⟨q.1,bf.mpr ⟨q,J,rfl⟩,by simp[e]⟩
theorem G8.Ew(h:c∈hs\/c.Q5):(alc hs c=-1/\c.Q5)\/∃i:Nat,hs[i]?=some c/\alc hs c=i:=by
 by_cases m:c∈hs
 .exact .inr ⟨pos c hs,ab0 c m,dj m⟩
 .exact .inl ⟨cj m,h.resolve_left m⟩
theorem G8.apc{j k l:Nat}(O:hs[j]?=some f)(q:hs[k]?=some g)(E:hs[l]?=some h)(G:f.b=g.a)(B:g.b=h.a) :
 ∃v:Int,bothW hs je (ent hs f g) l=some (.int v)/\bothW hs je j (ent hs g h)=some (.int v):=by
 have I:=bh O;have mg:=bh q;have H:=bh E;have of:=P.inv.good f I;have L:=P.inv.good g mg;have V:=P.inv.good h H;have as:=ag8 (h:=h) of L G;rw[Nh,Nh];have N:¬((j:Int)=-1):=by lia
 have A:¬((l:Int)=-1):=by lia
 rcases P.Ew (P.cl f I g mg G)with⟨C,M⟩|⟨u,d,C⟩
 .have y:=ab1 (of.comp L G) M
  have c:f.a=g.b:=M.1;have T:(f.comp g).comp h=h:=by rw[y];show(idF sz f.a).comp h=h;rw[c,B];exact id_comp V
  rcases P.Ew (P.cl g mg h H B)with⟨J,R⟩|⟨w,S,J⟩
  .have Q:=ab1 (L.comp V B) R
   have Y:f.comp (g.comp h)=f:=by rw[Q];show f.comp (idF sz g.a)=f;rw[<-G];exact comp_id of
   have z:f=h:=by rw[<-Y,<-as,T]
   have X:j=l:=by rw[<-ag7 P.inv.nd O,<-ag7 P.inv.nd E,z]
   refine⟨l,by simp[bothW,C],?_⟩;rw[J,bothW,cj N,dj rfl,X]
  .have F:¬((w:Int)=-1):=by lia
   refine⟨l,by simp[bothW,C],?_⟩;rw[J,bothW,cj N,cj F];have:=P.look O S (show f.b=(g.comp h).a from G);rw[Nh,<-as,T,ai3 P.inv.nd E]at this;exact this
 .have D:¬((u:Int)=-1):=by lia
  have W:=P.look d E (show(f.comp g).b=h.a from B);rcases P.Ew (P.cl g mg h H B)with⟨J,R⟩|⟨w,S,J⟩
  .have Q:=ab1 (L.comp V B) R
   have Y:f.comp (g.comp h)=f:=by rw[Q];show f.comp (idF sz g.a)=f;rw[<-G];exact comp_id of
   refine⟨j,?_,?_⟩
   .rw[C,bothW,cj D,cj A]
    rw[Nh,as,Y,ai3 P.inv.nd O]at W;exact W
   .rw[J,bothW,cj N,dj rfl]
  .have F:¬((w:Int)=-1):=by lia
   refine⟨alc hs ((f.comp g).comp h),?_,?_⟩
   .rw[C,bothW,cj D,cj A];exact W
   .rw[J,bothW,cj N,cj F]
    have:=P.look O S (show f.b=(g.comp h).a from G);rw[Nh,<-as]at this;exact this
end
def avu(E:1<=m)(P:G8 sz K Z U):prog.call m 9 [.int K,Jz Z] M=.ok .non M:=by
 rw[call_of E rfl];obtain⟨A,O,e,⟨G,rfl⟩,rfl⟩:=aeg (S:=Lw) (W:=PW (m-1)) (ds:=Z.map eD) (ρ:=[sI K,Jz Z,none]) (M:=M) (M1:=M) rfl (by simp[Jz])
  (λj Y O=>(∃G:Option D,Y=[sI K,some (Jz Z),G])/\O=M) ⟨⟨none,rfl⟩,rfl⟩
  (λj x Y N V Q=>by
   obtain⟨⟨G,rfl⟩,rfl⟩:=Q;obtain⟨f,H,rfl⟩:∃f,Z[j]?=some f/\eD f=x:=by simpa using V
   have B:=bh H;have C:=P.ahc f B;have L:=P.Zw f B;refine⟨_,.next,_,N,rfl,?_,.inl rfl,⟨some (eD f),rfl⟩,rfl⟩;have T:(f.a:Int)<K:=m_ C
   have J:(f.b:Int)<K:=m_ L
   have R:(0:Int)<=(f.a:Int):=q_
   have X:(0:Int)<=(f.b:Int):=q_
   simp[Ls,aen,Wa,C,L,T,J,R,X])
 have F:(1:Int)<=K:=by have:=P.k1;exact n_ this
 have k3:(K:Int)<=3:=by have:=P.k3;exact n_ this
 have I:¬(5:Int)<(Z.length:Int):=by have:=P.len;lia
 simp[Fn.run,O3,O2,F,k3,K7,I,e]
def a1v{j k:Nat}(B:1<=m)(P:G8 sz K Z U)(C:Z[j]?=some f)(R:Z[k]?=some g)(h:f.b=g.a):prog.call m 8 [Jz Z,.int (ent Z f g),.int f.a,.int g.b] M=.ok (.bl true) M:=by
 rw[call_of B rfl,Nh];have L:=bh C;have mg:=bh R;rcases P.Ew (P.cl f L g mg h)with⟨G,O⟩|⟨u,J,G⟩
 .have E:f.a=g.b:=O.1
  simp[Fn.run,Gm,Gk,G,E]
 .have Y:=(ao.mp J).1
  have N:¬((u:Int)=-1):=by lia
  have z:(0:Int)<=(u:Int):=q_
  have T:(u:Int)<(Z.length:Int):=m_ Y
  have e:zy M (eD (f.comp g)) (.tup [.int f.a,.int g.b])=some true:=by show Tp (Kr M 5) [.int f.a,.int g.b] [.int f.a,.int g.b]=some true;rw[Eh (Nb M 4 _ _) (Eh (Nb M 4 _ _) (show Tp (Kr M 5) [] []=some true from rfl))];simp
  simp[Fn.run,Gm,Gk,G,N,z,Y,T,K7,Rt J,e]
def avv(G:2<=m)(P:G8 sz K Z je)(u:M[r]?=some (.dT je)):∃U,prog.call m 10 [Jz Z,.ref r] M=.ok .non U/\vz M U/\U.length=M.length+1:=by
 rw[call_of (a_ (by decide) G) rfl];obtain⟨M1,Y,q,B,O,F⟩:=aep (M:=M) (m:=m-1) (hs:=Z) (r_ G) P.len;have H:vz M M1:=λa o h=>by rw[F.oth a (by have:=xm h;exact h_ this)];exact yx h
 have Q:=H r _ u;have L:(keysOf M1 (.ref r)).bind Fe=some (je.map (·.1)):=by simp only[keysOf,Q,uw,aeq]
 have C:(keysOf M1 (.ref M.length)).bind Fe=some (Y.map λp=>ky p.1 p.2):=by simp only[keysOf,B,gr,uw,aer]
 have y:Ff (Y.map λp=>ky p.1 p.2)=true:=by
  have:=O.len;have:Z.length*Z.length<=5*5:=Nat.mul_le_mul P.len P.len
  simp only[Ff,dm,az,f9];refine⟨by lia,?_⟩;rw[jf];intro k I;obtain⟨p,V,rfl⟩:=bf.mp I;simp[ky]
 have J:(Ex.Xp (.v 1) (.v 2)).den (PW (m-1)) [some (Jz Z),sR r,sR M.length,none,none] M1=.ok (.bl false) M1:=by rw[aac];simp only[ain,List.getElem?_cons_succ,List.getElem?_cons_zero,Res.Ca,L,P.plain,C,y,P.same O,lz,qz]
 obtain⟨l,U,e,⟨E,N,rfl⟩,rfl⟩:=Dl (S:=N6) (W:=PW (m-1)) (d:=.ref M.length) (ds:=Y.map pD) (ρ:=[Jz Z,sR r,sR M.length,none,none]) (M:=M1) (M1:=M1) rfl (by simp) (j5 B)
  (λj T U=>(∃E N:Option D,T=[some (Jz Z),sR r,sR M.length,E,N])/\U=M1) ⟨⟨none,none,rfl⟩,rfl⟩ (λi T M h=>by rw[h.2];exact j5 B)
  (λi x T X z A=>by
   obtain⟨⟨E,N,rfl⟩,rfl⟩:=A;obtain⟨p,V,rfl⟩:∃p,Y[i]?=some p/\pD p=x:=by simpa using z
   obtain⟨⟨f,g,a,b,c⟩,d⟩:=(O.all p).mp (bh V);refine⟨_,.next,_,X,Qa _ _ _ _ _,?_,.inl rfl,⟨some (.int p.1),sI p.2,rfl⟩,rfl⟩;have R:=aaf Q (aag p.1 p.2);rw[show([.inl (p.1:Int),.inl (p.2:Int)]:List Kx)=ky p.1 p.2 from rfl,P.look a b c]at R;simp[N5,R,Rt a,Rt b,aen,Wa,a1v (show 1<=m-1 by exact r_ G) P a b c])
 refine⟨U,?_,H,by rw[F.len];simp⟩;simp[Fn.run,Ra,Q9,q,J,e]
def avw(E:2<=m)(P:G8 sz K Z je)(hr:M[r]?=some (.dT je)):∃U,prog.call m 11 [Jz Z,.ref r] M=.ok .non U/\vz M U/\U.length=M.length+1:=by
 rw[call_of (a_ (by decide) E) rfl];obtain⟨M1,A,e1,p1,t1,I⟩:=aep (M:=M) (m:=m-1) (hs:=Z) (r_ E) P.len;have k1:vz M M1:=λa o h=>by rw[I.oth a (by have:=xm h;exact h_ this)];exact yx h
 have C:=k1 r _ hr;have hl:=P.len;obtain⟨qk,U,e,⟨F,V,B,T,Y,rfl⟩,rfl⟩:=Dl (S:=Lz) (W:=PW (m-1)) (d:=.ref M.length) (ds:=A.map pD) (ρ:=[Jz Z,sR r,sR M.length,none,none,none,none,none]) (M:=M1) (M1:=M1) rfl (by simp) (j5 p1)
  (λj J U=>(∃F V B T Y:Option D,J=[some (Jz Z),sR r,sR M.length,F,V,B,T,Y])/\U=M1) ⟨⟨none,none,none,none,none,rfl⟩,rfl⟩ (λi J M h=>by rw[h.2];exact j5 p1)
  (λi x J Q hx R=>by
   obtain⟨⟨F,V,B,T,Y,rfl⟩,rfl⟩:=R;obtain⟨p,hp,rfl⟩:∃p,A[i]?=some p/\pD p=x:=by simpa using hx
   obtain⟨⟨f,g,a,b,c⟩,d⟩:=(t1.all p).mp (bh hp);obtain⟨qq,M3,e3,⟨c5,c6,c7,rfl⟩,rfl⟩:=yo (S:=Lx) (W:=PW (m-1)) (n:=Z.length) (ρ:=[Jz Z,sR r,sR M.length,sI p.1,sI p.2,B,T,Y]) (M:=Q) (M1:=Q) rfl (by simp[K7]) (a_ hl (by decide))
    (λj J U=>(∃B T Y:Option D,J=[some (Jz Z),sR r,sR M.length,sI p.1,sI p.2,B,T,Y])/\U=Q) ⟨⟨B,T,Y,rfl⟩,rfl⟩
    (λl J X H R=>by
     obtain⟨⟨B,T,Y,rfl⟩,rfl⟩:=R;have G:Z[l]?=some Z[l]:=by simp[H]
     have O:=azu C (aag p.2 l);rw[show([.inl (p.2:Int),.inl (l:Int)]:List Kx)=ky p.2 l from rfl]at O
     by_cases q:g.b=Z[l].a
     .rw[P.look b G q]at O
      obtain⟨v,v1,v2⟩:=P.apc a b G c q;have L:=aaf C (aag p.1 p.2);rw[show([.inl (p.1:Int),.inl (p.2:Int)]:List Kx)=ky p.1 p.2 from rfl,P.look a b c]at L;have N:=aaf C (aag p.2 l);rw[show([.inl (p.2:Int),.inl (l:Int)]:List Kx)=ky p.2 l from rfl,P.look b G q]at N;refine⟨_,.next,_,X,rfl,?_,.inl rfl,⟨some (.int l),sI v,sI v,rfl⟩,rfl⟩;simp[Gp,O,L,N,ai2 (show 1<=m-1 by exact r_ E) C v1,ai2 (show 1<=m-1 by exact r_ E) C v2]
     .rw[P.no (λ⟨g',h',x,y,z⟩=>by rw[b]at x;rw[G]at y;cases x;cases y;exact q z)]at O
      refine⟨_,.cont,_,X,rfl,?_,.inr rfl,⟨some (.int l),T,Y,rfl⟩,rfl⟩;simp[Gp,O])
   refine⟨_,.next,_,M3,Qa _ _ _ _ _,?_,.inl rfl,⟨some (.int p.1),sI p.2,c5,c6,c7,rfl⟩,rfl⟩;simp[Ly,e3])
 refine⟨U,?_,k1,by rw[I.len];simp⟩;simp[Fn.run,O5,O4,e1,e]
def Made(n r K:Nat)(Y:List F)(T:List (List Kx×D))(M:dz):Prop:=M[n]?=some (.ins 2 [(2,.int K),(1,Jz Y),(0,.ref r)])/\M[r]?=some (.dT T)
def avx(G:3<=m)(P:G8 sz K Z U)(T:M[r]?=some (.dT U))(C:M[n]?=some (.ins 2 [])) :
 ∃M' r',prog.call m 0 [.ref n,.int K,Jz Z,.ref r] M=.ok .non M'/\Made n r' K Z U M'/\M.length<=r'/\r'<M'.length/\(∀(a:Nat)(o:MO),a≠n->M[a]?=some o->M'[a]?=some o):=by
 rw[call_of (a_ (by decide) G) rfl];have d1:=avu (M:=M) (m:=m-1) (r_ (a_ (by decide) G)) P;obtain⟨W,Q,L,l1⟩:=avv (M:=M) (m:=m-1) (r_ G) P T;obtain⟨Y,I,k2,l2⟩:=avw (M:=W) (m:=m-1) (r_ G) P (L r _ T);have k:=L.trans k2;have J:=k n _ C;have H:=k r _ T;have O:r≠n:=λe=>by rw[e,C]at T;cases T
 have S:Tz (.ref n) 2 (.int K) Y=some (Y.set n (.ins 2 [(2,.int K)])):=by simp[Tz,J,Vs]
 have X:=qx (o:=.ins 2 [(2,.int K)]) J;have F:Tz (.ref n) 1 (Jz Z) (Y.set n (.ins 2 [(2,.int K)]))=some (Y.set n (.ins 2 [(2,.int K),(1,Jz Z)])):=by simp[Tz,X,Vs]
 have D:=qx (o:=.ins 2 [(2,.int K),(1,Jz Z)]) J;have R:(Y.set n (.ins 2 [(2,.int K),(1,Jz Z)]))[r]?=some (.dT U):=by rw[mj (km O)];exact H
 have A:qm .dict [.ref r] (Y.set n (.ins 2 [(2,.int K),(1,Jz Z)]))=.ok (.ref Y.length) (Y.set n (.ins 2 [(2,.int K),(1,Jz Z)])++[.dT U]):=by simp[qm,R,P.sm,MW.new]
 have E:(Y.set n (.ins 2 [(2,.int K),(1,Jz Z)])++[.dT U])[n]?=some (.ins 2 [(2,.int K),(1,Jz Z)]):=yx D;have V:Tz (.ref n) 0 (.ref Y.length) (Y.set n (.ins 2 [(2,.int K),(1,Jz Z)])++[.dT U])=some ((List.set Y n (MO.ins 2 [(2,.int K),(1,Jz Z)])++[MO.dT U]).set n (MO.ins 2 [(2,.int K),(1,Jz Z),(0,.ref Y.length)])):=by simp[Tz,E,Vs]
 have B:=xm J;refine⟨_,Y.length,?_,⟨qx (o:=.ins 2 [(2,.int K),(1,Jz Z),(0,.ref Y.length)]) E,?_⟩,by lia,by simp,λa o N h=>?_⟩
 .simp[Fn.run,Lq,Lp,d1,Q,I,S,F,A,V]
 .rw[mj (h_ B)]
  rw[ji (by simp)];simp
 .rw[mj (km N)]
  exact yx (by rw[mj (km N)];exact k a o h)
end K33
namespace L2
open PySem PySem.Spec PyProof.Rows
abbrev Key:=Sum Int Str
noncomputable def Yb:Key->Value->Bool
 |.inl k,v=>Value.isInt k v|.inr x,v=>Value.isStrOf x v
noncomputable def bfk(w:World):Key->Int
 |.inl k=>hashInt k|.inr x=>hashStr w x
theorem Ce:∀{k:Key}{v:Value},Yb k v=true->(∃i t,k=Sum.inl i/\v=Value.int i t)\/(∃x t,k=Sum.inr x/\v=Value.str x t)
 |.inl i,v,h=>by
  obtain⟨t,e⟩:=Value.isInt_shape (k:=i) (v:=v) h;exact .inl ⟨i,t,rfl,e⟩
 |.inr x,v,h=>by
  obtain⟨t,e⟩:=Value.isStrOf_shape (x:=x) (v:=v) h;exact .inr ⟨x,t,rfl,e⟩
def ald(i:Int)(t:Tok):Yb (.inl i) (.int i t)=true:=by simp[Yb,Value.isInt]
def ale(x:Str)(t:Tok):Yb (.inr x) (.str x t)=true:=by simp[Yb,Value.isStrOf]
def a1w(a b:Int):decide ((Sum.inl a:Key)=Sum.inl b)=(a==b):=by
 by_cases e:a=b
 .subst e;simp
 .have h:¬(Sum.inl a:Key)=Sum.inl b:=λq=>e (Sum.inl.inj q)
  rw[kj h];exact(w6.mpr e).symm
def a1x(a b:Str):decide ((Sum.inr a:Key)=Sum.inr b)=decide (a=b):=by
 by_cases e:a=b
 .subst e;simp
 .have h:¬(Sum.inr a:Key)=Sum.inr b:=λq=>e (Sum.inr.inj q)
  rw[kj h,kj e]
def a1y(a:Int)(b:Str):decide ((Sum.inl a:Key)=Sum.inr b)=false:=kj (λq=>nomatch q)
def a1z(a:Str)(b:Int):decide ((Sum.inr a:Key)=Sum.inl b)=false:=kj (λq=>nomatch q)
def qg(prog:Program)(w:World):PySem.KeyKind prog w Key where
 is:=Yb
 hash:=bfk w
 inj:=λv a b J T=>by
  rcases Ce J with⟨i,t,rfl,rfl⟩|⟨x,t,rfl,rfl⟩
  .rcases Ce T with⟨j,u,rfl,e⟩|⟨y,u,rfl,e⟩
   .injection e with e1 _;rw[e1]
   .exact nomatch e
  .rcases Ce T with⟨j,u,rfl,e⟩|⟨y,u,rfl,e⟩
   .exact nomatch e
   .injection e with e1 _;rw[e1]
 byValue:=λk v h=>by rcases Ce h with⟨i,t,rfl,rfl⟩|⟨x,t,rfl,rfl⟩<;>rfl
 pyHash:=λY h=>by
  rcases Ce Y with⟨i,t,rfl,rfl⟩|⟨x,t,rfl,rfl⟩
  .exact wpAny_pyHash_int h
  .exact wpAny_pyHash_str h
 eqBool:=λG Y h=>by
  rcases Ce G with⟨i,t,rfl,rfl⟩|⟨x,t,rfl,rfl⟩
  .rcases Ce Y with⟨j,u,rfl,rfl⟩|⟨y,u,rfl,rfl⟩
   .rw[a1w]at h;exact wpAny_eqBool_int h
   .rw[a1y]at h;exact SeqAt.EqAt.int_str i t y u _ _ _ _ h
  .rcases Ce Y with⟨j,u,rfl,rfl⟩|⟨y,u,rfl,rfl⟩
   .rw[a1z]at h;exact SeqAt.EqAt.str_int x t j u _ _ _ _ h
   .rw[a1x]at h;exact wpAny_eqBool_str h
 «strs»:=λk x t v h=>by
  rcases Ce h with⟨i,u,rfl,e⟩|⟨y,u,rfl,e⟩
  .exact nomatch e
  .injection e with e1 _
   subst e1;cases v<;>rfl
def aes(prog:Program)(w:World)(i:Int)(t:Tok):(qg prog w).is (.inl i) (.int i t)=true:=ald i t
def aet(prog:Program)(w:World)(x:Str)(t:Tok):(qg prog w).is (.inr x) (.str x t)=true:=ale x t
end L2
namespace L2
open PySem PySem.Spec PyProof.Rows
set_option genInjectivity true in
inductive V where
 |non|bl (b:Bool)|int (i:Int)|str (x:Str)|byt (b:Array UInt8)|flt (b:UInt64)|ref (a:Addr)|ty (n:String)
 deriving DecidableEq
def RelV:V->Value->Prop
 |.non,u=>u=Value.none|.bl b,u=>u=Value.bool b|.int i,u=>∃t,u=Value.int i t|.str x,u=>∃t,u=Value.str x t|.byt b,u=>∃t,u=Value.bytes b t|.flt b,u=>∃t,u=Value.float b t|.ref a,u=>u=Value.ref a|.ty n,u=>u=Value.type n
abbrev Vals:List V->List Value->Prop:=Paired RelV
theorem Vals.length(r:Vals U Z):U.length=Z.length:=Paired.length r
theorem Vals.get:∀{T:List V}{Y:Zl}{i:Nat}{x:V},Vals T Y->T[i]?=some x->∃u,Y[i]?=some u/\RelV x u
 |_,_,_,_,.nil,e=>by simp at e|_,_,0,_,.cons r _,e=>by simp at e;subst e;exact⟨_,rfl,r⟩
 |_,_,i+1,x,.cons _ t,e=>by
  obtain⟨u,G,J⟩:=Vals.get (i:=i) (x:=x) t (by simpa using e);exact⟨u,by simpa using G,J⟩
theorem Vals.set{x:V}{u:Value}(r:RelV x u):∀{T:List V}{Y:Zl}(i:Nat),Vals T Y->Vals (T.set i x) (Y.set i u)
 |_,_,_,.nil=>.nil|_,_,0,.cons _ t=>.cons r t|_,_,i+1,.cons q t=>.cons q (Vals.set r i t)
theorem Vals.append:∀{Y J:List V}{T G:Zl},Vals Y T->Vals J G->Vals (Y++J) (T++G):=by intro _ _ _ _ h r;induction h with|nil=>exact r|cons q t ih=>exact .cons q ih
theorem Vals.take:∀{T:List V}{Y:Zl}(n:Nat),Vals T Y->Vals (T.take n) (Y.take n)
 |_,_,0,_=>.nil|_,_,_+1,.nil=>.nil|_,_,n+1,.cons r t=>.cons r (Vals.take n t)
theorem Vals.drop:∀{T:List V}{Y:Zl}(n:Nat),Vals T Y->Vals (T.drop n) (Y.drop n)
 |_,_,0,r=>r|_,_,_+1,.nil=>.nil|_,_,n+1,.cons _ t=>Vals.drop n t
def Ou:Option V->Option Value->Prop
 |some v,some u=>RelV v u|none,none=>True|_,_=>False
def KV{Y:Type}:List (Y×V)->List (Y×Value)->Prop:=Paired λ(p:Y×V) (q:Y×Value)=>p.1=q.1/\RelV p.2 q.2
noncomputable def kV:Key->V
 |.inl i=>.int i|.inr x=>.str x
inductive HO where
 |lst (xs:List V)
 |tup (xs:List V)
 |dK (je:List (Key×V))|dT (je:List (List Key×V))
 |set (S:Int->Bool) (n:Nat)
 |ins (C dx:Addr) (fs:List (Str×V))
 |own (x:Addr)
 |xd (fs:List (Str×V))
 |met (f x:Addr)
 |U4 (lo hi:Int)
 |Qt (o:Obj) (u:HO)
 |tbl (ps:U1)
 |ext (φ:Heap->Prop)
abbrev Hp:=Addr->Option HO
noncomputable def upd(H:Hp)(a:Addr)(o:HO):Hp:=λb=>if b=a then some o else H b
def yg:upd H a o a=some o:=by unfold upd;rw[dj rfl]
def o7(h:b≠a):upd H a o b=H b:=by unfold upd;rw[cj h]
def apd{H:Hp}(h:H a=some o)(Y:H b=some u)(d:o≠u):a≠b:=by intro e;subst e;rw[h]at Y;exact d (lg Y)
def o8{H:Hp}(h:H a=some o)(Y:H b=none):a≠b:=by intro e;subst e;rw[h]at Y;cases Y
section
variable(P:Program)(w:World)
def Yc(h:Heap)(a:Addr)(Y:U1):Prop:=∃o,h.get? a=some o/\o.cls=.type "tuple"/\∃n,o.data=.seq Y n/\o.dict=none
def Yc.is(x:Yc h a items):IsTup h a items:=let ⟨o,h1,h2,n,h3,_⟩:=x;⟨o,h1,h2,n,h3⟩
def Yc.new(h:Heap)(items:U1):Yc (h.push { cls:=.type "tuple",data:=.seq items }) h.objs.size items:=⟨_,cu _ rfl,rfl,_,rfl,rfl⟩
def Bt(H:Hp)(h:Heap)(a:Addr):HO->Prop
 |.lst Y=>Y.length<=sizeLine/\∃(G:Zl)(n:Nat),Vals Y G/\h.get? a=some { cls:=.type "list",data:=.seq G.toArray n }|.tup Y=>Y.length<=sizeLine/\∃G:List Value,Vals Y G/\Yc h a G.toArray|.dK je=>je.length<=sizeLine/\(a==sysModules)=false/\∃B,KV je B/\h.DictOf (qg P w) a B
 |.dT je=>je.length<=sizeLine/\(a==sysModules)=false/\∃Y:List (List Key×Addr×Value),
  Paired (λ(p:List Key×V) (q:List Key×Addr×Value)=>p.1=q.1/\H q.2.1=some (.tup (p.1.map kV))/\RelV p.2 q.2.2) je Y /\
  ∃o O L,h.get? a=some o/\o.ExactDict/\o.data=.dict O L/\O.toList=Y.map (entryOfKey (tupleKind (qg P w)))/\(Y.map (·.1)).Nodup
 |.set S n=>h.SetOf (intKind P w) a S n
 |.ins C dx fs=>H dx=some (.own a)/\fs.length<=1000/\dx≠a/\h.get? a=some (PySem.W.instObj C dx) /\
  ∃T,h.Ns1 dx T/\(∀f,Ou (fs.lookup f) (T f))/\PySem.Within T (fs.map (·.1))
 |.own _=>∃o,h.get? a=some o|.xd fs=>∃T,h.Ns1 a T/\∀f,Ou (fs.lookup f) (T f)|.U4 lo hi=>∃t u v,h.get? a=some { cls:=.type "range",data:=.fields #[.int lo t,.int hi u,.int 1 v] }|.Qt o u=>h.get? a=some o/\Bt H h a u|.tbl ps=>h.get? a=some { cls:=.none,data:=.fields ps }|.met f x=>h.get? a=some (PySem.W.methodObj (.ref f) (.ref x))|.ext φ=>φ h/\(∃o,h.get? a=some o)/\∀N J:Heap,φ N->(∀o,N.get? a=some o->J.get? a=some o)->φ J
def Ru(H:Hp)(h:Heap):Prop:=∀a o,H a=some o->Bt P w H h a o
end
theorem Bt.lt(x:Bt P w H h a o):a<h.objs.size:=by
 cases o with
 |lst T=>obtain⟨_,_,_,_,e⟩:=x;exact bu e
 |tup T=>obtain⟨_,_,_,p⟩:=x;exact(Yc.is p).lt
 |dK Y=>obtain⟨_,_,_,_,o,_,_,e,_⟩:=x;exact bu e
 |dT Y=>obtain⟨_,_,_,_,o,_,_,e,_⟩:=x;exact bu e
 |set S n=>obtain⟨o,_,_,_,e,_⟩:=x;exact bu e
 |ins C L fs=>obtain⟨_,_,_,e,_⟩:=x;exact bu e
 |own y=>obtain⟨_,e⟩:=x;exact bu e
 |xd fs=>obtain⟨_,⟨_,_,_,e,_⟩,_⟩:=x;exact bu e
 |U4 G O=>obtain⟨_,_,_,e⟩:=x;exact bu e
 |Qt B u=>obtain⟨e,_⟩:=x;exact bu e
 |tbl J=>exact bu (show h.get? a=some _ from x)
 |met f y=>exact bu (show h.get? a=some _ from x)
 |ext N=>obtain⟨_,⟨_,e⟩,_⟩:=x;exact bu e
theorem Paired.a2b{B J:Type}{F G:B->J->Prop}:∀{Y:List B}{T:List J},Paired F Y T->(∀a b,F a b->G a b)->Paired G Y T:=by intro _ _ h f;induction h with|nil=>exact .nil|cons r t ih=>exact .cons (f _ _ r) ih
def Bt.stay(x:Bt P w H h a o)(k:∀b u,(b=a\/H b=some (.own a))->h.get? b=some u->U.get? b=some u)(F:∀b,H b=some (.own a)->H' b=some (.own a))(Q:∀b Z,H b=some (.tup Z)->H' b=some (.tup Z)):Bt P w H' U a o:=by
 induction o with
 |lst Z=>obtain⟨z,J,n,r,e⟩:=x;exact⟨z,J,n,r,k _ _ (.inl rfl) e⟩
 |tup Z=>obtain⟨z,J,r,Y,e,c⟩:=x;exact⟨z,J,r,Y,k _ _ (.inl rfl) e,c⟩
 |dK L=>obtain⟨z,y,E,r,Y,G,T,e,c⟩:=x;exact⟨z,y,E,r,Y,G,T,k _ _ (.inl rfl) e,c⟩
 |dT L =>
  obtain⟨z,y,Z,r,Y,G,T,e,c⟩:=x;exact⟨z,y,Z,Paired.a2b r λp q z=>⟨z.1,Q _ _ z.2.1,z.2.2⟩,Y,G,T,k _ _ (.inl rfl) e,c⟩
 |set S n=>obtain⟨Y,G,T,t,e,c⟩:=x;exact⟨Y,G,T,t,k _ _ (.inl rfl) e,c⟩
 |ins C D fs =>
  obtain⟨d,z,R,e,B,⟨O,G,T,K,c⟩,r⟩:=x;exact⟨F _ d,z,R,k _ _ (.inl rfl) e,B,⟨O,G,T,k _ _ (.inr d) K,c⟩,r⟩
 |own y=>obtain⟨Y,e⟩:=x;exact⟨Y,k _ _ (.inl rfl) e⟩
 |xd fs=>obtain⟨B,⟨O,G,T,e,c⟩,r⟩:=x;exact⟨B,⟨O,G,T,k _ _ (.inl rfl) e,c⟩,r⟩
 |U4 A M=>obtain⟨t,u,v,e⟩:=x;exact⟨t,u,v,k _ _ (.inl rfl) e⟩
 |Qt Y u V=>obtain⟨e,q⟩:=x;exact⟨k _ _ (.inl rfl) e,V q⟩
 |tbl N =>
  have e:h.get? a=some { cls:=.none,data:=.fields N }:=x;show U.get? a=some { cls:=.none,data:=.fields N };exact k a _ (.inl rfl) e
 |met f y =>
  have e:h.get? a=some (PySem.W.methodObj (.ref f) (.ref y)):=x;show U.get? a=some (PySem.W.methodObj (.ref f) (.ref y));exact k a _ (.inl rfl) e
 |ext I=>obtain⟨p,⟨o,e⟩,st⟩:=x;exact⟨st _ _ p λo q=>k _ _ (.inl rfl) q,⟨o,k _ _ (.inl rfl) e⟩,st⟩
theorem Ru.lt(x:Ru P w H h)(e:H a=some o):a<h.objs.size:=(x a o e).lt
def Ru.fresh(x:Ru P w H h)(e:h.objs.size<=a):H a=none:=by
 cases q:H a with
 |none=>rfl|some u=>exact absurd (iz (x.lt q) e) (uc _)
def Ru.kept(x:Ru P w H h)(k:∀b u,h.get? b=some u->h'.get? b=some u):Ru P w H h':=λa o e =>
 (x a o e).stay (λb u _ q=>k b u q) (λ_ q=>q) λ_ _ q=>q
def Ru.laid(x:Ru P w H h)(k:∀b u,h.get? b=some u->h'.get? b=some u)(G:h.objs.size<=a)(new:Bt P w (upd H a o) h' a o):Ru P w (upd H a o) h':=λb u e=>by
 have T:=x.fresh G
 by_cases Y:b=a
 .subst Y;rw[yg]at e;cases e;exact new
 .rw[o7 Y]at e
  exact(x b u e).stay (λc v _ q=>k c v q) (λc q=>by rw[o7 (o8 q T)];exact q) λc J q=>by rw[o7 (o8 q T)];exact q
def Rd(H:Hp)(a:Addr)(u:HO):Prop:=H a=some u\/∃o,H a=some (.Qt o u)
def Rd.ok(r:Rd H a u)(x:Ru P w H h):Bt P w H h a u:=by
 rcases r with r|⟨o,r⟩
 .exact x a u r
 .obtain⟨_,q⟩:=x a _ r
  exact q
def Mut:Option HO->Prop
 |some (.lst _)=>True|some (.dK _)=>True|some (.dT _)=>True|some (.set _ _)=>True|some (.ins _ _ _)=>True|some (.ext _)=>True|_=>False
def Ru.write(ok:Ru P w H h)(J:Mut (H x))(L:e=x\/H e=some (.own x))(k:∀b u,b≠e->h.get? b=some u->h'.get? b=some u)(N:∃u,h'.get? e=some u)(new:Bt P w (upd H x Z) h' x Z):Ru P w (upd H x Z) h':=λb u q=>by
 have T:∀c y,H c=some (.own y)->c≠x:=λc y r z=>by subst z;rw[r]at J;exact J
 have C:∀c O,H c=some (.tup O)->c≠x:=λc O r z=>by subst z;rw[r]at J;exact J
 by_cases G:b=x
 .subst G;rw[yg]at q;cases q;exact new
 .rw[o7 G]at q
  by_cases Y:b=e
  .have E:H b=some (.own x):=by
    rcases L with z|z
    .exact absurd (Y.trans z) G
    .rw[Y];exact z
   rw[q]at E;cases E;obtain⟨v,R⟩:=N;exact⟨v,by rw[Y];exact R⟩
  .refine(ok b u q).stay (λc v B r=>k c v ?_ r) (λc r=>by rw[o7 (T c b r)];exact r) λc O r=>by rw[o7 (C c O r)];exact r
   rcases B with rfl|B
   .exact Y
   .rintro rfl
    rcases L with z|z
    .exact T c b B z
    .rw[B]at z;cases z;exact G rfl
structure Un(fs ex:X9)(H H':Hp)(h h':Heap):Prop where
 keep:∀b o,h.get? b=some o->H b=none->b∉fs->b∉ex->h'.get? b=some o
 slot:∀b o,h.get? b=some o->H b=none->b∈fs->b∉ex->∃sl,h'.get? b=some { o with slots:=sl }
 free:∀b o,h.get? b=some o->H b=none->b∉ex->H' b=none
 there:∀b o,h.get? b=some o->b∉ex->∃o',h'.get? b=some o'
 Yd:∀b xs,H b=some (.tup xs)->H' b=some (.tup xs)
 ab8:∀b o u,H b=some (.Qt o u)->H' b=some (.Qt o u)
 aeu:∀b ps,H b=some (.tbl ps)->∃more,H' b=some (.tbl (ps++more))
def Un.any(u:Un fs ex H H1 h h1)(q:h.get? b=some Z)(n:H b=none)(T:b∉ex):∃U,h1.get? b=some { Z with slots:=U }:=by
 by_cases Y:b∈fs
 .exact u.slot b Z q n Y T
 .exact⟨Z.slots,u.keep b Z q n Y T⟩
def Un.kept(k:∀b u,h.get? b=some u->h'.get? b=some u):Un fs ex H H h h':=
 ⟨λb Y q _ _ _=>k b Y q,λb Y q _ _ _=>⟨Y.slots,k b Y q⟩,λ_ _ _ n _=>n,λb Y q _=>⟨Y,k b Y q⟩,λ_ _ q=>q,λ_ _ _ q=>q,λ_ T q=>⟨#[],by rw[q];simp⟩⟩
def Un.refl:Un fs ex H H h h:=Un.kept λ_ _ q=>q
theorem Un.laid(k:∀b u,h.get? b=some u->h'.get? b=some u)(G:h.objs.size<=a)(Y:H a=none):Un fs ex H (upd H a o) h h' where
 keep:=λb u q _ _ _=>k b u q
 slot:=λb u q _ _ _=>⟨u.slots,k b u q⟩
 free:=λb u q n _=>by rw[o7 (gh (iz (bu q) G))];exact n
 there:=λb u q _=>⟨u,k b u q⟩
 Yd:=λb T q=>by rw[o7 (o8 q Y)];exact q
 ab8:=λb u T q=>by rw[o7 (o8 q Y)];exact q
 aeu:=λb J q=>⟨#[],by rw[o7 (o8 q Y),q];simp⟩
def Un.write(T:Mut (H x))(C:e=x\/H e=some (.own x))(k:∀b u,b≠e->h.get? b=some u->h'.get? b=some u)(J:∃u,h'.get? e=some u):Un fs ex H (upd H x o) h h':=by
 have O:∀b,H b=none->b≠x:=λb n z=>by subst z;rw[n]at T;exact T
 have B:∀b,H b=none->b≠e:=λb n z=>by
  subst z;rcases C with r|r
  .exact O b n r
  .rw[n]at r;cases r
 have G:∀b u,H b=some u->¬Mut (some u)->b≠x:=λb u q N z=>by subst z;rw[q]at T;exact N T
 refine⟨λb u q n _ _=>k b u (B b n) q,λb u q n _ _=>⟨u.slots,k b u (B b n) q⟩,λb u q n _=>by rw[o7 (O b n)];exact n,λb u q _=>?_,
  λb L q=>by rw[o7 (G b _ q λz=>z)];exact q,λb u L q=>by rw[o7 (G b _ q λz=>z)];exact q,λb E q=>⟨#[],by rw[o7 (G b _ q λz=>z),q];simp⟩⟩
 by_cases Y:b=e
 .subst Y;exact J
 .exact⟨u,k b u Y q⟩
noncomputable def trk(h:Heap)(H:Hp):List Addr:=(List.range h.objs.size).filter λa=>(H a).isSome
def ab9(h:Heap)(H:Hp):Heap:=PySem.W.hideAll h (trk h H)
def alf(h:Heap)(H:Hp):(ab9 h H).objs.size=h.objs.size:=PySem.W.hideAll_size _ _
def ape(e:h.get? b=some o)(n:H b=none):(ab9 h H).get? b=some o:=
 PySem.W.hideAll_get _ e λY=>by have q:(H b).isSome=true:=(jg.mp Y).2;rw[n]at q;simp at q
def avy(e:(ab9 h H).get? b=some o):h.get? b=some o/\H b=none:=by
 have Y:h.get? b=some o:=PySem.W.of_hideAll (trk h H) e;refine⟨Y,?_⟩;cases q:H b with
 |none=>rfl
 |some x =>
  have T:b∈trk h H:=jg.mpr ⟨jk.mpr (bu Y),by simp[q]⟩;have z:(ab9 h H).get? b=none:=PySem.W.hideAll_none (trk h H) T;rw[z]at e;cases e
end L2
namespace L2
open PySem PySem.Spec PyProof.Rows
structure Mod(K:Fg)(mg:Zs)(base:Heap):Prop where
 kin:K.In base
 glob:base.Ns mainGlobals mg
 blt:∃mb,base.Ns builtinsNs mb/\∀x:Str,x≠"__name__"-> mb x=bootBuiltins x
 nolimit:base.NoLimit
structure Cx where
 prog:Program
 w:World
 K:Fg
 mg:Str->Option Value
 base:Heap
 A:Around
 N:List Str
 s₀:Shared
 H₀:Hp
 env:Env
 outer:List Env
 stack:List Env
 ex:List Addr
 fn:Str->Bool
 calm:Bool
 pn:List (Addr×Obj)
 xe:Value->Shared->Prop
noncomputable def frs(l:List Env):List Addr:=l.filterMap (·.frame)
abbrev Cx.fs(X:Cx):List Addr:=frs X.outer
def Vis(Y:Scope)(x:Str):Prop:=Y.names.lookup x=some .local\/Y.names.lookup x=some .cell\/Y.names.lookup x=some .free
def Loc(Y:Scope)(x:Str):Prop:=Y.names.lookup x=some .local\/Y.names.lookup x=some .cell
def Look(Y:Env)(h:Heap)(m:Zs)(x:Str)(u:Value):Prop:=
 (Y.kindOf x=some .local/\m x=some u)\/((Y.kindOf x=some .cell\/Y.kindOf x=some .free)/\∃c,Y.cells.lookup x=some c/\h.IsCell c (some u))
structure Cx.Ok(X:Cx):Prop where
 mod:Mod X.K X.mg X.base
 kind:X.env.scope.kind=.function
 glob:X.env.globals=mainGlobals
 blt:X.env.builtins=builtinsNs
 above:X.s₀.heap.objs.size<=X.env.locals
 inj:∀x y c,X.env.cells.lookup x=some c->X.env.cells.lookup y=some c->x=y
 has:∀x,(X.env.kindOf x=some .cell\/X.env.kindOf x=some .free)->∃c,X.env.cells.lookup x=some c
 cab:∀x c,X.fn x=true->X.env.cells.lookup x=some c->X.s₀.heap.objs.size<=c
 hd:X.calm=true->X.A.handled=none
 frames:X.A.frames=some X.stack
 stk:X.stack=X.outer\/(X.stack=X.env::X.outer/\X.env.frame=some X.env.locals)
 exf:∀b∈X.ex,b≠X.env.locals/\∀x c,X.env.cells.lookup x=some c->c≠b
 bs:∀b o,X.base.get? b=some o->X.s₀.heap.get? b=some o/\X.H₀ b=none
 bsz:X.base.objs.size<=X.s₀.heap.objs.size
 apg:∀b o,X.base.get? b=some o->b∉X.ex
 av0:∀b∈X.ex,b∉X.fs
 Wr:X.s₀.heap.FunFrames X.base X.outer
 frf:∀b∈X.fs,X.H₀ b=none
structure Inv(X:Cx)(pins:Zp)(σ:List (Option V))(H:Hp)(s:Shared):Prop where
 ok:X.Ok
 os:s.os=X.s₀.os
 bare:AllBare s.gens
 base:Un X.fs X.ex X.H₀ H X.s₀.heap s.heap
 loc:∃m,s.heap.Ns X.env.locals m/\∀(i:Nat)(x:Str)(v:V),X.N[i]?=some x->σ[i]?=some (some v)->Vis X.env.scope x->∃u,RelV v u/\Look X.env s.heap m x u
 cell:∀x c,X.env.cells.lookup x=some c->∃v,s.heap.IsCell c v
 free:H X.env.locals=none
 Qc:∀x c,X.env.cells.lookup x=some c->H c=none
 pin:∀p∈X.pn++pins,s.heap.get? p.1=some p.2/\H p.1=none/\p.1≠X.env.locals/\p.1∉X.fs/\∀v,p.2.data≠.cell v
 Bq:Ru X.prog X.w H s.heap
 len:σ.length=X.N.length
def Cx.Ok.bfm{X:Cx}(ok:X.Ok)(e:X.base.get? b=some o):b∉X.fs:=λY=>by have:=(ok.Wr.mem Y).1;rw[e]at this;cases this
theorem Inv.bs(I:Inv X pins σ H s):∀b o,X.base.get? b=some o->s.heap.get? b=some o/\H b=none:=λb o e =>
 ⟨I.base.keep b o (I.ok.bs b o e).1 (I.ok.bs b o e).2 (I.ok.bfm e) (I.ok.apg b o e),I.base.free b o (I.ok.bs b o e).1 (I.ok.bs b o e).2 (I.ok.apg b o e)⟩
def Inv.bk(I:Inv X pins σ H s):∀b o,X.base.get? b=some o->s.heap.get? b=some o:=λb o e=>(I.bs b o e).1
theorem Inv.mod(I:Inv X pins σ H s):Mod X.K X.mg X.base:=I.ok.mod
def Inv.Ve(I:Inv X pins σ H s):X.K.In s.heap:=I.ok.mod.kin.keeps I.bk
theorem Inv.lt(I:Inv X pins σ H s):X.env.locals<s.heap.objs.size:=let ⟨_,hn,_⟩:=I.loc;hn.lt
def Inv.sz(I:Inv X pins σ H s):X.s₀.heap.objs.size<=s.heap.objs.size:=gf I.ok.above (yq I.lt)
def Inv.a2f(I:Inv X pins σ H s)(h:s.heap.objs.size<=a):a∉X.fs:=λY=>by obtain⟨_,o,T,_⟩:=I.ok.Wr.mem Y;exact absurd (iz (bu T) (gf I.sz h)) (uc _)
def Inv.cne(I:Inv X pins σ H s):∀x c,X.env.cells.lookup x=some c->c≠X.env.locals:=λx c e z=>by obtain⟨v,o,G,J⟩:=I.cell x c e;obtain⟨m,⟨C,O,B,T,Y,_⟩,_⟩:=I.loc;rw[z,T]at G;cases G;rw[Y]at J;cases J
theorem Inv.Wr(I:Inv X pins σ H s):s.heap.FunFrames X.base X.outer:=by
 have all:∀(l:List Env),(∀b∈frs l,b∈X.fs)->X.s₀.heap.FunFrames X.base l->s.heap.FunFrames X.base l:=by
  intro l
  induction l with
  |nil=>intro _ _;trivial
  |cons P r B =>
   intro J E;obtain⟨S,⟨L,o,Y,O,C,R⟩,N⟩:=E;have G:L∈X.fs:=J L (by unfold frs;rw[List.filterMap_cons,Y];exact fc);obtain⟨Q,e⟩:=I.base.slot L o C (I.ok.frf L G) G λz=>I.ok.av0 L z G
   exact⟨S,⟨L,_,Y,O,e,R⟩,B (λb T=>J b (by unfold frs;rw[List.filterMap_cons,Y];exact bw _ T)) N⟩
 exact all X.outer (λ_ T=>T) I.ok.Wr
theorem Inv.stack(I:Inv X pins σ H s):s.heap.FunFrames X.base X.stack:=by
 rcases I.ok.stk with e|⟨e,hf⟩
 .rw[e];exact I.Wr
 .rw[e]
  obtain⟨m,Y,_⟩:=I.loc;refine .cons (by rw[I.ok.kind];decide) hf Y ?_ I.Wr;exact Heap.get?_none_of_le (gf I.ok.bsz I.ok.above)
def Inv.aca(I:Inv X pins σ H s):∀b∈frs X.stack,b∈X.env.locals::X.fs:=λb Y=>by
 rcases I.ok.stk with e|⟨e,hf⟩
 .rw[e]at Y;exact bw _ Y
 .rw[e]at Y
  unfold frs at Y;rw[List.filterMap_cons,hf]at Y;exact Y
def Inv.ai4(I:Inv X pins σ H s):∀b∈frs X.stack,H b=none:=λb Y=>by
 rcases dh.mp (I.aca b Y)with e|Y
 .rw[e];exact I.free
 .obtain⟨_,o,T,_⟩:=I.ok.Wr.mem Y
  exact I.base.free b o T (I.ok.frf b Y) λz=>I.ok.av0 b z Y
def Inv.step{ch:X9}(I:Inv X pins σ H s)(G:∀b∈ch,(b∈X.ex\/X.s₀.heap.objs.size<=b)/\b≠X.env.locals/\(∀x c,X.env.cells.lookup x=some c->c≠b)/\∀p∈X.pn++pins,p.1≠b)(keep:∀b o,b≠X.env.locals->b∉X.fs->b∉ch->s.heap.get? b=some o->H b=none->U.get? b=some o)(C:∀b o,b≠X.env.locals->b∈X.fs->b∉ch->s.heap.get? b=some o->H b=none->∃sl,U.get? b=some { o with slots:=sl })(free:∀b o,b∉ch->s.heap.get? b=some o->H b=none->H' b=none)(L:∀b o,b∉ch->s.heap.get? b=some o->∃o',U.get? b=some o')(y:∀b Z,H b=some (.tup Z)->H' b=some (.tup Z))(W:∀b o u,H b=some (.Qt o u)->H' b=some (.Qt o u))(Q:∀b ps,H b=some (.tbl ps)->∃qq,H' b=some (.tbl (ps++qq)))(g:∀m,s.heap.Ns X.env.locals m->U.Ns X.env.locals m)(Bq:Ru X.prog X.w H' U)(j:AllBare g') :
 Inv X pins σ H' { s with heap:=U,gens:=g',drawn:=d',toks:=t' }:=by
 have R:∀b o,X.s₀.heap.get? b=some o->b≠X.env.locals:=λb o e=>gh (iz (bu e) I.ok.above)
 have B:∀b o,X.s₀.heap.get? b=some o->b∉X.ex->b∉ch:=λb o e Y N=>by
  rcases(G b N).1 with z|z
  .exact Y z
  .exact absurd (iz (bu e) z) (uc _)
 have T:∀x c,X.env.cells.lookup x=some c->∀v,s.heap.IsCell c v->U.IsCell c v:=λx c e v ⟨o,E,S⟩=>by
  have J:c∉ch:=λz=>(G c z).2.2.1 x c e rfl
  by_cases F:c∈X.fs
  .obtain⟨sl,q⟩:=C c o (I.cne x c e) F J E (I.Qc x c e)
   exact⟨_,q,S⟩
  .exact⟨o,keep c o (I.cne x c e) F J E (I.Qc x c e),S⟩
 refine⟨I.ok,I.os,j,⟨λb o e n N Y=>?_,λb o e n N Y=>?_,λb o e n Y=>?_,λb o e Y=>?_,λb Z e=>y b Z (I.base.Yd b Z e),λb o Z e=>W b o Z (I.base.ab8 b o Z e),λb ps e=>?_⟩,?_,λx c e=>?_,?_,λx c e=>?_,λp A=>?_,Bq,I.len⟩
 .exact keep b o (R b o e) N (B b o e Y) (I.base.keep b o e n N Y) (I.base.free b o e n Y)
 .obtain⟨sl,O⟩:=I.base.slot b o e n N Y
  obtain⟨V,P⟩:=C b _ (R b o e) N (B b o e Y) O (I.base.free b o e n Y);exact⟨V,P⟩
 .obtain⟨o',O⟩:=I.base.there b o e Y
  exact free b o' (B b o e Y) O (I.base.free b o e n Y)
 .obtain⟨o',O⟩:=I.base.there b o e Y
  exact L b o' (B b o e Y) O
 .obtain⟨t,O⟩:=I.base.aeu b ps e
  obtain⟨f,P⟩:=Q b _ O;exact⟨t++f,by rw[P,Array.append_assoc]⟩
 .obtain⟨m,D,a⟩:=I.loc
  refine⟨m,g m D,λi x v O P e3=>?_⟩;obtain⟨u,r,l⟩:=a i x v O P e3;refine⟨u,r,?_⟩;rcases l with l|⟨k,c,e,z⟩
  .exact .inl l
  .exact .inr ⟨k,c,e,T x c e _ z⟩
 .obtain⟨v,z⟩:=I.cell x c e
  exact⟨v,T x c e v z⟩
 .obtain⟨m,⟨o,_,_,E,_⟩,_⟩:=I.loc
  exact free _ o (λz=>(G _ z).2.1 rfl) E I.free
 .obtain⟨v,o,E,S⟩:=I.cell x c e
  exact free c o (λz=>(G c z).2.2.1 x c e rfl) E (I.Qc x c e)
 .obtain⟨e,n,K,M,d⟩:=I.pin p A
  have J:p.1∉ch:=λz=>(G p.1 z).2.2.2 p A rfl
  exact⟨keep p.1 p.2 K M J e n,free p.1 p.2 J e n,K,M,d⟩
def Inv.un(I:Inv X pins σ H s)(u:Un X.fs [] H Z s.heap h')(L:Ru X.prog X.w Z h'):Inv X pins σ Z { s with heap:=h',toks:=t' }:=by
 obtain⟨m,⟨o,S,E,B,r⟩,_⟩:=id I.loc;obtain⟨P,N⟩:=u.any B I.free (by simp);exact I.step (g':=s.gens) (d':=s.drawn) (ch:=[]) (λ_ z=>nomatch z) (λb o _ T _ e n=>u.keep b o e n T (by simp)) (λb o _ T _ e n=>u.slot b o e n T (by simp)) (λb o _ e n=>u.free b o e n (by simp)) (λb o _ e=>u.there b o e (by simp)) u.Yd u.ab8 u.aeu (λR C=>by
  obtain⟨Q,G,J,Y,O⟩:=C;rw[B]at Y;cases Y;exact⟨_,G,J,N,O⟩) L I.bare
def Inv.call(I:Inv X pins σ H s)(u:Un (frs X.stack) ch H Z s.heap h')(P:Ru X.prog X.w Z h')(R:AllBare g')(T:∀b∈ch,(b∈X.ex\/X.s₀.heap.objs.size<=b)/\b≠X.env.locals/\(∀x c,X.env.cells.lookup x=some c->c≠b)/\∀p∈X.pn++pins,p.1≠b) :
 Inv X pins σ Z { s with heap:=h',gens:=g',drawn:=d',toks:=t' }:=by
 obtain⟨m,⟨o,W,S,C,r⟩,_⟩:=id I.loc;obtain⟨Q,B⟩:=u.any C I.free λz=>(T _ z).2.1 rfl
 exact I.step (ch:=ch) T (λb o B L Y e n=>u.keep b o e n (λz=>(dh.mp (I.aca b z)).elim B L) Y) (λb o _ _ Y e n=>u.any e n Y) (λb o Y e n=>u.free b o e n Y) (λb o Y e=>u.there b o e Y) u.Yd u.ab8 u.aeu (λV E=>by
  obtain⟨F,J,O,G,N⟩:=E;rw[C]at G;cases G;exact⟨_,J,O,B,N⟩) P R
def Inv.turned(I:Inv X pins σ H s)(k:∀b o,b≠it->s.heap.get? b=some o->Z.get? b=some o)(C:H it=none)(G:it≠X.env.locals)(R:it∈X.ex\/X.s₀.heap.objs.size<=it)(N:∀x c,X.env.cells.lookup x=some c->c≠it)(P:∀p∈X.pn++pins,p.1≠it):Inv X pins σ H { s with heap:=Z,toks:=t' }:=by
 have T:∀b u,H b=some u->b≠it:=λb u e z=>by rw[z,C]at e;cases e
 refine I.step (g':=s.gens) (d':=s.drawn) (ch:=[it]) (λb B=>?_) (λb o _ _ Y e _=>k b o (λz=>Y (by simp[z])) e) (λb o _ _ Y e _=>⟨o.slots,k b o (λz=>Y (by simp[z])) e⟩) (λ_ _ _ _ n=>n)
  (λb o Y e=>⟨o,k b o (λz=>Y (by simp[z])) e⟩) (λ_ _ e=>e) (λ_ _ _ e=>e) (λb S e=>⟨#[],by rw[e];simp⟩) (λm O=>?_) (λb u e=>?_) I.bare
 .have e:b=it:=by simpa using B
  subst e;exact⟨R,G,N,P⟩
 .obtain⟨o,E,J,L,r⟩:=O
  exact⟨o,E,J,k _ o (km G) L,r⟩
 .refine(I.Bq b u e).stay (λc v Y q=>k c v ?_ q) (λ_ q=>q) λ_ _ q=>q
  rcases Y with z|z
  .rw[z];exact T b u e
  .exact T c _ z
def Inv.tok(I:Inv X pins σ H s)(t:Nat):Inv X pins σ H { s with toks:=t }:=I.un (h':=s.heap) (t':=t) Un.refl I.Bq
theorem Inv.kept(I:Inv X pins σ H s)(k:∀b u,s.heap.get? b=some u->Z.get? b=some u):Inv X pins σ H { s with heap:=Z,toks:=t' }:=I.un (Un.kept k) (I.Bq.kept k)
theorem Inv.laid(I:Inv X pins σ H s)(k:∀b u,s.heap.get? b=some u->h'.get? b=some u)(Y:s.heap.objs.size<=a)(new:Bt X.prog X.w (upd H a o) h' a o) :
 Inv X pins σ (upd H a o) { s with heap:=h',toks:=t' }:=I.un (Un.laid k Y (I.Bq.fresh Y)) (I.Bq.laid k Y new)
theorem Inv.write(I:Inv X pins σ H s)(G:Mut (H x))(T:e=x\/H e=some (.own x))(k:∀b u,b≠e->s.heap.get? b=some u->Z.get? b=some u)(Y:∃u,Z.get? e=some u)(new:Bt X.prog X.w (upd H x o) Z x o):Inv X pins σ (upd H x o) { s with heap:=Z,toks:=t' }:=I.un (Un.write G T k Y) (I.Bq.write G T k Y new)
def Inv.weak(I:Inv X pins σ H s)(Y:σ'.length=σ.length)(w:∀(i:Nat) v,σ'[i]?=some (some v)->σ[i]?=some (some v)):Inv X pins σ' H s:=
 ⟨I.ok,I.os,I.bare,I.base,let ⟨m,hn,hl'⟩:=I.loc;⟨m,hn,λi x v T J G=>hl' i x v T (w i v J) G⟩,I.cell,I.free,I.Qc,I.pin,I.Bq,Y.trans I.len⟩
def Inv.Uc(I:Inv X pins σ H s)(h:∀p∈ai5,s.heap.get? p.1=some p.2/\H p.1=none/\p.1≠X.env.locals/\p.1∉X.fs/\∀v,p.2.data≠.cell v):Inv X ai5 σ H s:=
 ⟨I.ok,I.os,I.bare,I.base,I.loc,I.cell,I.free,I.Qc,λp Y=>(dw.mp Y).elim (λz=>I.pin p (qi _ z)) (h p),I.Bq,I.len⟩
def G9{N:Yf}(T:N.Nodup){i:Nat}(a:N[i]?=some x)(b:N[j]?=some x):i=j:=by obtain⟨B,Y⟩:=ao.mp a;obtain⟨J,G⟩:=ao.mp b;exact(List.getElem_inj T).mp (Y.trans G.symm)
def alg(I:Inv X pins σ H s)(hN:X.N.Nodup)(S:X.N[i]?=some x)(B:Loc X.env.scope x)(r:RelV v u)(h:∀s',Inv X pins (σ.set i (some v)) H s'->(∃a,Heap.SameBut a s.heap s'.heap/\(a=X.env.locals\/X.env.cells.lookup x=some a))->Q () s')(hf:X.fn x=true\/X.env.scope.names.lookup x=some .local:=by first|exact .inl rfl|exact .inr rfl|assumption):wpAny M A (storeName X.env x u) Q E s:=by
 obtain⟨m,hn,hl⟩:=id I.loc;have qk:(X.env.scope.kind==.class||(X.env.scope.kind==.module&&X.env.locals != X.env.globals))=false:=by rw[I.ok.kind];rfl
 have C:i < σ.length:=by rw[I.len];exact(ao.mp S).1
 have cne:=I.cne;have T:∀{a:Addr}{h':Heap},(∃o,s.heap.get? a=some o/\H a=none)->Heap.SameBut a s.heap h'->Ru X.prog X.w H h':=fun{a h'} ha Y b ob e=>by
  obtain⟨_,_,Wb⟩:=ha;refine(I.Bq b ob e).stay (λc D J q=>(Y.2 c ?_).trans q) (λ_ q=>q) λ_ _ q=>q
  rintro rfl;rcases J with rfl|J
  .rw[Wb]at e;cases e
  .rw[Wb]at J;cases J
 rcases B with hk|hk
 .refine wpAny_storeName_local hk hn (λh' Q0 Y=>?_) qk
  obtain⟨oL,_,_,qq,_⟩:=id hn;refine h _ ⟨I.ok,I.os,I.bare,⟨λb o e n L B=>?_,λb o e n L B=>?_,I.base.free,λb o e B=>?_,I.base.Yd,I.base.ab8,I.base.aeu⟩,⟨_,Q0,λj y v' G O e3=>?_⟩,λy c e=>?_,I.free,I.Qc,λp hp=>?_,T ⟨oL,qq,I.free⟩ Y,by simpa using I.len⟩ ⟨_,Y,.inl rfl⟩
  .exact(Y.2 b (gh (iz (bu e) I.ok.above))).trans (I.base.keep b o e n L B)
  .obtain⟨sl,G⟩:=I.base.slot b o e n L B
   exact⟨sl,(Y.2 b (gh (iz (bu e) I.ok.above))).trans G⟩
  .obtain⟨o',G⟩:=I.base.there b o e B
   exact⟨o',(Y.2 b (gh (iz (bu e) I.ok.above))).trans G⟩
  .by_cases P:j=i
   .subst P
    rw[S]at G;cases G;rw[Ax C]at O;cases O;exact⟨u,r,.inl ⟨hk,by simp⟩⟩
   .rw[vy (km P)]at O
    obtain⟨u',U,q⟩:=hl j y v' G O e3;refine⟨u',U,?_⟩;rcases q with⟨k,e⟩|⟨k,c,e,z⟩
    .refine .inl ⟨k,?_⟩
     have:y≠x:=λe=>P (G9 hN G (e▸S))
     simp[this,e]
    .exact .inr ⟨k,c,e,z.sameBut Y (cne y c e)⟩
  .obtain⟨D,z⟩:=I.cell y c e
   exact⟨D,z.sameBut Y (cne y c e)⟩
  .obtain⟨e,n,Z,nf,d⟩:=I.pin p hp
   exact⟨(Y.2 p.1 Z).trans e,n,Z,nf,d⟩
 .have R:X.fn x=true:=by
   rcases hf with z|z
   .exact z
   .rw[z]at hk;cases hk
  obtain⟨c,J⟩:=I.ok.has x (.inl hk);obtain⟨D,z⟩:=I.cell x c J;refine wpAny_storeName_cell I.ok.kind hk J z (λh' F Y=>?_);obtain⟨oc,V,qv⟩:=id z;refine h { s with heap:=h' } ⟨I.ok,I.os,I.bare,⟨λb o e n L B=>?_,λb o e n L B=>?_,I.base.free,λb o e B=>?_,I.base.Yd,I.base.ab8,I.base.aeu⟩,⟨m,hn.sameBut Y (km (cne x c J)),λj y v' G O e3=>?_⟩,λy K e=>?_,I.free,I.Qc,λp hp=>?_,T ⟨oc,V,I.Qc x c J⟩ Y,by simpa using I.len⟩ ⟨c,Y,.inr J⟩
  .exact(Y.2 b (gh (iz (bu e) (I.ok.cab x c R J)))).trans (I.base.keep b o e n L B)
  .obtain⟨sl,G⟩:=I.base.slot b o e n L B
   exact⟨sl,(Y.2 b (gh (iz (bu e) (I.ok.cab x c R J)))).trans G⟩
  .obtain⟨o',G⟩:=I.base.there b o e B
   exact⟨o',(Y.2 b (gh (iz (bu e) (I.ok.cab x c R J)))).trans G⟩
  .by_cases P:j=i
   .subst P
    rw[S]at G;cases G;rw[Ax C]at O;cases O;exact⟨u,r,.inr ⟨.inl hk,c,J,F⟩⟩
   .rw[vy (km P)]at O
    obtain⟨u',U,q⟩:=hl j y v' G O e3;refine⟨u',U,?_⟩;rcases q with q|⟨k,K,e,z'⟩
    .exact .inl q
    .refine .inr ⟨k,K,e,z'.sameBut Y ?_⟩
     rintro rfl;exact P (G9 hN G (I.ok.inj _ _ _ e J▸S))
  .by_cases W:K=c
   .subst W;exact⟨_,F⟩
   .obtain⟨w2,z2⟩:=I.cell y K e
    exact⟨w2,z2.sameBut Y W⟩
  .obtain⟨e,n,Z,nf,d⟩:=I.pin p hp
   refine⟨(Y.2 p.1 ?_).trans e,n,Z,nf,d⟩;intro q;rw[q,V]at e;have q':oc=p.2:=lg e;exact d D (by rw[<-q'];exact qv)
def api(I:Inv X pins σ H s)(G:X.N.Nodup)(J:X.N[i]?=some x)(T:Loc X.env.scope x)(r:RelV v u)(h:∀Z,Inv X pins (σ.set i (some v)) H Z->Q () Z)(Y:X.fn x=true\/X.env.scope.names.lookup x=some .local:=by first|exact .inl rfl|exact .inr rfl|assumption):wpAny M A (storeName X.env x u) Q E s:=
 alg I G J T r (λZ B _=>h Z B) Y
def Inv.call'(I:Inv X pins σ H s)(O:s'.os=s.os)(u:Un (frs X.stack) ch H Z s.heap s'.heap)(B:Ru X.prog X.w Z s'.heap)(C:AllBare s'.gens)(Y:∀b∈ch,(b∈X.ex\/X.s₀.heap.objs.size<=b)/\b≠X.env.locals/\(∀x c,X.env.cells.lookup x=some c->c≠b)/\∀p∈X.pn++pins,p.1≠b):Inv X pins σ Z s':=by obtain⟨L,T,J,G,N⟩:=s';have e:N=s.os:=O;subst e;exact I.call (g':=T) (t':=G) (d':=J) u B C Y
abbrev XK:=Value->Option Addr->Hp->Prop
abbrev St:=List (Option V)
abbrev VK:=V->Hp->Prop
abbrev TE:=St->Hp->VK->Prop
abbrev TT:=St->Hp->(Bool->Hp->Prop)->Prop
abbrev TA:=St->Hp->(List V->Hp->Prop)->Prop
structure Ends where
 nx:St->Hp->Prop
 rt:VK
 bk:St->Hp->Prop:=λ_ _=>False
 ct:St->Hp->Prop:=λ_ _=>False
abbrev TS:=Ends->St->Hp->Prop
def EP(X:Cx)(Y:Zp)(G:St)(Q:VK)(u:Value)(J:Shared):Prop:=∃v T,Inv X Y G T J/\RelV v u/\Q v T
def TP(X:Cx)(Y:Zp)(G:St)(Q:Bool->Hp->Prop)(b:Bool)(J:Shared):Prop:=∃T,Inv X Y G T J/\Q b T
def AP(X:Cx)(Y:Zp)(O:St)(Q:List V->Hp->Prop)(J:Zl)(B:Shared):Prop:=∃T G,Inv X Y O G B/\Vals T J/\Q T G
def SP(X:Cx)(T:Zp)(D:Ends)(f:Flow)(J:Shared):Prop:=
 match f with
 |.next=>∃Y G,Inv X T Y G J/\D.nx Y G|.brk=>∃Y G,Inv X T Y G J/\D.bk Y G|.cont=>∃Y G,Inv X T Y G J/\D.ct Y G|.ret u=>∃v Y G,Inv X T Y G J/\RelV v u/\D.rt v G
def PE(X:Cx)(e:Expr)(t:TE):Prop:=
 ∀(Y:Zp)(s:Shared)(T:St)(H:Hp)(Q:VK),Inv X Y T H s->t T H Q->wpAny (model X.prog X.w) X.A (eval e X.env) (EP X Y T Q) X.xe s
def PT(X:Cx)(e:Expr)(t:TT):Prop:=
 ∀(Y:Zp)(s:Shared)(T:St)(H:Hp)(Q:Bool->Hp->Prop),Inv X Y T H s->t T H Q->wpAny (model X.prog X.w) X.A (isTrue e X.env (eval e X.env)) (TP X Y T Q) X.xe s
def PW(X:Cx)(e:Expr)(t:TT):Prop:=
 ∀(T:Sem Value)(Y:Zp)(s:Shared)(G:St)(H:Hp)(Q:Bool->Hp->Prop),Inv X Y G H s->t G H Q->wpAny (model X.prog X.w) X.A (isTrue e X.env T) (TP X Y G Q) X.xe s
def PW.pt(h:PW X e t):PT X e t:=h _
def PA(X:Cx)(G:Ya)(t:TA):Prop:=
 ∀(pos:Pos)(Y:Zp)(s:Shared)(T:St)(H:Hp)(Q:List V->Hp->Prop),Inv X Y T H s->t T H Q->wpAny (model X.prog X.w) X.A (spliced (backTo pos (starEach G X.env))) (AP X Y T Q) X.xe s
def PS(X:Cx)(st:Stmt)(t:TS):Prop:=
 ∀(Y:Zp)(s:Shared)(T:St)(H:Hp)(D:Ends),Inv X Y T H s->t D T H->wpAny (model X.prog X.w) X.A (exec st X.env) (SP X Y D) X.xe s
def Ud(X:Cx)(st:List Stmt)(t:TS):Prop:=
 ∀(Y:Zp)(s:Shared)(T:St)(H:Hp)(D:Ends),Inv X Y T H s->t D T H->wpAny (model X.prog X.w) X.A (execs st X.env) (SP X Y D) X.xe s
def Lb(h:wpAny M A t Q E s)(Y:∀a s,Q a s->Z a s):wpAny M A t Z E s:=j9 h Y λ_ _ x=>x
def Qu(h:wpAny M A t (EP X pins σ Q) E s)(k:∀a s x H,Inv X pins σ H s->RelV x a->Q x H->Z a s):wpAny M A t Z E s:=Lb h λ_ _ z=>by obtain⟨_,_,i,r,q⟩:=z;exact k _ _ _ _ i r q
def thA(h:wpAny M A t (AP X pins σ Q) E s)(k:∀a s x H,Inv X pins σ H s->Vals x a->Q x H->Z a s):wpAny M A t Z E s:=Lb h λ_ _ z=>by obtain⟨_,_,i,r,q⟩:=z;exact k _ _ _ _ i r q
def thT(h:wpAny M A t (TP X pins σ Q) E s)(k:∀a s H,Inv X pins σ H s->Q a H->Z a s):wpAny M A t Z E s:=Lb h λ_ _ z=>by obtain⟨_,i,q⟩:=z;exact k _ _ _ i q
end L2
namespace L2
open PySem PySem.Spec PyProof.Rows
def bfq(i:Nat):TE:=λY H Q=>∃v,Y[i]?=some (some v)/\Q v H
def tC(v:V):TE:=λ_ H Q=>Q v H
def a2h(E:X.N[i]?=some x)(S:Vis X.env.scope x)(B:(x==("__debug__": Str))=false:=by decide)(J:(x==("__classdict__": Str))=false:=by decide):PE X (.Name x pos) (bfq i):=by
 intro G s R H Q I h;obtain⟨v,e,h⟩:=h;obtain⟨m,L,P⟩:=I.loc;obtain⟨u,r,l⟩:=P i x v E e S;have fin:EP X G R Q u s:=⟨v,H,I,r,h⟩;rcases l with⟨Y,C⟩|⟨Y,c,O,T⟩
 .exact wpAny_Name (wpAny_loadName_local I.ok.kind Y L C fin) B
 .rcases Y with Y|Y
  .exact wpAny_Name (wpAny_loadName_cell I.ok.kind Y O T fin) B
  .exact wpAny_Name (wpAny_loadName_free I.ok.kind Y O T fin J) B
def a2i:PE X (.Constant (.int i) j pos) (tC (.int i)):=λ_ _ _ H _ I h=>wpAny_Constant_int ⟨.int i,H,I.tok _,⟨_,rfl⟩,h⟩
def a89:PE X (.Constant (.bool b) j pos) (tC (.bl b)):=λ_ _ _ H _ I h=>Constant_bool ⟨.bl b,H,I,rfl,h⟩
def a2j:PE X (.Constant .none j pos) (tC .non):=λ_ _ _ H _ I h=>Constant_none ⟨.non,H,I,rfl,h⟩
def Gl(X:Cx)(x:Str):Prop:=X.env.kindOf x=some .globalImplicit
def acb(I:Inv X pins σ H s)(Y:Gl X x)(T:X.mg x=some u)(h:Q u s)(G:(x==("__debug__": Str))=false:=by decide):wpAny (model X.prog X.w) X.A (eval (.Name x pos) X.env) Q E s:=
 Calls.Name_function_global I.ok.kind Y (Calls.loadGlobal_global (by rw[I.ok.glob];exact I.mod.glob.keeps I.bk) T h) G
def Dy(I:Inv X pins σ H s)(B:Gl X x)(G:X.mg x=none)(C:bootBuiltins x=some u)(h:Q u s)(J:x≠"__name__":= by decide)(Y:(x==("__debug__": Str))=false:=by decide):wpAny (model X.prog X.w) X.A (eval (.Name x pos) X.env) Q E s:=by obtain⟨N,O,T⟩:=I.mod.blt;exact Calls.Name_function_global I.ok.kind B (Calls.loadGlobal_builtin (by rw[I.ok.glob];exact I.mod.glob.keeps I.bk) G (by rw[I.ok.blt];exact O.keeps I.bk) ((T x J).trans C) h) Y
def av1(Y:Gl X x)(T:X.mg x=some u)(r:RelV v u)(G:(x==("__debug__": Str))=false:=by decide):PE X (.Name x pos) (tC v):=
 λ_ _ _ H _ I h=>acb I Y T ⟨v,H,I,r,h⟩ G
def PC(X:Cx)(B:CmpOp)(a b:Expr)(t:TE):Prop:=
 ∀(Y:Zp)(s:Shared)(J:St)(H:Hp)(Q:VK),Inv X Y J H s->t J H Q ->
  wpAny (model X.prog X.w) X.A (eval a X.env) (λv G=>wpAny (model X.prog X.w) X.A (eval b X.env) (λu T=>wpAny (model X.prog X.w) X.A (compareOp B v u) (EP X Y J Q) X.xe T) X.xe G) X.xe s
def aev(b:Expr)(h:op≠.In)(T:op≠.NotIn):behindInMarks op b=false:=by
 have Y:(op==CmpOp.In)=false:=by cases op<;>first|rfl|exact absurd rfl h
 have G:(op==CmpOp.NotIn)=false:=by cases op<;>first|rfl|exact absurd rfl T
 cases b<;>simp[behindInMarks,Y,G]
def tB(t:TE):TT:=λT H Q=>t T H λx Y=>∃c,x=.bl c/\Q c Y
def a2k(h:PC X op a b t)(T:behindInMarks op b=false:=by first|exact aev _ (by decide) (by decide)|rfl):PE X (.Compare a [op] [b] pos) t:=λY s G H Q I J=>wpAny_Compare1 (h Y s G H Q I J) T
def a2l(h:PC X op a b t)(T:behindInMarks op b=false:=by first|exact aev _ (by decide) (by decide)|rfl):PT X (.Compare a [op] [b] pos) (tB t):=by intro Y s O H Q I C;refine wpAny_isTrue_Compare1 (Lb (h Y s O H _ I C) λv P T=>Lb T λu L G=>Qu G λc E x B I1 J N=>?_) T;obtain⟨d,rfl,q⟩:=N;cases J;exact m8 ⟨B,I1,q⟩
def a2m(h:PE X e t)(G:∀Z,isTrue e X.env Z=(do let v<-Z;standAt e.pos;holding [v] (truthy v)):=by intro _;rfl):PT X e (tB t):=by intro Y s B H Q I O;refine isTrue_plain (Qu (h Y s B H _ I O) λv N x J I1 T C=>?_) (G _);obtain⟨d,rfl,q⟩:=C;cases T;exact m8 ⟨J,I1,q⟩
def bfr(t u:TT):TT:=λT H Q=>t T H λc Y=>if c=true then u T Y Q else Q false Y
def tOr(t u:TT):TT:=λT H Q=>t T H λc Y=>if c=true then Q true Y else u T Y Q
def bfs(t:TT):TT:=λT H Q=>t T H λc Y=>Q (!c) Y
def av2(T:PT X a tA):PW X (.BoolOp .And [a] pos) tA:=by
 intro B Y s G H Q I h;refine isTrue_and (Lb (T Y s G H Q I h) λc J e=>?_);cases c with
 |true=>exact isTrue_and_nil e|false=>exact e
def a2n(T:PT X a tA):PW X (.BoolOp .Or [a] pos) tA:=by
 intro B Y s G H Q I h;refine isTrue_or (Lb (T Y s G H Q I h) λc J e=>?_);cases c with
 |false=>exact isTrue_or_nil e|true=>exact e
def a2o{Y:Ya}(L:PT X a tA)(O:PW X (.BoolOp .And (b::Y) pos) tB'):PW X (.BoolOp .And (a::b::Y) pos) (bfr tA tB'):=by
 intro C T s J H Q I h;refine isTrue_and (thT (L T s J H _ I h) λc N G I1 B=>?_);cases c with
 |true=>exact O C T N J G Q I1 B|false=>exact⟨G,I1,B⟩
def a9a{Y:Ya}(L:PT X a tA)(O:PW X (.BoolOp .Or (b::Y) pos) tB'):PW X (.BoolOp .Or (a::b::Y) pos) (tOr tA tB'):=by
 intro C T s J H Q I h;refine isTrue_or (thT (L T s J H _ I h) λc N G I1 B=>?_);cases c with
 |true=>exact⟨G,I1,B⟩|false=>exact O C T N J G Q I1 B
def a2p(J:PT X a tA):PT X (.UnaryOp .Not a pos) (bfs tA):=by intro Y s G H Q I h;exact isTrue_not (J Y s G H (λc T=>Q (!c) T) I h)
def a9b(G J:TE):TE:=λT H Q=>G T H λx Y=>∃c,x=.bl c/\if c=true then J T Y Q else Q (.bl false) Y
def bfu(G J:TE):TE:=λT H Q=>G T H λx Y=>∃c,x=.bl c/\if c=true then Q (.bl true) Y else J T Y Q
def a9c(G:TE):TE:=λT H Q=>G T H λx Y=>∃c,x=.bl c/\Q (.bl (!c)) Y
def a2q{T:Ya}(L:PE X a Z)(O:PE X (.BoolOp .And (b::T) pos) tb):PE X (.BoolOp .And (a::b::T) pos) (a9b Z tb):=by
 intro Y s B H Q I h;refine BoolOp_and (Qu (L Y s B H _ I h) λv N x J I1 C G=>?_);obtain⟨c,rfl,G⟩:=G;cases C;refine m8 ?_;cases c with
 |true=>exact O Y N B J Q I1 G|false=>exact⟨.bl false,J,I1,rfl,G⟩
def a9d{T:Ya}(L:PE X a Z)(O:PE X (.BoolOp .Or (b::T) pos) tb):PE X (.BoolOp .Or (a::b::T) pos) (bfu Z tb):=by
 intro Y s B H Q I h;refine BoolOp_or (Qu (L Y s B H _ I h) λv N x J I1 C G=>?_);obtain⟨c,rfl,G⟩:=G;cases C;refine m8 ?_;cases c with
 |false=>exact O Y N B J Q I1 G|true=>exact⟨.bl true,J,I1,rfl,G⟩
def a2r(B:PE X a Z):PE X (.UnaryOp .Not a pos) (a9c Z):=by intro Y s O H Q I h;refine UnaryOp_ (Qu (B Y s O H _ I h) λv C x J I1 G T=>?_);obtain⟨c,rfl,T⟩:=T;cases G;exact not_of (m8 ⟨.bl (!c),J,I1,rfl,T⟩)
def tIf(t:TT)(G J:TE):TE:=λY H Q=>t Y H λc T=>if c=true then G Y T Q else J Y T Q
def apj(N:PT X c tA)(C:PE X a Z)(O:PE X b tb):PE X (.IfExp c a b pos) (tIf tA Z tb):=by
 intro Y s T H Q I h;refine wpAny_IfExp (thT (N Y s T H _ I h) λd G J I1 B=>?_);cases d with
 |true=>exact C Y G T J Q I1 B|false=>exact O Y G T J Q I1 B
end L2
namespace L2
open PySem PySem.Spec PyProof.Rows
def J2(K:Fg)(H:Hp)(a:Addr)(T:List V):Prop:=
 Rd H a (.lst T) \/
  ∃(o:Obj)(Y:U1)(n:Nat),K.lookup a=some o/\o.cls=.type "list"/\o.dict=none/\o.data=.seq Y n/\Y.size<=sizeLine/\Vals T Y.toList
def Gd(K:Fg)(H:Hp)(a:Addr)(T:List V):Prop:=
 Rd H a (.tup T) \/
  ∃(o:Obj)(Y:U1)(n:Nat),K.lookup a=some o/\o.cls=.type "tuple"/\o.data=.seq Y n/\Y.size<=sizeLine/\Vals T Y.toList
noncomputable def bfv:Value->Option V
 |.none=>some .non|.bool b=>some (.bl b)|.int i _=>some (.int i)|.str x _=>some (.str x)|.bytes b _=>some (.byt b)|.float b _=>some (.flt b)|.ref a=>some (.ref a)|.type n=>some (.ty n)|_=>none
def RelV.abs(r:RelV x u):bfv u=some x:=by
 cases x with
 |non=>cases r;rfl|bl _=>cases r;rfl|int _=>obtain⟨t,rfl⟩:=r;rfl
 |str _=>obtain⟨t,rfl⟩:=r;rfl
 |byt _=>obtain⟨t,rfl⟩:=r;rfl
 |flt _=>obtain⟨t,rfl⟩:=r;rfl
 |ref _=>cases r;rfl|ty _=>cases r;rfl
def RelV.inj(r:RelV x u)(q:RelV y u):x=y:=lg (r.abs.symm.trans q.abs)
theorem Vals.inj{T ys:List V}{Y:Zl}(h:Vals T Y)(G:Vals ys Y):T=ys:=by
 induction h generalizing ys with
 |nil=>cases G;rfl|cons r t J=>cases G with|cons B O=>rw[r.inj B,J O]
def J2.of{K:Fg}(h:H a=some (.lst xs)):J2 K H a xs:=.inl (.inl h)
def Gd.of{K:Fg}(h:H a=some (.tup xs)):Gd K H a xs:=.inl (.inl h)
def Inv.list(I:Inv X pins σ H s)(h:J2 X.K H a U):∃Z:List Value,Vals U Z/\PlainL s.heap a Z.toArray/\U.length<=sizeLine:=by
 rcases h with h|⟨o,Z,n,hk,hc,hd,hs,hz,r⟩
 .obtain⟨z,Z,n,r,e⟩:=h.ok I.Bq
  exact⟨Z,r,⟨_,n,e,rfl,rfl,rfl⟩,z⟩
 .refine⟨Z.toList,r,⟨o,n,I.Ve a o hk,hc,hd,by simpa using hs⟩,?_⟩
  have e:=r.length;simp only[u9]at e;exact a_ (f_ e) hz
def Inv.tuple(I:Inv X pins σ H s)(h:Gd X.K H a U):∃Z:List Value,Vals U Z/\IsTup s.heap a Z.toArray/\U.length<=sizeLine:=by
 rcases h with h|⟨o,Z,n,hk,hc,hs,hz,r⟩
 .obtain⟨z,Z,r,p⟩:=h.ok I.Bq
  exact⟨Z,r,p.is,z⟩
 .refine⟨Z.toList,r,⟨o,I.Ve a o hk,hc,n,by simpa using hs⟩,?_⟩
  have e:=r.length;simp only[u9]at e;exact a_ (f_ e) hz
def Inv.apk(I:Inv X pins σ H s)(h:J2 X.K H a Z)(B:J2 X.K H a ys):Z=ys:=by
 obtain⟨J,r,⟨o,n,e,_,_,d⟩,_⟩:=I.list h;obtain⟨its',G,⟨C,O,Y,_,_,T⟩,_⟩:=I.list B;rw[e]at Y;cases Y;rw[d]at T;injection T with d1 _
 have:J=its':=by simpa using qt Array.toList d1
 subst this;exact r.inj G
def Inv.Vf(I:Inv X pins σ H s)(h:Gd X.K H a Z)(B:Gd X.K H a ys):Z=ys:=by
 obtain⟨J,r,⟨o,e,_,n,d⟩,_⟩:=I.tuple h;obtain⟨its',G,⟨C,Y,_,O,T⟩,_⟩:=I.tuple B;rw[e]at Y;cases Y;rw[d]at T;injection T with d1 _
 have:J=its':=by simpa using qt Array.toList d1
 subst this;exact r.inj G
noncomputable abbrev Cx.Zx(X:Cx)(E:Y1):Cx:={ X with xe:=E }
abbrev Cx.nox(X:Cx):Cx:=X.Zx λ_ _=>False
theorem Cx.Ok.Zx{X:Cx}(ok:X.Ok)(E:Y1):(X.Zx E).Ok:=
 ⟨ok.mod,ok.kind,ok.glob,ok.blt,ok.above,ok.inj,ok.has,ok.cab,ok.hd,ok.frames,ok.stk,ok.exf,ok.bs,ok.bsz,ok.apg,ok.av0,ok.Wr,ok.frf⟩
def Cx.Ok.Qd{X:Cx}(ok:(X.Zx E).Ok):X.Ok:=
 ⟨ok.mod,ok.kind,ok.glob,ok.blt,ok.above,ok.inj,ok.has,ok.cab,ok.hd,ok.frames,ok.stk,ok.exf,ok.bs,ok.bsz,ok.apg,ok.av0,ok.Wr,ok.frf⟩
theorem Inv.Zx(I:Inv X pins σ H s)(E:Y1):Inv (X.Zx E) pins σ H s:=⟨I.ok.Zx E,I.os,I.bare,I.base,I.loc,I.cell,I.free,I.Qc,I.pin,I.Bq,I.len⟩
theorem Inv.Qd(I:Inv (X.Zx E) pins σ H s):Inv X pins σ H s:=⟨I.ok.Qd,I.os,I.bare,I.base,I.loc,I.cell,I.free,I.Qc,I.pin,I.Bq,I.len⟩
theorem SP.Qd(h:SP (X.Zx E) pins D f s'):SP X pins D f s':=by
 cases f with
 |next=>obtain⟨Y,T,I,q⟩:=h;exact⟨Y,T,I.Qd,q⟩
 |brk=>obtain⟨Y,T,I,q⟩:=h;exact⟨Y,T,I.Qd,q⟩
 |cont=>obtain⟨Y,T,I,q⟩:=h;exact⟨Y,T,I.Qd,q⟩
 |ret u=>obtain⟨v,Y,T,I,r,q⟩:=h;exact⟨v,Y,T,I.Qd,r,q⟩
theorem Ud.nox{st:List Stmt}(h:Ud X.nox st t):Ud X st t:=λY s T H D I G =>
 j9 (h Y s T H D (I.Zx _) G) (λ_ _ q=>q.Qd) λ_ _ z=>False.elim z
def a9f:TS:=λD Y H=>D.nx Y H
def bfw(t u:TS):TS:=λD Y H=>t { D with nx:=u D } Y H
def av3:Ud X [] a9f:=λ_ _ Y H _ I h=>wpAny_execs_nil ⟨Y,H,I,h⟩
def apl{st:Stmt}{Y:List Stmt}(N:PS X st t)(J:Ud X Y u):Ud X (st::Y) (bfw t u):=by
 intro T s L H D I h;refine wpAny_execs_cons (Lb (N T s L H { D with nx:=u D } I h) λf B q=>?_);cases f with
 |next =>
  obtain⟨G,C,O,q⟩:=q;exact J T B G C D O q
 |ret v=>exact q|brk=>exact q|cont=>exact q
def a2s:TS:=λD Y H=>D.bk Y H
def a9g:TS:=λD Y H=>D.ct Y H
def apm:PS X (.Break pos) a2s:=λ_ _ Y H _ I h=>wpAny_Break ⟨Y,H,I,h⟩
def aew:PS X (.Continue pos) a9g:=λ_ _ Y H _ I h=>wpAny_Continue ⟨Y,H,I,h⟩
def Inv.quiet(I:Inv X pins σ H s):interactive X.env=false:=by simp[interactive,I.ok.kind]
def a9h(G:TE):TS:=λD Y H=>G Y H λ_ T=>D.nx Y T
def av4(J:PE X e Z)(G:swapsWith e none pos.line X.env=pure false:=by rfl):PS X (.Expr e pos) (a9h Z):=by intro Y s T H D I h;exact wpAny_Expr_any (Qu (J Y s T H _ I h) λv N x B I1 C O=>⟨T,B,I1,O⟩) I.quiet G
def bfx(Y:TE):TS:=λD T H=>Y T H D.rt
def a2t(J:PE X e Z):PS X (.Return (some e) pos) (bfx Z):=by intro Y s T H D I h;exact wpAny_Return_some (Qu (J Y s T H _ I h) λv C x B I1 G O=>⟨x,T,B,I1,G,O⟩)
def bfy(c:TT)(t u:TS):TS:=λD Y H=>c Y H λb T=>if b=true then t D Y T else u D Y T
def a9i(N:PT X c Z)(C:Ud X a t)(O:Ud X b u):PS X (.If c a b pos) (bfy Z t u):=by
 intro Y s T H D I h;refine wpAny_If (thT (N Y s T H _ I h) λd G J I1 B=>?_);cases d with
 |true=>exact C Y G T J D I1 B|false=>exact O Y G T J D I1 B
abbrev TG:=V->St->Hp->(St->Hp->Prop)->Prop
abbrev TGs:=List V->St->Hp->(St->Hp->Prop)->Prop
def PG(X:Cx)(Y:Expr)(t:TG):Prop:=
 ∀(T:Zp)(s:Shared)(B:St)(H:Hp)(v:V)(u:Value)(Q:St->Hp->Prop),Inv X T B H s->RelV v u->t v B H Q ->
  wpAny (model X.prog X.w) X.A (assign Y X.env u) (λ_ O=>∃G J,Inv X T G J O/\Q G J) X.xe s
def PGs(X:Cx)(N:Ya)(t:TGs):Prop:=
 ∀(Y:Zp)(s:Shared)(O:St)(H:Hp)(J:List V)(G:Zl)(Q:St->Hp->Prop),Inv X Y O H s->Vals J G->t J O H Q ->
  wpAny (model X.prog X.w) X.A (assignInOrder ((assignEach N X.env).map (·.2)) G) (λ_ C=>∃T B,Inv X Y T B C/\Q T B) X.xe s
abbrev a2u:=V->V->V->Hp->(Hp->Prop)->Prop
def a2v(X:Cx)(t:a2u):Prop:=
 ∀(Y:Zp)(s:Shared)(J:St)(H:Hp)(o i v:V)(T B u:Value)(Q:Hp->Prop),Inv X Y J H s->RelV o T->RelV i B->RelV v u->t o i v H Q ->
  wpAny (model X.prog X.w) X.A (setItem T B u) (λ_ O=>∃G,Inv X Y J G O/\Q G) X.xe s
def ai6(i:Nat):TG:=λv Y H Q=>Q (Y.set i (some v)) H
def acd(J:X.N.Nodup)(B:X.N[i]?=some x)(G:Loc X.env.scope x)(T:X.fn x=true\/X.env.scope.names.lookup x=some .local:=by first|exact .inl rfl|exact .inr rfl|assumption):PG X (.Name x pos) (ai6 i):=by intro Y s L H v u Q I r h;exact wpAny_assign_Name (api I J B G r (λC O=>⟨_,H,O,h⟩) T)
def bfz:TGs:=λT Y H Q=>T=[]/\Q Y H
def a9k(t:TG)(u:TGs):TGs:=λJ T H Q=>∃v r,J=v::r/\t v T H λY G=>u r Y G Q
def av5:PGs X [] bfz:=by intro Y s T H J G Q I r h;obtain⟨e,h⟩:=h;subst e;cases r;exact assignInOrder_nil ⟨T,H,I,h⟩
def apn(L:PG X e t)(B:PGs X Z u)(G:(assignEach (e::Z) X.env).map (·.2)=assign e X.env::(assignEach Z X.env).map (·.2):=by rfl):PGs X (e::Z) (a9k t u):=by
 intro Y s E H S R Q I r h;obtain⟨v,V,J,h⟩:=h;subst J;cases r with
 |cons r O =>
  rw[G];refine assignInOrder_cons (Lb (L Y s E H _ _ _ I r h) λ_ C z_=>?_);obtain⟨T,N,I1,P⟩:=z_;exact B Y C T N _ _ Q I1 O P
def bf0(K:Fg)(n:Nat)(t:TGs):TG:=λv T H Q=>∃a Y,v=.ref a/\Gd K H a Y/\Y.length=n/\t Y T H Q
def a2w(S:X.calm=true)(h:PGs X Z t)(C:(assignEach Z X.env).length=n:=by rfl)(N:(assignEach Z X.env).findIdx? (·.1)=none:=by rfl):PG X (.Tuple Z k pos) (bf0 X.K n t):=by
 intro Y s G H v u Q I r T;obtain⟨a,P,B,R,L,T⟩:=T;subst B;cases r;obtain⟨F,J,E,W⟩:=I.tuple R;refine assign_Tuple_tuple (I.ok.hd S) E (by simp[C,<-L,J.length]) N λV O=>?_
 have I1:Inv X Y G H { s with heap:=V }:=I.kept (t':=s.toks) λb o e=>O b o (gh (bu e)) e
 exact h Y _ G H P _ Q I1 (by simpa using J) T
def bf1(G T:TE)(t:a2u):TG:=λv Y H Q=>G Y H λo J=>T Y J λi B=>t o i v B λO=>Q Y O
def a2x(F:PE X o to)(J:PE X i ti)(V:a2v X t)(P:∀v,assign (.Subscript o i pos) X.env v=(do
 let Z<-holding [v] (eval o X.env)
 let U<-holding [v,Z] (eval i X.env)
 standAt pos
 holding [v,Z,U] (setItem Z U v)
 release [v,Z,U] []):=by intro _;rfl):PG X (.Subscript o i pos) (bf1 to ti t):=by
 intro Y s T H v u Q I r h;rw[P];refine aa (jh (Qu (F Y s T H _ I h) λZ B x O I1 N S=>?_));refine aa (jh (Qu (J Y B T O _ I1 S) λU W y L I2 E C=>?_));refine aa (wpAny_standAt (aa (jh (Lb (V Y W T L x y v Z U u _ I2 N E r C) λ_ M z_=>?_))));obtain⟨K,R,G⟩:=z_;exact wpAny_release ⟨T,K,R,G⟩
def a2y(G:TE)(g:TG):TS:=λD Y H=>G Y H λx T=>g x Y T D.nx
def apo(B:PE X e Z)(N:PG X tg g)(G:swapsWithSole [tg] e pos.line X.env=pure false:=by rfl)(E:swappedStores [tg] e X.env=pure none:=by rfl)(L:(assignEach [tg] X.env).map (·.2)=[assign tg X.env]:=by rfl):PS X (.Assign [tg] e pos) (a2y Z g):=by intro Y s T H D I h;refine wpAny_Assign_stores (Qu (B Y s T H _ I h) λv O x C I1 J P=>?_) G E;rw[L];exact Lb (N Y O T C x v _ I1 J P) λ_ R q=>q
def a2z(c:TT)(O:TS):TS:=λD Y H=>∃W:Nat->St->Hp->Prop,(∃m,W m Y H)/\∀m Y H,W m Y H ->
 c Y H λb G=>if b=true then ∃N:St->Hp->Prop,(∀T B,N T B->∃J,J<m/\W J T B)/\O { D with nx:=N,ct:=N,bk:=D.nx } Y G else D.nx Y G
def apq(M:PassesOwn (model X.prog X.w) X.A X.env X.xe)(hc:PT X c tc)(U:Ud X body tb):PS X (.While c body [] pos) (a2z tc tb):=by
 intro T s σ H D I h;obtain⟨W,⟨m0,w0⟩,B⟩:=h;refine wpAny_While (codeAny_whileLoop (λn s'=>∃J Z,Inv X T J Z s'/\W n J Z) ?_ m0 ⟨σ,H,I,w0⟩);rintro n s1 ⟨G,V,I1,w1⟩;refine vg M (thT (hc T s1 G V _ I1 (B n G V w1)) λb s2 F I2 L=>?_);cases b with
 |true =>
  obtain⟨N,K,L⟩:=L;rw[dj rfl];refine vg M (Lb (U T s2 G F _ I2 L) λf s3 C=>?_);cases f with
  |next =>
   obtain⟨Y,O,S,Q⟩:=C;obtain⟨P,E,R⟩:=K Y O Q;exact⟨P,E,Y,O,S,R⟩
  |cont =>
   obtain⟨Y,O,S,Q⟩:=C;obtain⟨P,E,R⟩:=K Y O Q;exact⟨P,E,Y,O,S,R⟩
  |brk=>exact C|ret v=>exact C
 |false =>
  rw[cj jo];exact wpAny_execs_nil ⟨G,F,I2,L⟩
structure It where
 go:Nat->Hp->Prop
 yld:Nat->Hp->V->Hp->Prop
 stop:Nat->Hp->Prop
def Ws(X:Cx)(Y:Zp)(H:Hp)(b:Addr):Prop:=
 H b=none/\b≠X.env.locals/\b∉X.fs/\(b∈X.ex\/X.s₀.heap.objs.size<=b)/\(∀x c,X.env.cells.lookup x=some c->c≠b)/\∀p∈X.pn++Y,p.1≠b
def Inv.apr(I:Inv X pins σ H s)(Y:s.heap.objs.size<=b)(G:Z b=none):Ws X pins Z b:=by
 refine⟨G,yr (iz I.lt Y),I.a2f Y,.inr (gf I.sz Y),λx c e z=>?_,λp T z=>?_⟩
 .obtain⟨v,q⟩:=I.cell x c e
  exact absurd (iz q.lt (by rw[z];exact Y)) (uc _)
 .exact absurd (iz (bu (I.pin p T).1) (by rw[z];exact Y)) (uc _)
structure Turn(P:Program)(w:World)(K:Fg)(tg:Expr)(J:It)(fp:X9)(it:Addr)(tn:Nat->Heap->Prop):Prop where
 mem:it∈fp
 obj:∀i h,tn i h->∀b∈fp,∃o,h.get? b=some o/\∀v,o.data≠.cell v
 keep:∀i h h',tn i h->(∀b∈fp,∀o,h.get? b=some o->h'.get? b=some o)->tn i h'
 item:∀(X:Cx),X.prog=P->X.w=w->X.K=K->X.calm=true->∀(i:Nat)(pins:Zp)(s:Shared)(σ:St)(H:Hp)(E:Y1),Inv X pins σ H s->(∀b∈fp,Ws X pins H b)->tn i s.heap->J.go i H ->
  wpAny (model P w) X.A (pyNext (.ref it)) (λr s1=>∃u,r=some u /\
   wpAny (model P w) X.A (letOwnedTupleGo tg (.ref it) u) (λ_ s2=>∃x H',Inv X pins σ H' s2/\RelV x u/\J.yld i H x H'/\tn (i+1) s2.heap/\∀b∈fp,H' b=none) E s1) E s
 done:∀(X:Cx),X.prog=P->X.w=w->X.K=K->X.calm=true->∀(i:Nat)(pins:Zp)(s:Shared)(σ:St)(H:Hp)(E:Y1),Inv X pins σ H s->(∀b∈fp,Ws X pins H b)->tn i s.heap->J.stop i H ->
  wpAny (model P w) X.A (pyNext (.ref it)) (λr s1=>r=none/\Inv X pins σ H s1) E s
 self:∀(A:Around)(i:Nat)(s:Shared)(Q:Y1)(E:Y1),tn i s.heap->Q (.ref it) s->wpAny (model P w) A (pyIter (.ref it)) Q E s
abbrev TI:=St->Hp->(It->Hp->Prop)->Prop
def PIE(X:Cx)(Y:Zp)(L:St)(N:Expr)(R:It->Hp->Prop)(T:Value)(B:Shared):Prop:=
 ∃(it:Addr)(C:X9)(O:Nat->Heap->Prop)(J:It)(G:Hp),T=.ref it/\Inv X Y L G B/\Turn X.prog X.w X.K N J C it O/\O 0 B.heap/\(∀b∈C,Ws X Y G b)/\R J G
def PI(X:Cx)(O T:Expr)(J:TI):Prop:=
 ∀(Y:Zp)(s:Shared)(G:St)(H:Hp)(R:It->Hp->Prop),Inv X Y G H s->J G H R ->
  wpAny (model X.prog X.w) X.A (eval T X.env) (λv B=>wpAny (model X.prog X.w) X.A (pyIter v) (PIE X Y G O R) X.xe B) X.xe s
def aps(G:s.heap.get? it=some o)(B:o.cls=.type n)(J:o.data=.fields Z)(T:["enumerate","zip","dict_itemiterator","dict_reverseitemiterator","odict_iterator","itertools.zip_longest","itertools.pairwise"].contains n=false)(Y:Q () s):wpAny M A (letOwnedTupleGo tg (.ref it) u) Q E s:=by
 unfold letOwnedTupleGo;cases tg<;>first
  |exact aj Y
  | (cases u<;>first
   |exact aj Y
   | (refine aa (wpAny_load G ?_)
      rw[B,J];show wpAny M A (if(["enumerate","zip","dict_itemiterator","dict_reverseitemiterator","odict_iterator","itertools.zip_longest","itertools.pairwise"].contains n&&Z[0]?==some (rawInt _))=true then _ else _) Q E s;rw[cj (by intro h;rw[T,Bool.false_and]at h;cases h)];exact aj Y))
noncomputable def Itl(K:Fg)(a:Addr):It:=
 ⟨λi H=>∃Y x,J2 K H a Y/\Y[i]?=some x,λi H x T=>T=H/\∀Y,J2 K H a Y->Y[i]?=some x,λi H=>∃Y,J2 K H a Y/\Y.length<=i⟩
noncomputable def Itt(K:Fg)(a:Addr):It:=
 ⟨λi H=>∃Y x,Gd K H a Y/\Y[i]?=some x,λi H x T=>T=H/\∀Y,Gd K H a Y->Y[i]?=some x,λi H=>∃Y,Gd K H a Y/\Y.length<=i⟩
noncomputable def Q8(Y:Int)(n:Nat):It:=⟨λi _=>i<n,λi H x T=>T=H/\x=.int (Y+i),λi _=>n<=i⟩
theorem alh{K:Fg}(a it:Addr):Turn P w K tg (Itl K a) [it] it (λi h=>h.IsListIter it a i)where
 mem:=by simp
 obj:=λi h st b T=>by
  have e:b=it:=by simpa using T
  subst e;obtain⟨o,e,c,d⟩:=st;exact⟨o,e,λv z=>by rw[d]at z;cases z⟩
 keep:=λi h C st k=>st.at λo e=>k it (by simp) o e
 item:=by
  intro X W R V F i Y s M H E I O st L;subst W R V;obtain⟨xs,x,B,J⟩:=L;obtain⟨A,S,p,Z⟩:=I.list B;obtain⟨u,hu,ru⟩:=S.get J;obtain⟨f0,f1,f2,Q,N,f5⟩:=O it (by simp);refine wpAny_pyNext_list_item st p.isList (x:=u) (by simpa using hu) λC G sb=>?_
  have I1:Inv X Y M H { s with heap:=C }:=I.turned (t':=s.toks) (λb o T e=>(sb.2 b T).trans e) f0 f1 Q N f5;obtain⟨o,e,c,d⟩:=id G;exact⟨u,rfl,aps (s:={ s with heap:=C }) e c d (by decide) ⟨x,H,I1,ru,⟨rfl,λys hy=>by rw[I.apk hy B];exact J⟩,G,λb T=>(O b T).1⟩⟩
 done:=by intro X W R V F i Y s M H E I O st L;subst W R V;obtain⟨xs,B,J⟩:=L;obtain⟨A,S,p,Z⟩:=I.list B;obtain⟨f0,f1,f2,Q,N,f5⟩:=O it (by simp);have U:=S.length;exact wpAny_pyNext_list_end (I.ok.hd F) st p.isList (by simp;exact a_ (g_ U) J) λC D=>⟨rfl,I.turned (t':=s.toks) (λb o T e=>D b o T e) f0 f1 Q N f5⟩
 self:=λ_ _ _ _ _ st h=>wpAny_pyIter_listiter st h
theorem ahe{K:Fg}(a it:Addr):Turn P w K tg (Itt K a) [it] it (λi h=>h.IsTupleIter it a i)where
 mem:=by simp
 obj:=λi h st b T=>by
  have e:b=it:=by simpa using T
  subst e;obtain⟨o,e,c,d⟩:=st;exact⟨o,e,λv z=>by rw[d]at z;cases z⟩
 keep:=λi h C st k=>st.at λo e=>k it (by simp) o e
 item:=by
  intro X F S W M i Y s A H E I O st L;subst F S W;obtain⟨xs,x,B,J⟩:=L;obtain⟨R,Q,p,Z⟩:=I.tuple B;obtain⟨u,hu,ru⟩:=Q.get J;obtain⟨f0,f1,f2,V,N,f5⟩:=O it (by simp);refine wpAny_pyNext_tuple_item st (show s.heap.IsTuple a R.toArray from p) (x:=u) (by simpa using hu) λC G sb=>?_
  have I1:Inv X Y A H { s with heap:=C }:=I.turned (t':=s.toks) (λb o T e=>(sb.2 b T).trans e) f0 f1 V N f5;obtain⟨o,e,c,d⟩:=id G;exact⟨u,rfl,aps (s:={ s with heap:=C }) e c d (by decide) ⟨x,H,I1,ru,⟨rfl,λys hy=>by rw[I.Vf hy B];exact J⟩,G,λb T=>(O b T).1⟩⟩
 done:=by intro X F S W M i Y s A H E I O st L;subst F S W;obtain⟨xs,B,J⟩:=L;obtain⟨R,Q,p,Z⟩:=I.tuple B;obtain⟨f0,f1,f2,V,N,f5⟩:=O it (by simp);have U:=Q.length;exact wpAny_pyNext_tuple_end (I.ok.hd M) st (show s.heap.IsTuple a R.toArray from p) (by simp;exact a_ (g_ U) J) λC D=>⟨rfl,I.turned (t':=s.toks) (λb o T e=>D b o T e) f0 f1 V N f5⟩
 self:=λ_ _ _ _ _ st h=>wpAny_pyIter_tupleiter st h
theorem ahf{K:Fg}(it:Addr)(J:Int)(n:Nat):Turn P w K tg (Q8 J n) [it] it (λi h=>IsRangeIter h it (J+(i:Nat)*1) ((n:Int)-(i:Nat)) 1)where
 mem:=by simp
 obj:=λi h st b T=>by
  have e:b=it:=by simpa using T
  subst e;exact⟨_,st,λv z=>by
   have D:Data.fields _=Data.cell v:=z;cases D⟩
 keep:=λi h O st k=>k it (by simp) _ st
 item:=by
  intro X V L Q R i Y s M H E I B st N;subst V L Q;obtain⟨f0,f1,f2,S,C,f5⟩:=B it (by simp);have W:=Walks.range (prog:=X.prog) (w:=X.w) (I.ok.hd R) it J 1 n;refine W.item i s _ _ N st λv O F U G Z=>?_
  obtain⟨t,rfl⟩:=U;have I1:Inv X Y M H { s with heap:=O,toks:=F }:=I.turned (λb o T e=>Z b o (by simpa using T) e) f0 f1 S C f5;refine⟨_,rfl,aps (s:={ s with heap:=O,toks:=F }) (n :="range_iterator") G rfl rfl (by decide) ⟨.int (J+i),H,I1,⟨t,?_⟩,⟨rfl,rfl⟩,G,λb T=>(B b T).1⟩⟩;rw[Int.mul_one]
 done:=by intro X V L Q R i Y s M H E I B st N;subst V L Q;obtain⟨f0,f1,f2,S,C,f5⟩:=B it (by simp);exact wpAny_pyNext_range_end (I.ok.hd R) st (by have:n<=i:=N;lia) λO A=>⟨rfl,I.turned (t':=s.toks) (λb o T e=>A b o T e) f0 f1 S C f5⟩
 self:=λ_ _ _ _ _ st h=>wpAny_pyIter_rangeiter st h
end L2
namespace L2
open PySem PySem.Spec PyProof.Rows
def apt{lo:Int}(I:Inv X pins σ H s)(C:-(2^62)<=lo)(J:lo<2^62)(O:-(2^62)<=Z)(Y:Z<2^62)(q:R (Q8 lo (Z-lo).toNat) H):wpAny (model X.prog X.w) X.A (pyIter (.ref s.heap.objs.size)) (PIE X pins σ tg R) E { s with heap:=s.heap.push { cls:=.type "range",data:=.fields #[.int lo t,.int Z u,.int 1 v] },toks:=U }:=by
 refine wpAny_pyIter_range (IsRange.new ..) (small_one C J O Y) ?_;have I1:Inv X pins σ H { s with heap:=s.heap.push { cls:=.type "range",data:=.fields #[.int lo t,.int Z u,.int 1 v] },toks:=U }:=I.kept λb o e=>au _ e
 refine⟨(s.heap.push { cls:=.type "range",data:=.fields #[.int lo t,.int Z u,.int 1 v] }).objs.size,[(s.heap.push { cls:=.type "range",data:=.fields #[.int lo t,.int Z u,.int 1 v] }).objs.size],_,_,H,rfl,
  I1.kept (t':=U) λb o e=>au _ e,ahf _ lo (Z-lo).toNat,?_,λb G=>?_,q⟩
 .have T:lo+((0:Nat):Int)*1=lo:=by simp
  have B:(((Z-lo).toNat:Nat):Int)-((0:Nat):Int)=Builtin.Range.rangeSize lo Z 1:=by rw[rangeSize_one];split<;>lia
  show IsRangeIter _ _ (lo+((0:Nat):Int)*1) ((((Z-lo).toNat:Nat):Int)-((0:Nat):Int)) 1;rw[T,B];exact cu _ rfl
 .have e:b=(s.heap.push { cls:=.type "range",data:=.fields #[.int lo t,.int Z u,.int 1 v] }).objs.size:=by simpa using G
  subst e;exact I1.apr (bz _) (I1.Bq.fresh (bz _))
def a9m(G:TA):TI:=λT H R=>G T H λJ Y=>∃j:Int,J=[.int j]/\-(2^62)<=j/\j<2^62/\R (Q8 0 j.toNat) Y
def ali{X:Cx}{L:Expr}(E:Gl X "range")(O:X.mg "range"= none)(G:PA X [a] Z)(B:starEach [a] X.env=[(false,eval a X.env)]:=by rfl):PI X L (.Call (.Name "range" p) [a] [] pos) (a9m Z):=by
 intro Y s P H R I h;refine Call_ (Dy I E O boot_range (jx (thA (G pos Y s P H _ I h) λS V Q W I1 C T=>?_) B rfl));obtain⟨j,e,T,J,q⟩:=T;subst e;cases C with
 |cons r N =>
  cases N;obtain⟨t,rfl⟩:=r;exact call_range_1 (apt I1 (by lia) (by lia) T J (by simpa using q))
def bf3(C:TI)(g:TG)(P:TS):TS:=λD Y H=>C Y H λJ L=>∃W:Nat->Nat->St->Hp->Prop,(∃m,W 0 m Y L)/\∀i m Y H,W i m Y H ->
 (J.stop i H/\D.nx Y H)\/(J.go i H/\∃N:St->Hp->Prop,(∀T G,N T G->∃O,O<m/\W (i+1) O T G)/\∀x G,J.yld i H x G->g x Y G λB E=>P { D with nx:=N,ct:=N,bk:=D.nx } B E)
noncomputable def Vg(Y:X9)(h:Heap):List (Addr×Obj):=Y.filterMap λb=>(h.get? b).map λo=>(b,o)
def Ni(Y:b∈Z)(e:h.get? b=some o):(b,o)∈Vg Z h:=List.mem_filterMap.mpr ⟨b,Y,by rw[e];rfl⟩
def alj(Y:p∈Vg Z h):p.1∈Z/\h.get? p.1=some p.2:=by
 obtain⟨b,T,e⟩:=List.mem_filterMap.mp Y;cases q:h.get? b with
 |none=>rw[q]at e;cases e
 |some o =>
  rw[q]at e;have G:(b,o)=p:=lg e;subst G;exact⟨T,q⟩
def Inv.pinned{X:Cx}(I:Inv X pins σ H s)(G:∀b∈Z,Ws X pins H b)(B:∀b∈Z,∃o,s.heap.get? b=some o/\∀v,o.data≠.cell v):Inv X (pins++Vg Z s.heap) σ H s:=
 I.Uc λp J=>(dw.mp J).elim (λz=>I.pin p (jn _ z)) λz=>by obtain⟨Y,e⟩:=alj z;obtain⟨f0,f1,f2,_⟩:=G p.1 Y;obtain⟨o,T,d⟩:=B p.1 Y;rw[e]at T;cases T;exact⟨e,f0,f1,f2,d⟩
def Inv.Qe{X:Cx}(I:Inv X (pins++Z) σ H s):Inv X pins σ H s:=I.Uc λp Y=>I.pin p (jn _ (qi _ Y))
def a3a{X:Cx}{tg:Expr}(hp:PassesOwn (model X.prog X.w) X.A X.env X.xe)(hc:X.calm=true)(hi:PI X tg iter wi)(hg:PG X tg g)(O:Ud X body tb)(hs:∀x,foldedSetIterable iter X.env x=pure x:=by intro _;rfl):PS X (.For tg iter body [] pos) (bf3 wi g tb):=by
 intro G s σ H D I h;refine wpAny_For (Lb (hi G s σ H _ I h) λv s1 h1=>Lb h1 λq1 s2 h2=>?_) hs;obtain⟨it,U,tn,J,H2,e,I2,T,q0,f2,W,⟨m0,w0⟩,V⟩:=h2;subst e;have S:∀{H':Hp},(∀b∈U,H' b=none)->∀b∈U,Ws X G H' b:=λhn b O=>⟨hn b O,(f2 b O).2⟩
 refine codeAny_forLoop_any (λn s'=>∃i C H',Inv X G C H' s'/\tn i s'.heap/\(∀b∈U,H' b=none)/\W i n C H') ?_ m0 ⟨0,σ,H2,I2,q0,λb O=>(f2 b O).1,w0⟩;rintro n s3 ⟨i,L,H3,I3,Z,M,w3⟩;rcases V i n L H3 w3 with⟨F,qn⟩|⟨go,N,hN,step⟩
 .refine vg hp (Lb (T.done X rfl rfl rfl hc i G s3 L H3 X.xe I3 (S M) Z F) λr s4 z_=>?_)
  obtain⟨hr,I4⟩:=z_;subst hr;exact wpAny_execs_nil ⟨L,H3,I4,qn⟩
 .refine vg hp (Lb (T.item X rfl rfl rfl hc i G s3 L H3 X.xe I3 (S M) Z go) λr s4 z_=>?_)
  obtain⟨u,hr,h4⟩:=z_;subst hr;refine vg hp (Lb h4 λ_ s5 z_=>?_);obtain⟨x,H5,I5,r5,y5,Q,qv⟩:=z_;have qk:=I5.pinned (S qv) (T.obj _ _ Q);refine vg hp (Lb (hg _ s5 L H5 x u _ qk r5 (step x H5 y5)) λ_ s6 z_=>?_);obtain⟨qq,H6,I6,q6⟩:=z_;refine vg hp (Lb (O _ s6 qq H6 _ I6 q6) λf s7 R=>?_);have E:∀{Y:St}{P:Hp},Inv X (G++Vg U s5.heap) Y P s7->N Y P->∃m,m<n/\∃i C H',Inv X G C H' s7/\tn i s7.heap/\(∀b∈U,H' b=none)/\W i m C H':=fun{Y P} B K=>by obtain⟨m',hm,w7⟩:=hN Y P K;refine⟨m',hm,i+1,Y,P,B.Qe,T.keep _ _ _ Q λb O o e=>(B.pin (b,o) (jn _ (jn _ (Ni O e)))).1,λb O=>?_,w7⟩;obtain⟨o,e,d⟩:=T.obj _ _ Q b O;exact(B.pin (b,o) (jn _ (jn _ (Ni O e)))).2.1
  cases f with
  |next=>obtain⟨Y,P,B,K⟩:=R;exact E B K
  |cont=>obtain⟨Y,P,B,K⟩:=R;exact E B K
  |brk=>obtain⟨Y,P,B,R⟩:=R;exact⟨Y,P,B.Qe,R⟩
  |ret v=>obtain⟨x7,Y,P,B,r7,R⟩:=R;exact⟨x7,Y,P,B.Qe,r7,R⟩
end L2
namespace L2
open PySem PySem.Spec PyProof.Rows
abbrev R2:=V->V->Hp->VK->Prop
def Ej(X:Cx)(f:Value->Value->Sem Value)(r:R2):Prop:=
 ∀(Y:Zp)(s:Shared)(T:St)(H:Hp)(x y:V)(v u:Value)(Q:VK),Inv X Y T H s->RelV x v->RelV y u->r x y H Q ->
  wpAny (model X.prog X.w) X.A (f v u) (EP X Y T Q) X.xe s
def UnR(X:Cx)(f:Value->Sem Value)(r:V->Hp->VK->Prop):Prop:=
 ∀(Y:Zp)(s:Shared)(T:St)(H:Hp)(x:V)(v:Value)(Q:VK),Inv X Y T H s->RelV x v->r x H Q ->
  wpAny (model X.prog X.w) X.A (f v) (EP X Y T Q) X.xe s
def Dh(X:Cx)(f:Value)(r:List V->Hp->VK->Prop):Prop:=
 ∀(Y:Zp)(s:Shared)(T:St)(H:Hp)(J:List V)(G:Zl)(Q:VK),Inv X Y T H s->Vals J G->r J H Q ->
  wpAny (model X.prog X.w) X.A (call f G) (EP X Y T Q) X.xe s
def tOp(r:R2)(B J:TE):TE:=λY H Q=>B Y H λx T=>J Y T λy G=>r x y G Q
def tUn(r:V->Hp->VK->Prop)(G:TE):TE:=λT H Q=>G T H λx Y=>r x Y Q
def rI(C:Int->Int->Prop)(g:Int->Int->V):R2:=λx y H Q=>∃i j,x=.int i/\y=.int j/\C i j/\Q (g i j) H
def rI0(g:Int->Int->V):R2:=λx y H Q=>∃i j,x=.int i/\y=.int j/\Q (g i j) H
def rU(g:Int->V):V->Hp->VK->Prop:=λx H Q=>∃i,x=.int i/\Q (g i) H
def a3c{X:Cx}{a b:Expr}{J G:TE}(P:PE X a J)(C:PE X b G){Y:Zp}{s:Shared}{T:St}{H:Hp}{R:V->V->Hp->Prop}(I:Inv X Y T H s)
 (h:J T H λx H1=>G T H1 λy Z=>R x y Z) {Q:Y1} {f:Value->Value->Sem Value}
 (B:∀v u s2 x y Z,Inv X Y T Z s2->RelV x v->RelV y u->R x y Z->wpAny (model X.prog X.w) X.A (f v u) Q X.xe s2) :
 wpAny (model X.prog X.w) X.A (eval a X.env) (λv qq=>wpAny (model X.prog X.w) X.A (eval b X.env) (λu U=>wpAny (model X.prog X.w) X.A (f v u) Q X.xe U) X.xe qq) X.xe s:=by
 refine Qu (P Y s T H _ I h) λv L x H1 I1 N S=>?_
 refine Qu (C Y L T H1 _ I1 S) λu s2 y Z I2 E O=>?_
 exact B v u s2 x y Z I2 N E O
def a9o{X:Cx}{a b:Expr}{J G:TE}{pos:Pos}{T:Operator}{r:R2}(C:Ej X (binaryOp T) r)(E:PE X a J)(B:PE X b G):PE X (.BinOp a T b pos) (tOp r J G):=by intro Y s P H Q I h;exact wpAny_BinOp (a3c E B I h λv u O x y L I2 N R q=>C Y O P L x y v u Q I2 N R q)
def a9p{X:Cx}{a:Expr}{J:TE}{pos:Pos}{T:UnaryOp}{r:V->Hp->VK->Prop}(B:UnR X (unaryOp T) r)(L:PE X a J):PE X (.UnaryOp T a pos) (tUn r J):=by intro Y s G H Q I h;exact UnaryOp_ (Qu (L Y s G H _ I h) λv C x N I1 O E=>B Y C G N x v Q I1 O E)
def opI{X:Cx}{f:Value->Value->Sem Value}{C:Int->Int->Prop}{g:Int->Int->Int}
 (Y:∀(i j:Int)(t u:Tok)(s:Shared)(Q:Y1)(E:Y1),C i j->Q (.int (g i j) s.toks) { s with toks:=s.toks+1 }->wpAny (model X.prog X.w) X.A (f (.int i t) (.int j u)) Q E s) :
 Ej X f (rI C λi j=>.int (g i j)):=by
 intro T s N H x y v u Q I J O h;obtain⟨i,j,rfl,rfl,B,q⟩:=h;obtain⟨t,rfl⟩:=J;obtain⟨G,rfl⟩:=O;exact Y i j t G s _ _ B ⟨.int (g i j),H,I.tok _,⟨_,rfl⟩,q⟩
def a9q{X:Cx}{f:Value->Value->Sem Value}{g:Int->Int->Int}
 (Y:∀(i j:Int)(t u:Tok)(s:Shared)(Q:Y1)(E:Y1),Q (.int (g i j) s.toks) { s with toks:=s.toks+1 }->wpAny (model X.prog X.w) X.A (f (.int i t) (.int j u)) Q E s) :
 Ej X f (rI0 λi j=>.int (g i j)):=by
 intro T s O H x y v u Q I J B h;obtain⟨i,j,rfl,rfl,q⟩:=h;obtain⟨t,rfl⟩:=J;obtain⟨G,rfl⟩:=B;exact Y i j t G s _ _ ⟨.int (g i j),H,I.tok _,⟨_,rfl⟩,q⟩
def av7{X:Cx}{f:Value->Value->Sem Value}{g:Int->Int->Bool}
 (Y:∀(i j:Int)(t u:Tok)(s:Shared)(Q:Y1)(E:Y1),Q (.bool (g i j)) s->wpAny (model X.prog X.w) X.A (f (.int i t) (.int j u)) Q E s) :
 Ej X f (rI0 λi j=>.bl (g i j)):=by
 intro T s O H x y v u Q I J B h;obtain⟨i,j,rfl,rfl,q⟩:=h;obtain⟨t,rfl⟩:=J;obtain⟨G,rfl⟩:=B;exact Y i j t G s _ _ ⟨.bl (g i j),H,I,rfl,q⟩
def bf7(i j:Int):Prop:=0<j/\j<1073741824
def bf8(i j:Int):Prop:=0<=j/\j<=1000000/\i.natAbs<2^64
def av8(i j:Int):Prop:=(-(2^64)<i/\i<2^64)\/(-(2^64)<j/\j<2^64)
def av8.ok{i j:Int}(h:av8 i j):IntMulOk i j:=by
 rcases h with⟨Y,T⟩|⟨Y,T⟩
 .exact .of_left (intBits_le_64 Y T)
 .exact .of_right (intBits_le_64 Y T)
def a3d{X:Cx}:Ej X (binaryOp .Add) (rI0 λi j=>.int (i+j)):=a9q λ_ _ _ _ _ _ _ q=>add_int q
def a3e{X:Cx}:Ej X (binaryOp .Sub) (rI0 λi j=>.int (i-j)):=a9q λ_ _ _ _ _ _ _ q=>sub_int q
def a3f{X:Cx}:Ej X (binaryOp .Mult) (rI av8 λi j=>.int (i*j)):=opI λ_ _ _ _ _ _ _ Y q=>mul_int q Y.ok
def av9{X:Cx}:Ej X (binaryOp .FloorDiv) (rI bf7 λi j=>.int (i/j)):=opI λi j _ _ _ _ _ Y q=>by
 have T:(0:Int)<j:=Y.1
 have G:j<1073741824:=Y.2
 exact floordiv_int (by lia) (by rw[Int.fdiv_eq_ediv_of_nonneg i (by lia)];exact q) (.inl (PyProof.noPylong_small (by omega)))
def a3g{X:Cx}:Ej X (binaryOp .Mod) (rI (λ_ j=>0<j) λi j=>.int (i%j)):=opI λi j _ _ _ _ _ Y q=>by
 have T:(0:Int)<j:=Y
 exact mod_int' (by lia) (by rw[Int.fmod_eq_emod_of_nonneg i (by lia)];exact q)
def a3h{X:Cx}:Ej X (binaryOp .Pow) (rI bf8 λi j=>.int (i^j.toNat)):=opI λ_ _ _ _ _ _ _ Y q=>pow_int_small Y.1 Y.2.1 Y.2.2 q
def unI{X:Cx}{f:Value->Sem Value}{g:Int->Int}
 (Y:∀(i:Int)(t:Tok)(s:Shared)(Q:Y1)(E:Y1),Q (.int (g i) s.toks) { s with toks:=s.toks+1 }->wpAny (model X.prog X.w) X.A (f (.int i t)) Q E s) :
 UnR X f (rU λi=>.int (g i)):=by
 intro T s J H x v Q I G h;obtain⟨i,rfl,q⟩:=h;obtain⟨t,rfl⟩:=G;exact Y i t s _ _ ⟨.int (g i),H,I.tok _,⟨_,rfl⟩,q⟩
def a3i{X:Cx}:UnR X (unaryOp .USub) (rU λi=>.int (-i)):=unI λ_ _ _ _ _ q=>neg_int q
noncomputable def a3j:V->V->Bool
 |.non,.non=>true|.non,.int _=>true|.int _,.non=>true|.non,.bl _=>true|.bl _,.non=>true|.non,.str _=>true|.str _,.non=>true
 |.int _,.int _=>true|.bl _,.bl _=>true|.str _,.str _=>true|.byt _,.byt _=>true
 |.int _,.str _=>true|.str _,.int _=>true|.bl _,.str _=>true|.str _,.bl _=>true
 |_,_=>false
def rEq:R2:=λx y H Q=>a3j x y=true/\Q (.bl (decide (x=y))) H
def rNe:R2:=λx y H Q=>a3j x y=true/\Q (.bl (!decide (x=y))) H
def ai7{i j:Int}:decide (V.int i=V.int j)=(i==j):=by rw[zr];simp
def apu{i j:Bool}:decide (V.bl i=V.bl j)=(i==j):=by rw[zr];simp
def ai8{i j:Str}:decide (V.str i=V.str j)=(i==j):=by rw[zr];simp
def ai9{i j:Array UInt8}:decide (V.byt i=V.byt j)=(i.toList==j.toList):=by rw[zr];cases i;cases j;simp
def z6{X:Cx}{Y:Zp}{G:St}{H:Hp}{s:Shared}{Q:VK}{k T:Bool}(I:Inv X Y G H s)(q:Q (.bl k) H)(e:k=T):EP X Y G Q (.bool T) s:=by subst e;exact⟨.bl k,H,I,rfl,q⟩
def a9r{X:Cx}:Ej X (compareOp .Eq) rEq:=by
 intro B s O H x y v u Q I J Y h;obtain⟨G,q⟩:=h;cases x with
 |non =>
  cases J;cases y with
  |non=>cases Y;exact PySem.EqNone.eq_none_none (z6 I q (by simp))|bl j=>cases Y;exact PySem.EqNone.eq_none_bool (z6 I q (by simp))|int j=>obtain⟨T,rfl⟩:=Y;exact PySem.EqNone.eq_none_int (z6 I q (by simp))
  |str j=>obtain⟨T,rfl⟩:=Y;exact PySem.EqNone.eq_none_str (z6 I q (by simp))
  |_=>exact absurd (show false=true from G) jo
 |bl i =>
  cases J;cases y with
  |non=>cases Y;exact PySem.EqNone.eq_bool_none (z6 I q (by simp))|bl j=>cases Y;exact eq_bool (z6 I q apu)|str j=>obtain⟨T,rfl⟩:=Y;exact PySem.EqMixed.eq_bool_str (z6 I q (by simp))
  |_=>exact absurd (show false=true from G) jo
 |int i =>
  obtain⟨t,rfl⟩:=J;cases y with
  |non=>cases Y;exact PySem.EqNone.eq_int_none (z6 I q (by simp))|int j=>obtain⟨T,rfl⟩:=Y;exact eq_int (z6 I q ai7)
  |str j=>obtain⟨T,rfl⟩:=Y;exact PySem.EqMixed.eq_int_str (z6 I q (by simp))
  |_=>exact absurd (show false=true from G) jo
 |str i =>
  obtain⟨t,rfl⟩:=J;cases y with
  |non=>cases Y;exact PySem.EqNone.eq_str_none (z6 I q (by simp))|bl j=>cases Y;exact PySem.EqMixed.eq_str_bool (z6 I q (by simp))|int j=>obtain⟨T,rfl⟩:=Y;exact PySem.EqMixed.eq_str_int (z6 I q (by simp))
  |str j=>obtain⟨T,rfl⟩:=Y;exact eq_str (z6 I q ai8)
  |_=>exact absurd (show false=true from G) jo
 |byt i =>
  obtain⟨t,rfl⟩:=J;cases y with
  |byt j=>obtain⟨T,rfl⟩:=Y;exact PySem.W.eq_bytes (z6 I q ai9)
  |_=>exact absurd (show false=true from G) jo
 |_=>cases y<;>exact absurd (show false=true from G) jo
def a9s{X:Cx}:Ej X (compareOp .NotEq) rNe:=by
 intro B s O H x y v u Q I J Y h;obtain⟨G,q⟩:=h;cases x with
 |non =>
  cases J;cases y with
  |non=>cases Y;exact PySem.EqNone.ne_none_none (z6 I q (by simp))|bl j=>cases Y;exact PySem.EqNone.ne_none_bool (z6 I q (by simp))|int j=>obtain⟨T,rfl⟩:=Y;exact PySem.EqNone.ne_none_int (z6 I q (by simp))
  |str j=>obtain⟨T,rfl⟩:=Y;exact PySem.EqNone.ne_none_str (z6 I q (by simp))
  |_=>exact absurd (show false=true from G) jo
 |bl i =>
  cases J;cases y with
  |non=>cases Y;exact PySem.EqNone.ne_bool_none (z6 I q (by simp))|bl j=>cases Y;exact ne_bool (z6 I q (qt not apu))|str j=>obtain⟨T,rfl⟩:=Y;exact PySem.EqMixed.ne_bool_str (z6 I q (by simp))
  |_=>exact absurd (show false=true from G) jo
 |int i =>
  obtain⟨t,rfl⟩:=J;cases y with
  |non=>cases Y;exact PySem.EqNone.ne_int_none (z6 I q (by simp))|int j=>obtain⟨T,rfl⟩:=Y;exact ne_int (z6 I q (qt not ai7))
  |str j=>obtain⟨T,rfl⟩:=Y;exact PySem.EqMixed.ne_int_str (z6 I q (by simp))
  |_=>exact absurd (show false=true from G) jo
 |str i =>
  obtain⟨t,rfl⟩:=J;cases y with
  |non=>cases Y;exact PySem.EqNone.ne_str_none (z6 I q (by simp))|bl j=>cases Y;exact PySem.EqMixed.ne_str_bool (z6 I q (by simp))|int j=>obtain⟨T,rfl⟩:=Y;exact PySem.EqMixed.ne_str_int (z6 I q (by simp))
  |str j=>obtain⟨T,rfl⟩:=Y;exact ne_str (z6 I q (qt not ai8))
  |_=>exact absurd (show false=true from G) jo
 |byt i =>
  obtain⟨t,rfl⟩:=J;cases y with
  |byt j=>obtain⟨T,rfl⟩:=Y;exact PySem.W.ne_bytes (z6 I q (qt not ai9))
  |_=>exact absurd (show false=true from G) jo
 |_=>cases y<;>exact absurd (show false=true from G) jo
def a9t{X:Cx}:Ej X (compareOp .Lt) (rI0 λi j=>.bl (decide (i<j))):=av7 λ_ _ _ _ _ _ _ q=>lt_int q
def a9u{X:Cx}:Ej X (compareOp .LtE) (rI0 λi j=>.bl (decide (i<=j))):=av7 λ_ _ _ _ _ _ _ q=>le_int q
def a9v{X:Cx}:Ej X (compareOp .Gt) (rI0 λi j=>.bl (decide (j<i))):=av7 λ_ _ _ _ _ _ _ q=>gt_int q
def a9w{X:Cx}:Ej X (compareOp .GtE) (rI0 λi j=>.bl (decide (j<=i))):=av7 λ_ _ _ _ _ _ _ q=>ge_int q
def awa{X:Cx}:Ej X (compareOp .IsNot) (λx y H Q=>y=.non/\Q (.bl (!decide (x=.non))) H):=by
 intro Y s J H x y v u Q I T G h;obtain⟨rfl,q⟩:=h;cases G;refine isnot_none_gen (z6 I q ?_);cases x<;>first
  |(cases T;rfl)
  |(obtain⟨t,rfl⟩:=T;rfl)
def Ej.or{X:Cx}{f:Value->Value->Sem Value}{r T:R2}(h:Ej X f r)(O:Ej X f T):Ej X f (λx y H Q=>r x y H Q\/T x y H Q):=by
 intro Y s J H x y v u Q I G B q;rcases q with q|q
 .exact h Y s J H x y v u Q I G B q
 .exact O Y s J H x y v u Q I G B q
def awb{X:Cx}{a b:Expr}{J G:TE}{pos:Pos}{T:CmpOp}{r:R2}(N:Ej X (compareOp T) r)(P:PE X a J)(B:PE X b G)(O:behindInMarks T b=false):PE X (.Compare a [T] [b] pos) (tOp r J G):=by intro Y s R H Q I h;exact wpAny_Compare1 (a3c P B I h λv u C x y E I2 L S q=>N Y C R E x y v u Q I2 L S q) O
def az3(t:TE):TT:=λY H Q=>t Y H λx T=>∃k,x=.bl k/\Q k T
def awc{X:Cx}{a b:Expr}{B J:TE}{pos:Pos}{T:CmpOp}{r:R2}(P:Ej X (compareOp T) r)(F:PE X a B)(C:PE X b J)(N:behindInMarks T b=false):PT X (.Compare a [T] [b] pos) (az3 (tOp r B J)):=by
 intro Y s G H Q I h;refine wpAny_isTrue_Compare1 (Qu (F Y s G H _ I h) λv R x S I1 E K=>Qu (C Y R G S _ I1 K) λu L y V I2 W O =>
  Lb (P Y L G V x y v u _ I2 E W O) λc M ⟨z,H3,I3,r3,k,e,q3⟩=>?_) N
 subst e;cases r3;exact m8 ⟨H3,I3,q3⟩
def ace(r G:R2)(L C N:TE):TE:=λY H Q=>L Y H λx B=>C Y B λy O=>r x y O λz T=>∃k,z=.bl k /\
 (if k=true then N Y T λE J=>G y E J Q else Q (.bl false) T)
def apv{X:Cx}{a b c:Expr}{C L E:TE}{pos:Pos}{B T:CmpOp}{r O:R2}(ho:Ej X (compareOp B) r)(J:Ej X (compareOp T) O)(D:PE X a C)(P:PE X b L)(U:PE X c E)
 (R:lastMarks [B,T] [b,c]=false:=by with_unfolding_all rfl):PE X (.Compare a [B,T] [b,c] pos) (ace r O C L E):=by
 intro Y s G H Q I h;refine Compare_chain (Qu (D Y s G H _ I h) λv V x W I1 K q1=>chain_link (Qu (P Y V G W _ I1 q1) λu s2 y M I2 N F =>
  Lb (ho Y s2 G M x y v u _ I2 K N F) λd s3 ⟨z,H3,I3,r3,k,e,q3⟩=>?_)) R
 subst e;cases r3;refine m8 ?_;cases k with
 |false=>exact ite_ff ⟨.bl false,H3,I3,rfl,q3⟩|true=>exact ite_tt (chain_last (Qu (U Y s3 G H3 _ I3 q3) λw' s4 Z A I4 S q4=>J Y s4 G A y Z u w' Q I4 N S q4))
def apw{X:Cx}{a b c:Expr}{C L E:TE}{pos:Pos}{B T:CmpOp}{r O:R2}(ho:Ej X (compareOp B) r)(J:Ej X (compareOp T) O)(U:PE X a C)(P:PE X b L)(hc:PE X c E)
 (R:lastMarks [B,T] [b,c]=false:=by with_unfolding_all rfl):PT X (.Compare a [B,T] [b,c] pos) (az3 (ace r O C L E)):=by
 intro Y s G H Q I h;refine isTrue_chain (Qu (U Y s G H _ I h) λv V x W I1 K q1=>test_link (Qu (P Y V G W _ I1 q1) λu s2 y D I2 N F =>
  Lb (ho Y s2 G D x y v u _ I2 K N F) λd s3 ⟨z,H3,I3,r3,k,e,q3⟩=>?_)) R
 subst e;cases r3;refine m8 ?_;cases k with
 |false =>
  obtain⟨k',e',A⟩:=q3;cases e';exact ite_ff ⟨H3,I3,A⟩
 |true =>
  refine ite_tt (test_last (Qu (hc Y s3 G H3 _ I3 q3) λw' s4 z' Z I4 S q4=>Qu (J Y s4 G Z y z' u w' _ I4 N S q4) λd' s5 z2 M I5 r5 z_=>?_));obtain⟨k2,e2,q5⟩:=z_;subst e2;cases r5;exact m8 ⟨M,I5,q5⟩
def acf:(sizeLine:Nat)<2^63:=by rw[t8];decide
def vals1{x:V}{Y:Zl}(r:Vals [x] Y):∃u,Y=[u]/\RelV x u:=by
 cases r with
 |cons G T=>cases T;exact⟨_,rfl,G⟩
def vals2{x y:V}{Y:Zl}(r:Vals [x,y] Y):∃u w',Y=[u,w']/\RelV x u/\RelV y w':=by
 cases r with
 |cons T B =>
  cases B with
  |cons J G=>cases G;exact⟨_,_,rfl,T,J⟩
def alk{X:Cx}(G:X.calm=true):Dh X (.builtin "max") (λZ H Q=>∃i j,Z=[.int i,.int j]/\Q (.int (if j > i then j else i)) H):=by
 intro T s N H Z J Q I r h;obtain⟨i,j,rfl,q⟩:=h;obtain⟨u,O,rfl,⟨t,rfl⟩,⟨B,rfl⟩⟩:=vals2 r;refine max_two_ints (I.ok.hd G) λL C k=>⟨_,H,I.kept k,?_,q⟩
 by_cases Y:j > i
 .rw[dj Y,dj Y];exact⟨_,rfl⟩
 .rw[cj Y,cj Y];exact⟨_,rfl⟩
def alm{X:Cx}(G:X.calm=true):Dh X (.builtin "min") (λZ H Q=>∃i j,Z=[.int i,.int j]/\Q (.int (if j<i then j else i)) H):=by
 intro T s N H Z J Q I r h;obtain⟨i,j,rfl,q⟩:=h;obtain⟨u,O,rfl,⟨t,rfl⟩,⟨B,rfl⟩⟩:=vals2 r;refine min_two_ints (I.ok.hd G) λL C k=>⟨_,H,I.kept k,?_,q⟩
 by_cases Y:j<i
 .rw[dj Y,dj Y];exact⟨_,rfl⟩
 .rw[cj Y,cj Y];exact⟨_,rfl⟩
end L2
namespace L2
open PySem PySem.Spec PyProof.Rows
structure ahh(h:Heap)(x dx C:Addr)(mA:Zs):Prop where
 obj:h.get? x=some (PySem.W.instObj C dx)
 ns:h.Ns1 dx mA
 ne:dx≠x
set_option tactic.hygienic true in
def aln{h:Heap}{O:Addr}{N:Zs}(n:h.Ns1 O N):∃Y,h.get? O=some Y/\∀Z,PySem.W.lookIn Z Y=some (N Z):=by
 obtain⟨o,B,V,E,R,Q,_,L⟩:=n;refine⟨o,E,λZ=>?_⟩;have e:=L Z;unfold nsFind findBy at e;rw[<-Array.find?_toList]at e;unfold PySem.W.lookIn;rw[R];dsimp only;split
 .rename_i y q
  rw[q]at e;exact qt some e
 .rename_i q
  rw[q]at e;have a:B.toList.any (·.refKey)=false:=by rw[List.any_eq_false];intro y H;obtain⟨z,t,T⟩:=Q y (Array.mem_toList_iff.mp H);simp[DictEntry.refKey,T]
  have P:¬B.toList.any (·.refKey)=true:=by rw[a];exact jo
  rw[cj P];exact qt some e
def ahh.look{h:Heap}{x T C:Addr}{Y:Zs}(I:ahh h x T C Y):∃U,PySem.W.InstAt h x (PySem.W.instObj C T) C (some U)/\∀Z,PySem.W.lookIn Z U=some (Y Z):=
 let ⟨U,ho,hl⟩:=aln I.ns
 ⟨U,⟨I.obj,rfl,rfl,ho⟩,hl⟩
def get_map{prog:Program}{w:World}{A:Around}{E:Y1}{s:Shared}{K:Fg}{x L C:Addr}{B:Zs}{Y:Str}{v:Value}{T:Bool}{Q:Y1}(X:K.In s.heap)(I:ahh s.heap x L C B)(P:PySem.W.plainGet K C Y=true)(R:PySem.W.hasDictIn K C=true)
 (O:PySem.W.findIn K (.ref C) Y=some none) (S:B Y=some v) (G:PySem.W.handedIn v=true) (h:Q v { s with toks:=s.toks+1 }) :
 wpAny (model prog w) A (getAttr (.ref x) Y T) Q E s:=by
 obtain⟨H,J,N⟩:=I.look;exact PySem.W.get_value X J (PySem.W.plainGet_of P).1 (PySem.W.findObj_own R O rfl (by rw[N,S])) G h
def apx{prog:Program}{w:World}{A:Around}{E:Y1}{s:Shared}{K:Fg}{x P C f:Addr}{G:Zs}{Y:Str}{O:Sem Bool}{Q:Value×List Value->Shared->Prop}(X:K.In s.heap)(I:ahh s.heap x P C G)(T:PySem.W.plainGet K C Y=true)
 (B:PySem.W.findIn K (.ref C) Y=some (some (.ref f))) (N:PySem.W.isFn K (.ref f)=true) (S:G Y=none) (h:Q (.ref f,[.ref x]) s) :
 wpAny (model prog w) A (getMethod (.ref x) Y O) Q E s:=by
 obtain⟨R,J,L⟩:=I.look;exact PySem.W.method_fn X J (PySem.W.plainGet_of T).1 (PySem.W.plainGet_of T).2 B (beq_iff_eq.mp N) (by show(PySem.W.lookIn Y R).map (·.isSome)=some false;rw[L,S];rfl) h
def awd{prog:Program}{w:World}{A:Around}{E:Y1}{s:Shared}{K:Fg}{x G C:Addr}{L:Zs}{Y:Str}{v:Value}{S:Yf}{Q:Unit->Shared->Prop}(X:K.In s.heap)(I:ahh s.heap x G C L)
 (g:PySem.W.findIn K (.ref C) "__setattr__"= some (some (.builtin "object.__setattr__"))) (j:PySem.W.plainOver K C=true) (z:PySem.W.takerIn K C Y=some none) (u:PySem.W.hasDictIn K C=true)
 (V:PySem.Within L S) (B:S.length<=sizeLine)
 (h:∀Z,ahh Z x G C (λy=>if y=Y then some v else L y)->Heap.SameBut G s.heap Z->Q () { s with heap:=Z,toks:=s.toks+2 }) :
 wpAny (model prog w) A (setAttr (.ref x) Y v) Q E s:=by
 obtain⟨p,J,d⟩:=I.look;refine PySem.W.set_plain X J g (PySem.W.osa_open (s:={ s with toks:=s.toks+1 }) (r:=none) X J j z λb=>?_);obtain⟨c,D,P⟩:=PySem.W.any_some u;have F:s.heap.get? x=some ⟨.ref C,some G,.plain,#[]⟩:=I.obj;refine aa (aj (aa (aa (wpAny_loadPart F (aa (PySem.W.Looks.here (s:={ s with toks:=s.toks+1 }) (PySem.W.looks_clsIn X D) ?_))))));rw[P];refine aj (a:=some G) (aa (aj (aa ?_)));refine wpAny_nsSet1 (s:={ s with toks:=s.toks+1 }) I.ns λZ H T=>?_
 obtain⟨l,q,M,R,O,N⟩:=H.count (PySem.Within.cons Y v V);refine aa (wpAny_lookBehind R (by rw[O];exact pastItsLine_dict (gf N (by rw[iw];exact v_ B))) ?_);exact aj (h _ ⟨(T.2 _ (km I.ne)).trans I.obj,H,I.ne⟩ T)
def apy{prog:Program}{w:World}{A:Around}{s:Shared}{K:Fg}{C f:Addr}{R:Result->Shared->Prop}{T:Zl}{G:List (Str×Value)}(X:K.In s.heap)(B:PySem.W.makesIn K C=true)
 (O:PySem.W.findIn K (.ref C) "__init__"= some (some (.ref f))) (J:PySem.W.typeIn K (.ref f)=some (.type "function"))
 (h:codeAny (model prog w) (A.under (.builtin "type.__call__" ⟨.ref C::T,G⟩)) (.call (.ref f) ⟨.ref (s.heap.objs.size+1)::T,G⟩) (PySem.W.InitBack (s.heap.objs.size+1) R)
  { s with heap:=(s.heap.push PySem.W.emptyDict).push (PySem.W.instObj C s.heap.objs.size) }) :
 codeAny (model prog w) A (.call (.ref C) ⟨T,G⟩) R s:=by
 obtain⟨L,g,d,t,N⟩:=s;exact PySem.W.make_core (PySem.W.makes_of X B) (PySem.W.looks_findIn X O) (λY=>PySem.W.bind_fn X Y J) (.inl rfl) h
noncomputable def J5(f:Str)(v:V):List (Str×V)->List (Str×V)
 |[]=>[(f,v)]|(g,x)::r=>if g=f then(g,v)::r else(g,x)::J5 f v r
theorem Wc(f g:Str)(v:V):∀fs:List (Str×V),(J5 f v fs).lookup g=if g=f then some v else fs.lookup g
 |[]=>by
  show List.lookup g [(f,v)]=_
  by_cases h:g=f
  .have Y:(g==f)=true:=beq_iff_eq.mpr h
   simp only[List.lookup,Y,dj h]
  .have Y:(g==f)=false:=w6.mpr h
   simp only[List.lookup,Y,cj h]
 |(k,x)::r=>by
  have G:=Wc f g v r;rw[show J5 f v ((k,x)::r)=(if k=f then(k,v)::r else(k,x)::J5 f v r)from rfl]
  by_cases T:k=f
  .rw[dj T]
   by_cases h:g=k
   .have Y:(g==k)=true:=beq_iff_eq.mpr h
    simp only[List.lookup,Y,dj (h.trans T)]
   .have Y:(g==k)=false:=w6.mpr h
    simp only[List.lookup,Y,cj (λe:g=f=>h (e.trans T.symm))]
  .rw[cj T]
   by_cases h:g=k
   .have Y:(g==k)=true:=beq_iff_eq.mpr h
    simp only[List.lookup,Y,cj (λe:g=f=>T (h.symm.trans e))]
   .have Y:(g==k)=false:=w6.mpr h
    simp only[List.lookup,Y];exact G
theorem Vh(f:Str)(v:V):∀fs:List (Str×V),f∈(J5 f v fs).map (·.1)/\∀g,g∈fs.map (·.1)->g∈(J5 f v fs).map (·.1)
 |[]=>⟨by simp[J5],λg h=>by simp at h⟩
 |(k,x)::r=>by
  obtain⟨G,T⟩:=Vh f v r;rw[show J5 f v ((k,x)::r)=(if k=f then(k,v)::r else(k,x)::J5 f v r)from rfl]
  by_cases Y:k=f
  .rw[dj Y]
   subst Y;exact⟨by simp,λg h=>by simpa using h⟩
  .rw[cj Y]
   refine⟨?_,λg h=>?_⟩
   .rw[gq]
    exact bw _ G
   .rw[gq]at h⊢
    rcases dh.mp h with e|e
    .exact dh.mpr (.inl e)
    .exact bw _ (T g e)
theorem We(f:Str)(v:V):∀fs:List (Str×V),(J5 f v fs).length<=fs.length+1
 |[]=>by simp[J5]
 |(k,x)::r=>by
  have T:=We f v r;rw[show J5 f v ((k,x)::r)=(if k=f then(k,v)::r else(k,x)::J5 f v r)from rfl]
  by_cases Y:k=f
  .rw[dj Y,iw,iw];exact x_
  .rw[cj Y,iw,iw];exact v_ T
def Ou.some_of{v:V}{o:Option Value}(r:Ou (some v) o):∃u,o=some u/\RelV v u:=by
 cases o with
 |none=>exact(show False from r).elim
 |some u=>exact⟨u,rfl,r⟩
def Ou.none_of{o:Option Value}(r:Ou none o):o=none:=by
 cases o with
 |none=>rfl|some u=>exact(show False from r).elim
def alo{v:V}{u:Value}(r:RelV v u):PySem.W.handedIn u=true:=by
 cases v with
 |non=>cases(show u=Value.none from r);rfl
 |bl b=>cases(show u=Value.bool b from r);rfl
 |int i=>obtain⟨t,e⟩:=(show ∃t,u=Value.int i t from r);cases e;rfl
 |str x=>obtain⟨t,e⟩:=(show ∃t,u=Value.str x t from r);cases e;rfl
 |byt b=>obtain⟨t,e⟩:=(show ∃t,u=Value.bytes b t from r);cases e;rfl
 |flt b=>obtain⟨t,e⟩:=(show ∃t,u=Value.float b t from r);cases e;rfl
 |ref a=>cases(show u=Value.ref a from r);rfl
 |ty n=>cases(show u=Value.type n from r);rfl
def Mq{P:Program}{w:World}{H:Hp}{h:Heap}{a C Y:Addr}{fs:List (Str×V)}(G:Ru P w H h)(e:H a=some (.ins C Y fs)):∃Z,ahh h a Y C Z/\(∀f,Ou (fs.lookup f) (Z f))/\PySem.Within Z (fs.map (·.1))/\fs.length<=1000/\H Y=some (.own a):=by obtain⟨d,z,T,J,Z,n,r,q⟩:=(show Bt P w H h a (.ins C Y fs)from G a _ e);exact⟨Z,⟨J,n,T⟩,r,q,z,d⟩
structure Cls(K:Fg)(C:Addr):Prop where
 pg:PySem.W.plainGet K C Str.empty=true
 hd:PySem.W.hasDictIn K C=true
 po:PySem.W.plainOver K C=true
 sa:PySem.W.findIn K (.ref C) "__setattr__"= some (some (.builtin "object.__setattr__"))
def Cls.get{K:Fg}{C:Addr}(c:Cls K C)(f:Str):PySem.W.plainGet K C f=true:=c.pg
def K8(K:Fg)(C:Addr)(f:Str):Prop:=PySem.W.findIn K (.ref C) f=some none
def K8.taker{K:Fg}{C:Addr}{f:Str}(n:K8 K C f):PySem.W.takerIn K C f=some none:=by unfold PySem.W.takerIn;rw[show PySem.W.findIn K (.ref C) f=some none from n];rfl
structure Meth(K:Fg)(C:Addr)(m:Str)(f:Addr):Prop where
 at_:PySem.W.findIn K (.ref C) m=some (some (.ref f))
 fn:PySem.W.isFn K (.ref f)=true
 kp:PySem.W.keepIn K (.ref f)=true
def ahi{X:Cx}{Y:Zp}{T:St}{H:Hp}{s:Shared}{a C J:Addr}{fs:List (Str×V)}{f:Str}{v:V}{A:Around}{E:Y1}{b:Bool}{Q:Y1}(I:Inv X Y T H s)(e:H a=some (.ins C J fs))(c:Cls X.K C)(n:K8 X.K C f)(l:fs.lookup f=some v)
 (h:∀u Z,Inv X Y T H Z->RelV v u->Q u Z):wpAny (model X.prog X.w) A (getAttr (.ref a) f b) Q E s:=by
 obtain⟨N,O,r,_,_,_⟩:=Mq I.Bq e;obtain⟨u,B,G⟩:=Ou.some_of (v:=v) (o:=N f) (by rw[<-l];exact r f);exact get_map I.Ve O (c.get f) c.hd n B (alo G) (h u _ (I.tok _) G)
def ahj{X:Cx}{Y:Zp}{N:St}{H:Hp}{s:Shared}{a C J:Addr}{fs:List (Str×V)}{A:Around}{E:Y1}{m:Str}{g:Addr}{G:Sem Bool}{Q:Value×List Value->Shared->Prop}(I:Inv X Y N H s)(e:H a=some (.ins C J fs))(c:Cls X.K C)(k:Meth X.K C m g)(l:fs.lookup m=none)
 (h:Q (.ref g,[.ref a]) s):wpAny (model X.prog X.w) A (getMethod (.ref a) m G) Q E s:=by
 obtain⟨B,O,r,_,_,_⟩:=Mq I.Bq e;have T:B m=none:=Ou.none_of (by rw[<-l];exact r m);exact apx I.Ve O (c.get m) k.at_ k.fn T h
def ahk{X:Cx}{Y:Zp}{P:St}{H:Hp}{s:Shared}{a C T:Addr}{fs:List (Str×V)}{f:Str}{A:Around}{E:Y1}{y:V}{u:Value}{Q:Unit->Shared->Prop}(I:Inv X Y P H s)(e:H a=some (.ins C T fs))(c:Cls X.K C)(n:K8 X.K C f)(N:fs.length<1000)(D:RelV y u)
 (h:∀Z,Inv X Y P (upd H a (.ins C T (J5 f y fs))) Z->Q () Z):wpAny (model X.prog X.w) A (setAttr (.ref a) f u) Q E s:=by
 obtain⟨L,O,r,J,_,B⟩:=Mq I.Bq e;have W:(fs.map (·.1)).length<=sizeLine:=by rw[dm,t8];exact e_ (b_ N (by decide))
 refine awd I.Ve O c.sa c.po n.taker c.hd J W λj G M=>h _ ?_
 have R:∃o,j.get? T=some o:=let ⟨o,_,_,e',_⟩:=G.ns;⟨o,e'⟩;refine I.write (x:=a) (e:=T) (by rw[e];exact True.intro) (.inr B) (λb q S z=>(M.2 b S).trans z) R ?_;refine⟨by rw[o7 O.ne];exact B,?_,O.ne,G.obj,_,G.ns,λg=>?_,λg F=>?_⟩
 .have:=We f y fs;exact a_ this N
 .show Ou ((J5 f y fs).lookup g) (if g=f then some u else L g)
  rw[Wc]
  by_cases q:g=f
  .rw[dj q,dj q];exact D
  .rw[cj q,cj q];exact r g
 .by_cases q:g=f
  .rw[q];exact(Vh f y fs).1
  .refine(Vh f y fs).2 g (J g λz=>F ?_)
   show(if g=f then some u else L g)=none;rw[cj q];exact z
def Inv.made{X:Cx}{Y:Zp}{J:St}{H:Hp}{s:Shared}{C:Addr}(I:Inv X Y J H s):Inv X Y J (upd (upd H s.heap.objs.size (.own (s.heap.objs.size+1))) (s.heap.objs.size+1) (.ins C s.heap.objs.size []))
 { s with heap:=(s.heap.push PySem.W.emptyDict).push (PySem.W.instObj C s.heap.objs.size) }:=by
 have G:(s.heap.push PySem.W.emptyDict).get? s.heap.objs.size=some PySem.W.emptyDict:=cu s.heap rfl;have N:((s.heap.push PySem.W.emptyDict).push (PySem.W.instObj C s.heap.objs.size)).get? (s.heap.objs.size+1)=some (PySem.W.instObj C s.heap.objs.size):=by
  have:=cu (s.heap.push PySem.W.emptyDict) (o:=PySem.W.instObj C s.heap.objs.size) rfl
  rwa [j7]at this
 have O:(s.heap.push PySem.W.emptyDict).Ns s.heap.objs.size (λ_=>none):=⟨PySem.W.emptyDict,#[],_,G,rfl,(λe B=>absurd B (by simp)),λ_=>rfl⟩;have I1:=I.laid (a:=s.heap.objs.size) (o:=.own (s.heap.objs.size+1)) (h':=s.heap.push PySem.W.emptyDict) (t':=s.toks) (λb u q=>au _ q) (bz _) ⟨_,G⟩;refine I1.laid (a:=s.heap.objs.size+1) (o:=.ins C s.heap.objs.size []) (t':=s.toks) (λb u q=>au _ q) (Nat.le_of_eq (j7 _ _)) ?_;have T:s.heap.objs.size≠s.heap.objs.size+1:=gh (j4 _);refine⟨by rw[o7 T,yg],jd _,T,N,λ_=>none,(Heap.Ns1.of_empty O).at λo q=>au _ q,λ_=>True.intro,λy L=>absurd rfl L⟩
def awe{A:Around}{E:Y1}{prog:Program}{w:World}{Y:Env}{e:Expr}{f:Str}{pos:Pos}{s:Shared}{Q:Y1}(T:attributeBase e f Y (eval e Y)=eval e Y)
 (h:wpAny (model prog w) A (eval e Y) (λo Z=>wpAny (model prog w) A (getAttr o f true) Q E Z) E s):wpAny (model prog w) A (eval (.Attribute e f pos) Y) Q E s:=
 Attribute_any_ h (by rw[arm_eval_Attribute,T])
def bf9(K:Fg)(G:TE)(f:Str):TE:=λT H Q=>G T H λx Y=>∃a C J fs v,x=.ref a/\Y a=some (.ins C J fs)/\Cls K C/\K8 K C f/\fs.lookup f=some v/\Q v Y
def bga(K:Fg)(O J:TE)(f:Str):TS:=λD Y H=>J Y H λy B=>O Y B λx G=>∃a C T fs,x=.ref a/\G a=some (.ins C T fs)/\Cls K C/\K8 K C f/\fs.length<1000 /\
 D.nx Y (upd G a (.ins C T (J5 f y fs)))
def a3k{X:Cx}{e:Expr}{f:Str}{pos:Pos}{T:TE}(J:PE X e T)(G:attributeBase e f X.env (eval e X.env)=eval e X.env):PE X (.Attribute e f pos) (bf9 X.K T f):=by intro Y s E H Q I h;refine awe G (Qu (J Y s E H _ I h) λu S x N I1 O z_=>?_);obtain⟨a,C,V,fs,v,B,L,c,n,l,q⟩:=z_;subst B;obtain rfl:u=Value.ref a:=O;exact ahi I1 L c n l λW R I2 P=>⟨v,N,I2,P,q⟩
def a3l{X:Cx}{o Y:Expr}{f:Str}{pos G:Pos}{O B:TE}(R:PE X o O)(A:PE X Y B)(V:swapsWith Y (some (.Attribute o f G)) pos.line X.env=pure false):PS X (.Assign [.Attribute o f G] Y pos) (bga X.K O B f):=by intro T s J H D I h;refine plainObj_wpAny_Assign_Attribute (Qu (A T s J H _ I h) λu L y E I1 Q q=>Qu (R T L J E _ I1 q) λW j x z I2 F z_=>?_) V;obtain⟨a,C,d,fs,N,M,c,n,l,P⟩:=z_;subst N;obtain rfl:W=Value.ref a:=F;exact ahk I2 M c n l Q λg S=>⟨J,_,S,P⟩
inductive Wt(K:Fg)(H:Hp):V->Value->Prop where
 |non:Wt K H .non (.type "NoneType")
 |bl (x:Bool):Wt K H (.bl x) (.type "bool")
 |int (i:Int):Wt K H (.int i) (.type "int")
 |str (x:Str):Wt K H (.str x) (.type "str")
 |flt (x:UInt64):Wt K H (.flt x) (.type "float")
 |lst {a:Addr} {xs:List V} (e:H a=some (.lst xs)):Wt K H (.ref a) (.type "list")
 |Qt {a:Addr} {o:Obj} {xs:List V} (e:H a=some (.Qt o (.lst xs))):Wt K H (.ref a) (.type "list")
 |tup {a:Addr} {xs:List V} (e:H a=some (.tup xs)):Wt K H (.ref a) (.type "tuple")
 |dK {a:Addr} {je:List (Key×V)} (e:H a=some (.dK je)):Wt K H (.ref a) (.type "dict")
 |dT {a:Addr} {je:List (List Key×V)} (e:H a=some (.dT je)):Wt K H (.ref a) (.type "dict")
 |ins {a C dx:Addr} {fs:List (Str×V)} (e:H a=some (.ins C dx fs)) (cl:Cls K C) (ha:PySem.W.findIn K (.ref C) "__class__"= some (some (.builtin "object.__class__")))
  (hn:PySem.W.specialIn K (.builtin "object.__class__") "__get__"= some (some (.builtin "getset_descriptor.__get__"))) (htk:PySem.W.takesIn K (.builtin "object.__class__")=some true)
  (hm:PySem.W.mroIn K C (.type "object")=some true):Wt K H (.ref a) (.ref C)
def Vi{X:Cx}{N:Zp}{R:St}{H:Hp}{s:Shared}{A:Around}{E Q:Y1}{c:Value}{b:Bool}{x:V}{u t:Value}(I:Inv X N R H s)(Y:RelV x u)(S:Wt X.K H x t)(e:PySem.W.kitOne X.K t c=some b)(h:∀Z,Q (.bool b) { s with toks:=Z }) :
 wpAny (model X.prog X.w) A (call (.builtin "isinstance") [u,c]) Q E s:=by
 cases S with
 |non=>cases(show u=Value.none from Y);exact um PySem.W.kitx_none I.Ve True.intro e (λz=>nomatch z) h
 |bl y=>cases(show u=Value.bool y from Y);exact um PySem.W.kitx_bool I.Ve True.intro e (λz=>nomatch z) h
 |int i=>obtain⟨t,q⟩:=(show ∃t,u=Value.int i t from Y);cases q;exact um PySem.W.kitx_int I.Ve True.intro e (λz=>nomatch z) h
 |str y=>obtain⟨t,q⟩:=(show ∃t,u=Value.str y t from Y);cases q;exact um PySem.W.kitx_str I.Ve True.intro e (λz=>nomatch z) h
 |flt y=>obtain⟨t,q⟩:=(show ∃t,u=Value.float y t from Y);cases q;exact um PySem.W.kitx_float I.Ve True.intro e (λz=>nomatch z) h
 |@lst a G ea =>
  cases(show u=Value.ref a from Y);obtain⟨_,_,n,_,T⟩:=(show Bt X.prog X.w H s.heap a (.lst G)from I.Bq a _ ea);exact um PySem.W.kitx_list I.Ve ⟨_,T,rfl⟩ e (λz=>nomatch z) h
 |@Qt a ob G ea =>
  cases(show u=Value.ref a from Y);obtain⟨_,_,_,n,_,T⟩:=(show Bt X.prog X.w H s.heap a (.Qt ob (.lst G))from I.Bq a _ ea);exact um PySem.W.kitx_list I.Ve ⟨_,T,rfl⟩ e (λz=>nomatch z) h
 |@tup a G ea =>
  cases(show u=Value.ref a from Y);obtain⟨_,_,_,p⟩:=(show Bt X.prog X.w H s.heap a (.tup G)from I.Bq a _ ea);obtain⟨o,T,B,_⟩:=p;exact um PySem.W.kitx_tuple I.Ve ⟨o,T,B⟩ e (λz=>nomatch z) h
 |@dK a je ea =>
  cases(show u=Value.ref a from Y);obtain⟨_,_,F,_,p⟩:=(show Bt X.prog X.w H s.heap a (.dK je)from I.Bq a _ ea);obtain⟨o,P,L,T,B,_⟩:=p;exact um PySem.W.kitx_dict I.Ve ⟨o,T,B.1⟩ e (λz=>nomatch z) h
 |@dT a je ea =>
  cases(show u=Value.ref a from Y);obtain⟨_,_,G,_,o,P,L,T,B,_⟩:=(show Bt X.prog X.w H s.heap a (.dT je)from I.Bq a _ ea);exact um PySem.W.kitx_dict I.Ve ⟨o,T,B.1⟩ e (λz=>nomatch z) h
 |@ins a C dx fs ea cl ha hn htk hm =>
  cases(show u=Value.ref a from Y);obtain⟨M,O,_⟩:=Mq I.Bq ea;obtain⟨D,J,_⟩:=O.look;exact um (PySem.W.kitx_own (cl.get _) cl.hd ha hn htk hm) I.Ve J e (λz=>nomatch z) h
end L2
namespace L2
open PySem PySem.Spec PyProof.Rows
structure Bj(k:Nat)(A:Around):Prop where
 hd:A.handled=none
 dp:A.depth+3*k+5<recursionLimit
 un:A.units+16*k+200<cLine
def Bj.mono{j k:Nat}{A:Around}(r:Bj k A)(h:j<=k):Bj j A:=⟨r.hd,by have:=r.dp;lia,by have:=r.un;lia⟩
theorem Bj.deeper{k:Nat}{A:Around}(r:Bj (k+1) A)(Y:Env):Bj k (A.deeper Y):=
 ⟨r.hd,by have:=r.dp;show A.depth+1+3*k+5<_;lia,by have:=r.un;show A.units+3+16*k+200<_;lia⟩
theorem Bj.in1{k:Nat}{A:Around}(r:Bj (k+1) A):Bj k A.in1:=
 ⟨r.hd,by have:=r.dp;show A.depth+3*k+5<_;lia,by have:=r.un;show A.units+1+16*k+200<_;lia⟩
def ahl{A:Around}{C:Addr}{T:Zl}{Y:List (Str×Value)}:(A.under (.builtin "type.__call__" ⟨.ref C::T,Y⟩)).depth=A.depth+1:=by first|rfl|simp[Around.under,Code.weight,Code.isCreation,Code.isGuard,Code.isCaller,Code.frames,Code.isFrame,guardIds]
def ahm{A:Around}{C:Addr}{T:Zl}{Y:List (Str×Value)}:(A.under (.builtin "type.__call__" ⟨.ref C::T,Y⟩)).units=A.units+1:=by first|rfl|simp[Around.under,Code.cUnits,Code.frames,Code.isFrame]
def Bj.make{k:Nat}{A:Around}(r:Bj (k+1) A)(C:Addr)(T:Zl)(Y:List (Str×Value)):Bj k (A.under (.builtin "type.__call__" ⟨.ref C::T,Y⟩)):=
 ⟨r.hd,by have:=r.dp;rw[ahl];lia,by have:=r.un;rw[ahm];lia⟩
theorem Bj.depth{k:Nat}{A:Around}(r:Bj k A):A.depth<recursionLimit:=by have:=r.dp;lia
theorem Bj.units{k:Nat}{A:Around}(r:Bj k A):A.units+64<cLine:=by have:=r.un;lia
def Bj.Ye{k:Nat}{A:Around}(r:Bj k A):A.units<cLine:=by have:=r.un;lia
def a9x:TA:=λ_ H Q=>Q [] H
def a9y(J:TE)(tr:TA):TA:=λY H Q=>J Y H λx T=>tr Y T λB G=>Q (x::B) G
def a3m{X:Cx}:PA X [] a9x:=λ_ _ _ _ H Q I h=>uh ⟨[],H,I,.nil,h⟩
def awf{X:Cx}{e:Expr}{T:Ya}{G:TE}{t:TA}(B:PE X e G)(V:PA X T t)(C:starEach (e::T) X.env=(false,eval e X.env)::starEach T X.env:=by rfl):PA X (e::T) (a9y G t):=by intro pos Y s J H Q I h;rw[C];show wpAny _ _ (spliced ((false,eval e X.env)::backTo pos (starEach T X.env))) _ _ s;refine mq (Qu (B Y s J H _ I h) λu E x P I1 N W=>?_);exact thA (V pos Y E J P _ I1 W) λF K L R I2 S O=>⟨x::L,R,I2,.cons N S,O⟩
def bgb(t:TA):TE:=λG H Q=>t G H λT Y=>T.length<=sizeLine/\∀p,Y p=none->Q (.ref p) (upd Y p (.tup T))
def bgc(t:TA):TE:=λG H Q=>t G H λT Y=>T.length<=sizeLine/\∀p,Y p=none->Q (.ref p) (upd Y p (.lst T))
def a3n{X:Cx}{G:Ya}{t:TA}{pos:Pos}{N}(h:PA X G t):PE X (.Tuple G N pos) (bgb t):=by intro Y s C H Q I O;refine wpAny_Tuple_spliced (Lb (h pos Y s C H _ I O) λB T ⟨xs,H1,I1,r,z,q⟩=>⟨by rw[<-r.length];exact z,?_⟩);have J:H1 T.heap.objs.size=none:=I1.Bq.fresh (bz _);refine⟨.ref T.heap.objs.size,upd H1 T.heap.objs.size (.tup xs),I1.laid (t':=T.toks) (λb u e=>au _ e) (bz _) ?_,rfl,q _ J⟩;exact⟨z,B,r,Yc.new _ _⟩
def apz{X:Cx}{G:Ya}{t:TA}{pos:Pos}(h:PA X G t):PE X (.List G pos) (bgc t):=by intro Y s C H Q I O;refine wpAny_List_spliced (Lb (h pos Y s C H _ I O) λB T ⟨xs,H1,I1,r,z,q⟩=>⟨by rw[<-r.length];exact z,?_⟩);have J:H1 T.heap.objs.size=none:=I1.Bq.fresh (bz _);refine⟨.ref T.heap.objs.size,upd H1 T.heap.objs.size (.lst xs),I1.laid (t':=T.toks) (λb u e=>au _ e) (bz _) ?_,rfl,q _ J⟩;exact⟨z,B,0,r,cu _ rfl⟩
abbrev Sp:=List V->Hp->VK->XK->Prop
abbrev CXT:=List Env->Hp->Shared->XK->Value->Shared->Prop
structure ahn(P:Program)(w:World)(K:Fg)(mg:Zs)(base:Heap)(A:Around)(outer:List Env)(s:Shared)(H:Hp):Prop where
 frames:A.frames=some outer
 mod:Mod K mg base
 bs:∀b o,base.get? b=some o->s.heap.get? b=some o/\H b=none
 bsz:base.objs.size<=s.heap.objs.size
 Wr:s.heap.FunFrames base outer
 frf:∀b∈frs outer,H b=none
 Bq:Ru P w H s.heap
 bare:AllBare s.gens
def CE(Y:List Env)(P:Program)(w:World)(H:Hp)(s:Shared)(Q:VK)(u:Value)(T:Shared):Prop:=
 ∃v G,T.os=s.os/\AllBare T.gens/\Un (frs Y) [] H G s.heap T.heap/\Ru P w G T.heap/\RelV v u/\Q v G
def CR(G:CXT)(Y:List Env)(P:Program)(w:World)(H:Hp)(s:Shared)(Q:VK)(E:XK)(r:Result)(T:Shared):Prop:=
 match r with
 |.ok (.ret u)=>CE Y P w H s Q u T|.ok _=>False|.error e=>G Y H s E e T
structure Hs(P:Program)(w:World)(K:Fg)(mg:Zs)(base:Heap)(CX:CXT)(k:Nat)(f:Addr)(fd:FuncData)(ps:Yf)(sp:Sp):Prop where
 len:∀vs H Q E,sp vs H Q E->vs.length=ps.length
 run:∀(A:Around)(outer:List Env)(s:Shared)(H:Hp)(args:Args)(us:Zl)(vs:List V)(Q:VK)(E:XK),Bj k A->ahn P w K mg base A outer s H->BindsTo s fd args (ps.zip us)->Vals vs us->sp vs H Q E ->
  codeAny (model P w) A (.call (.ref f) args) (CR CX outer P w H s Q E) s
def Hs.imp{P:Program}{w:World}{K:Fg}{mg:Zs}{Y:Heap}{B:CXT}{k:Nat}{f:Addr}{fd:FuncData}{J:Yf}{O sp':Sp}(F:Hs P w K mg Y B k f fd J O)
 (h:∀Z H Q E,sp' Z H Q E->O Z H Q E):Hs P w K mg Y B k f fd J sp':=
 ⟨λZ H Q E q=>F.len Z H Q E (h _ _ _ _ q),λA T s H G L Z Q E S R C V N=>F.run A T s H G L Z Q E S R C V (h _ _ _ _ N)⟩
def ahn.make{P:Program}{w:World}{K:Fg}{mg:Zs}{T:Heap}{A:Around}{Y:List Env}{s:Shared}{H:Hp}(e:ahn P w K mg T A Y s H)(C:Addr)(G:Zl)(J:List (Str×Value)) :
 ahn P w K mg T (A.under (.builtin "type.__call__" ⟨.ref C::G,J⟩)) Y s H:=⟨by first|exact e.frames|(simpa[Around.under,Code.envs,Code.isFrame,pushEnvs]using e.frames),e.mod,e.bs,e.bsz,e.Wr,e.frf,e.Bq,e.bare⟩
def Inv.env0{X:Cx}{Y:Zp}{T:St}{H:Hp}{s:Shared}(I:Inv X Y T H s):ahn X.prog X.w X.K X.mg X.base X.A X.stack s H:=
 ⟨I.ok.frames,I.ok.mod,I.bs,gf I.ok.bsz I.sz,I.stack,I.ai4,I.Bq,I.bare⟩
def Inv.after{X:Cx}{Y:Zp}{J:St}{H:Hp}{s s':Shared}{Q:VK}{u:Value}(I:Inv X Y J H s)(h:CE X.stack X.prog X.w H s Q u s'):EP X Y J Q u s':=by obtain⟨v,O,os,T,un,B,r,q⟩:=h;obtain⟨C,g,d,t,G⟩:=s';obtain rfl:G=s.os:=os;exact⟨v,O,I.call (h':=C) (g':=g) (d':=d) (t':=t) (ch:=[]) un B T (λb z=>absurd z (by simp)),r,q⟩
def a9z(G:Sp)(T:List V)(E:XK)(t:TA):TE:=λB H Q=>t B H λY J=>G (Y++T) J Q E
def a90(C:Addr)(m:Str)(B:Sp)(J:List V)(E:XK)(L:TE)(t:TA):TE:=λT H Q=>L T H λx Y=>∃a O fs,x=.ref a/\Y a=some (.ins C O fs)/\fs.lookup m=none /\
 t T Y λG N=>B (x::(G++J)) N Q E
def a91(C:Addr)(B:Sp)(J:List V)(E:XK)(t:TA):TE:=λN H Q=>t N H λG T=>∀x Y,T x=none->T Y=none->Y≠x ->
 B (.ref x::(G++J)) (upd (upd T Y (.own x)) x (.ins C Y [])) (λv O=>v=.non/\Q (.ref x) O) E
def Binds(K:Fg)(fd:FuncData)(T:Yf)(G:Zl):Prop:=
 ∀(s:Shared)(Y:Zl),K.In s.heap->(Y++G).length=T.length->BindsTo s fd ⟨Y,[]⟩ (T.zip (Y++G))
def Binds.all{K:Fg}{fd:FuncData}{Y:Yf}(h:∀Z:List Value,Z.length=Y.length->bindArgs fd ⟨Z,[]⟩=pure (Y.zip Z)):Binds K fd Y []:=λs Z _ T=>by rw[Be]at T⊢;exact .of_eq (h Z T)
def Passes(J:CXT)(X:Cx)(E:XK):Prop:=∀(Y:Zp)(G:St)(H:Hp)(s:Shared)(e:Value)(T:Shared),Inv X Y G H s->J X.stack H s E e T->X.xe e T
def ap0{X:Cx}{C:CXT}{k:Nat}{f:Addr}{fd:FuncData}{B:Yf}{N:Sp}{J:List V}{G:Zl}{E:XK}{Y:Zp}{O:St}{H:Hp}{s:Shared}{Q:VK}{us:Zl}{vs:List V}(F:Hs X.prog X.w X.K X.mg X.base C k f fd B N)(W:Bj k X.A)(P:Binds X.K fd B G)(Z:Vals J G)(R:Passes C X E)
 (I:Inv X Y O H s) (r:Vals vs us) (h:N (vs++J) H Q E):wpAny (model X.prog X.w) X.A (call (.ref f) us) (EP X Y O Q) X.xe s:=by
 have L:Vals (vs++J) (us++G):=r.append Z;have M:(us++G).length=B.length:=by rw[<-L.length];exact F.len _ _ _ _ h
 refine wpAny_call (yc (F.run X.A X.stack s H ⟨us,[]⟩ (us++G) (vs++J) Q E W I.env0 (P s us I.Ve M) L h) λr S T=>?_);cases r with
 |error e=>exact R Y O H s e S I T
 |ok D =>
  cases D with
  |ret u=>exact I.after T|next=>exact False.elim T|brk=>exact False.elim T|cont=>exact False.elim T
def awg{X:Cx}{O:CXT}{k:Nat}{f:Addr}{fd:FuncData}{G:Yf}{B:Sp}{C:List V}{J:Zl}{E:XK}{x:Str}{p pos:Pos}{e:Expr}{T:Ya}{t:TA}(F:Hs X.prog X.w X.K X.mg X.base O k f fd G B)(u:Bj k X.A)(M:Gl X x)(L:X.mg x=some (.ref f))(S:PySem.W.keepIn X.K (.ref f)=true)(N:Binds X.K fd G J)(R:Vals C J)(D:Passes O X E)
 (y:PA X (e::T) t) (g:(x==("__debug__": Str))=false:=by decide) (P:starEach (e::T) X.env=(false,eval e X.env)::starEach T X.env:=by rfl) (z:(backTo pos (starEach T X.env)).any (·.1)=false:=by rfl) :
 PE X (.Call (.Name x p) (e::T) [] pos) (a9z B C E t):=by
 intro Y s j H Q I h;refine jm (acb I M L ?_ g);refine PySem.W.callWith_K (h₀:=X.base) I.ok.mod.kin S (thA (y pos Y s j H _ I h) λv l d c I1 r q=>⟨I1.Ve,?_⟩) P z;exact ap0 F u N R D I1 r q
def ap1{X:Cx}{L:CXT}{k:Nat}{f C:Addr}{fd:FuncData}{G:Yf}{N:Sp}{P:List V}{B:Zl}{E:XK}{m:Str}{pos Y:Pos}{o:Expr}{O:TE}{pl:Sem Bool}(S:PE X o O)(c:Cls X.K C)(J:Meth X.K C m f)(F:Hs X.prog X.w X.K X.mg X.base L k f fd G N)(y:Bj k X.A)(R:Binds X.K fd G B)(D:Vals P B)(z:Passes L X E)
 (g:eval (.Call (.Attribute o m Y) [] [] pos) X.env=(do
  let Z<-eval o X.env
  standAt Y.atName
  let (f,first) <-holding [Z] (getMethod Z m pl)
  callWith pos f first (backTo pos (starEach [] X.env)) (backToKw pos (keywordEach [] X.env))):=by rfl) :
 PE X (.Call (.Attribute o m Y) [] [] pos) (a90 C m N P E O a9x):=by
 intro T s j H Q I h;refine PySem.W.methodCall_KW (pl:=pl) (Qu (S T s j H _ I h) λu v x p I1 d z_=>?_) g;obtain⟨a,t,fs,M,r,l,q⟩:=z_;subst M;obtain rfl:u=Value.ref a:=d;refine ahj I1 r c J l ?_;exact PySem.W.callWith_K0 (first:=[.ref a]) I1.Ve J.kp (ap0 (us:=[.ref a]) (vs:=[.ref a]) F y R D z I1 (.cons rfl .nil) q)
structure Mk(K:Fg)(C f:Addr):Prop where
 makes:PySem.W.makesIn K C=true
 init:PySem.W.findIn K (.ref C) "__init__"= some (some (.ref f))
 fn:PySem.W.isFn K (.ref f)=true
 kp:PySem.W.keepIn K (.ref C)=true
def ap3{X:Cx}{W:CXT}{k:Nat}{f C:Addr}{fd:FuncData}{B:Yf}{P:Sp}{L:List V}{J:Zl}{E:XK}{Y:Zp}{N:St}{H:Hp}{s:Shared}{Q:VK}{G:Zl}{O:List V}(M:Mk X.K C f)(F:Hs X.prog X.w X.K X.mg X.base W k f fd B P)(hr:Bj (k+1) X.A)(D:Binds X.K fd B J)(hd:Vals L J)
 (hx:Passes W X E) (I:Inv X Y N H s) (r:Vals O G)
 (h:∀x Z,H x=none->H Z=none->Z≠x->P (.ref x::(O++L)) (upd (upd H Z (.own x)) x (.ins C Z [])) (λv H2=>v=.non/\Q (.ref x) H2) E) :
 wpAny (model X.prog X.w) X.A (call (.ref C) G) (EP X Y N Q) X.xe s:=by
 have R:=h (s.heap.objs.size+1) s.heap.objs.size (I.Bq.fresh (vd _)) (I.Bq.fresh (bz _)) (gh (j4 _));have I2:=Inv.made (C:=C) I;have S:Vals (V.ref (s.heap.objs.size+1)::(O++L)) (Value.ref (s.heap.objs.size+1)::(G++J)):=.cons rfl (r.append hd);have hl:(Value.ref (s.heap.objs.size+1)::G++J).length=B.length:=by have e:=S.length;rw[F.len _ _ _ _ R]at e;exact e.symm
 refine wpAny_call (apy (f:=f) I.Ve M.makes M.init (beq_iff_eq.mp M.fn) (yc (F.run _ X.stack _ _ ⟨Value.ref (s.heap.objs.size+1)::G,[]⟩ (Value.ref (s.heap.objs.size+1)::(G++J)) _ _ E (hr.make C G [])
  (I2.env0.make C G []) (D _ (Value.ref (s.heap.objs.size+1)::G) I2.Ve hl) S R) λr s' T=>?_))
 cases r with
 |error e=>exact hx Y N _ _ e s' I2 T
 |ok fl =>
  cases fl with
  |ret u =>
   obtain⟨v,H',I3,rv,ev,U⟩:=I2.after T;subst ev;exact⟨rv,⟨V.ref (s.heap.objs.size+1),H',I3,rfl,U⟩⟩
  |next=>exact False.elim T|brk=>exact False.elim T|cont=>exact False.elim T
def awh{X:Cx}{O:CXT}{k:Nat}{f C:Addr}{fd:FuncData}{G:Yf}{B:Sp}{N:List V}{J:Zl}{E:XK}{x:Str}{p pos:Pos}{e:Expr}{T:Ya}{t:TA}(M:Mk X.K C f)(F:Hs X.prog X.w X.K X.mg X.base O k f fd G B)(g:Bj (k+1) X.A)(D:Gl X x)(P:X.mg x=some (.ref C))(L:Binds X.K fd G J)(S:Vals N J)(z:Passes O X E)
 (u:PA X (e::T) t) (j:(x==("__debug__": Str))=false:=by decide) (R:starEach (e::T) X.env=(false,eval e X.env)::starEach T X.env:=by rfl) (y:(backTo pos (starEach T X.env)).any (·.1)=false:=by rfl) :
 PE X (.Call (.Name x p) (e::T) [] pos) (a91 C B N E t):=by
 intro Y s l H Q I h;refine jm (acb I D P ?_ j);refine PySem.W.callWith_K (h₀:=X.base) I.ok.mod.kin M.kp (thA (u pos Y s l H _ I h) λm c v d I1 r q=>⟨I1.Ve,?_⟩) R y;exact ap3 M F g L S z I1 r q
structure W7(N P:Yf)(sc:Scope):Prop where
 kind:sc.kind=.function
 co:sc.isCoroutine=false
 gen:sc.isGenerator=false
 nd:N.Nodup
 pre:N.take P.length=P
 par:∀x∈P,sc.names.lookup x=some .local\/sc.names.lookup x=some .cell
 a3o:∀y∈sc.names,y.2≠.free
theorem aal{Y:Str->Option NameKind}{x:Str}:∀{binds:List (Str×Value)}{m:Zs},(∀v,(x,v)∉binds)->bindL Y binds m x=m x
 |[],_,_=>rfl
 |(n,v)::r,m,h=>by
  unfold bindL;rw[aal λw T=>h w (bw _ T)];split
  .have:x≠n:=by rintro rfl;exact h v fc
   simp[this]
  .rfl
theorem aam{Y:Str->Option NameKind}{x:Str}:∀{binds:List (Str×Value)}{m:Zs},(∀v,(x,v)∉binds)->bindC Y binds m x=m x
 |[],_,_=>rfl
 |(n,v)::r,m,h=>by
  unfold bindC;rw[aam λw T=>h w (bw _ T)];split
  .rfl
  .have:x≠n:=by rintro rfl;exact h v fc
   simp[this]
theorem aan{Y:Str->Option NameKind}{x:Str}{v:Value}:∀{P:Yf}{T:Zl}{i:Nat}{m:Zs},P.Nodup->P[i]?=some x->T[i]?=some v->Y x=some .local ->
 bindL Y (P.zip T) m x=some v
 |[],_,_,_,_,h,_,_=>by simp at h|_::_,[],_,_,_,_,h,_=>by simp at h
 |p::P,w::T,0,m,nd,h1,h2,hk=>by
  simp at h1 h2;subst h1;subst h2;show bindL Y ((p,w)::P.zip T) m p=_;unfold bindL;rw[aal λv G=>(uf.mp nd).1 (Bf G).1,dj hk];simp
 |p::P,w::T,i+1,m,nd,h1,h2,hk=>by
  show bindL Y ((p,w)::P.zip T) m x=_;unfold bindL;exact aan (i:=i) (uf.mp nd).2 (by simpa using h1) (by simpa using h2) hk
theorem aao{Y:Str->Option NameKind}{x:Str}{v:Value}:∀{P:Yf}{T:Zl}{i:Nat}{m:Zs},P.Nodup->P[i]?=some x->T[i]?=some v->Y x≠some .local ->
 bindC Y (P.zip T) m x=some v
 |[],_,_,_,_,h,_,_=>by simp at h|_::_,[],_,_,_,_,h,_=>by simp at h
 |p::P,w::T,0,m,nd,h1,h2,hk=>by
  simp at h1 h2;subst h1;subst h2;show bindC Y ((p,w)::P.zip T) m p=_;unfold bindC;rw[aam λv G=>(uf.mp nd).1 (Bf G).1,cj hk];simp
 |p::P,w::T,i+1,m,nd,h1,h2,hk=>by
  show bindC Y ((p,w)::P.zip T) m x=_;unfold bindC;exact aao (i:=i) (uf.mp nd).2 (by simpa using h1) (by simpa using h2) hk
noncomputable def start(N:Yf)(Y:List V):St:=Y.map some++List.replicate (N.length-Y.length) none
noncomputable def aho(B:CXT)(P:Program)(w:World)(K:Fg)(mg:Zs)(base:Heap)(N:Yf)(T:Str)(Y:Scope)(f:Addr)(J:Value)(A:Around)(outer:List Env)(s:Shared)(H:Hp)(E:XK):Cx where
 prog:=P
 w:=w
 K:=K
 mg:=mg
 base:=base
 A:=A.deeper (envOfC T Y s.heap.objs.size f J)
 N:=N
 s₀:=s
 H₀:=H
 env:=envOfC T Y s.heap.objs.size f J
 outer:=outer
 stack:=envOfC T Y s.heap.objs.size f J::outer
 ex:=[]
 calm:=true
 fn:=λ_=>true
 pn:=[]
 xe:=λe O=>wpAny (model P w) (A.deeper (envOfC T Y s.heap.objs.size f J)) (leaving (envOfC T Y s.heap.objs.size f J) e) (λ_ G=>B outer H s E e G) (λC G=>B outer H s E C G) O
def aex{Y:Scope}{n:Nat}{x:Str}(h:Y.names.lookup x=some .cell):∃c,(cellsFrom n Y.names []).lookup x=some c:=by have q:=PySem.W.cellsFrom_some Y.names n [] (.inl h);exact qp.mp q
def alp{CX:CXT}{P:Program}{w:World}{K:Fg}{mg:Zs}{B:Heap}{N C:Yf}{G:Str}{Y:Scope}{f:Addr}{I:Value}{A:Around}{T:List Env}{s s1:Shared}{H:Hp}{E:XK}{X:Zl}{L:List V}
 (S:W7 N C Y) (hd:A.handled=none) (O:ahn P w K mg B A T s H) (hl:L.length=C.length) (r:Vals L X)
 (x:InCallC s s.heap.objs.size (bindL (envOfC G Y s.heap.objs.size f I).kindOf (C.zip X) λ_=>none) (cellsFrom (s.heap.objs.size+1) Y.names []) (bindC (envOfC G Y s.heap.objs.size f I).kindOf (C.zip X) λ_=>none) s1) :
 Inv (aho CX P w K mg B N G Y f I A T s H E) [] (start N L) H s1:=by
 have J6:C.length<=N.length:=by have:=qt List.length S.pre;rw[List.length_take]at this;lia
 obtain⟨D,tk,rfl,Z⟩:=x.done;have Q:∀b:Addr,b∉(aho CX P w K mg B N G Y f I A T s H E).ex:=λb z=>absurd (show b∈([]:X9)from z) (by simp)
 refine⟨⟨O.mod,S.kind,rfl,rfl,bz _,λy z c D J=>?_,λy R=>?_,λy c _ h=>?_,λ_=>hd,Around.frames_deeper O.frames,.inr ⟨rfl,rfl⟩,λb z=>absurd z (Q b),O.bs,O.bsz,λb _ _=>Q b,λb z=>absurd z (Q b),O.Wr,O.frf⟩,
  rfl,O.bare,Un.kept Z,⟨_,x.toInCall.ns,λi y v D J h3=>?_⟩,λy c h=>⟨_,x.cell y c h⟩,O.Bq.fresh (bz _),λy c h=>?_,λp M=>absurd (show p∈([]:Zp)from M) (by simp),O.Bq.kept Z,?_⟩
 .exact name_of_addr x.apart (Aj D) (Aj J)
 .have R:Y.names.lookup y=some .cell\/Y.names.lookup y=some .free:=R
  rcases R with R|R
  .exact aex R
  .exact absurd rfl (S.a3o _ (Aj R))
 .exact yq (x.above y c (Aj h))
 .have W:i<L.length:=by
   unfold start at J
   by_cases W:i<L.length
   .exact W
   .rw[ji (by simpa using W)]at J
    rw[List.getElem?_replicate]at J;split at J<;>cases J
  have ha:L[i]?=some v:=by
   unfold start at J;rw[gn (by simpa using W),ig]at J;cases e:L[i]? with
   |none=>rw[e]at J;cases J|some a=>rw[e]at J;cases J;rfl
  obtain⟨u,U,rv⟩:=r.get ha;have M:C[i]?=some y:=by rw[<-S.pre,List.getElem?_take_of_lt (b_ W (f_ hl))];exact D
  have F:C.Nodup:=by rw[<-S.pre];exact S.nd.sublist (List.take_sublist _ _)
  refine⟨u,rv,?_⟩;rcases S.par y (bh M)with k|k
  .exact .inl ⟨k,aan F M U k⟩
  .obtain⟨c,e⟩:=aex (n:=s.heap.objs.size+1) k
   refine .inr ⟨.inl k,c,e,?_⟩;have q:=x.cell y c e;rw[aao F M U (by show Y.names.lookup y≠_;rw[k];decide)]at q;exact q
 .exact O.Bq.fresh (yq (x.above y c (Aj h)))
 .unfold start
  show _=N.length;rw[jc,dm,zj]
  lia
def a94{CX:CXT}{P:Program}{w:World}{K:Fg}{mg:Zs}{B:Heap}{k:Nat}{f:Addr}{R T:Str}{O:Arguments}{C:List Stmt}{Y:Scope}{dV kV X pm G ct oc:Value}{an od:Option Addr}
 {q1:Array (Option Value)} {N ps:Yf} {sp:Sp} (lk:K.lookup f=some ⟨oc,od,.func (PySem.W.fnOf R T O C Y dV kV X pm an G ct),q1⟩) (qk:PySem.W.codeIn K G T=true) (S:W7 N ps Y)
 (len:∀U H Q E,sp U H Q E->U.length=ps.length)
 (q0:∀(A:Around)(Z:List Env)(s:Shared)(H:Hp)(U:List V)(Q:VK)(E:XK),Bj k (A.deeper (envOfC T Y s.heap.objs.size f G))->sp U H Q E ->
  ∃t,Ud (aho CX P w K mg B N T Y f G A Z s H E) C t/\t { nx:=λ_ H'=>Q .non H',rt:=Q } (start N U) H) :
 Hs P w K mg B CX (k+1) f (PySem.W.fnOf R T O C Y dV kV X pm an G ct) ps sp:=by
 refine⟨len,λA Z s H q2 us U Q E hr M hb r D=>?_⟩;have hl:=len _ _ _ _ D;have KX:K.In s.heap:=M.mod.kin.keeps λb o e=>(M.bs b o e).1
 have qq:s.heap.NoLimit:=M.mod.nolimit.keeps λb o e=>(M.bs b o e).1
 have qv:∀y∈ps.zip us,Y.names.lookup y.1=some .local\/(Y.names.lookup y.1=some .cell/\((cellsFrom (s.heap.objs.size+1) Y.names []).lookup y.1).isSome=true):=λ⟨n,v⟩ hy=>by
  rcases S.par n (Bf hy).1 with q|q
  .exact .inl q
  .exact .inr ⟨q,PySem.W.cellsFrom_some _ _ _ (.inl q)⟩
 refine codeAny_call_function hr.depth (KX _ _ lk) rfl S.co S.gen rfl (PySem.W.codeRec_of KX qk) (hb _ _ _ _ ?_);refine wpAny_newFunctionEnv_cells S.kind qv λq3 he s1 x=>?_
 subst he;refine⟨qq.keeps x.toInCall.keep,codeAny_func ?_⟩;obtain⟨t,ht,hq⟩:=q0 A Z s H U Q E (hr.deeper _) D;have I:Inv (aho CX P w K mg B N T Y f G A Z s H E) [] (start N U) H s1:=alp S hr.hd M hl r x;refine j9 (ht [] s1 (start N U) H _ I hq) (λfl s' F=>?_) λe s' F=>F
 have fin:∀{L:St}{H':Hp}{v:V}{u:Value},Inv (aho CX P w K mg B N T Y f G A Z s H E) [] L H' s'->RelV v u->Q v H'->CE Z P w H s Q u s':=
  fun{L H' v u} J rv q=>⟨v,H',J.os,J.bare,J.base,J.Bq,rv,q⟩
 cases fl with
 |ret u =>
  obtain⟨v,L,H',J,rv,q⟩:=F;exact fin J rv q
 |next =>
  obtain⟨L,H',J,q⟩:=F;exact fin (v:=V.non) (u:=Value.none) J rfl q
 |brk =>
  obtain⟨_,_,_,q⟩:=F;exact False.elim q
 |cont =>
  obtain⟨_,_,_,q⟩:=F;exact False.elim q
end L2
namespace L2
open PySem PySem.Spec PyProof.Rows
def tCB(r:List V->Hp->VK->Prop)(t:TA):TE:=λT H Q=>t T H λG Y=>r G Y Q
def ap5{X:Cx}{x:Str}{p pos:Pos}{e:Expr}{T:Ya}{t:TA}{id:String}{r:List V->Hp->VK->Prop}(K:Dh X (.builtin id) r)(F:Gl X x)(O:X.mg x=none)(A:bootBuiltins x=some (.builtin id))(J:PA X (e::T) t)(C:x≠"__name__":= by decide)(R:(x==("__debug__": Str))=false:=by decide)
 (P:starEach (e::T) X.env=(false,eval e X.env)::starEach T X.env:=by rfl) (E:(backTo pos (starEach T X.env)).any (·.1)=false:=by rfl):PE X (.Call (.Name x p) (e::T) [] pos) (tCB r t):=by
 intro Y s G H Q I h;refine jm (Dy I F O A ?_ C R);exact xq (thA (J pos Y s G H _ I h) λB S N W I1 L M=>K Y S G W N B Q I1 L M) P E
def alq{X:Cx}{x:Str}{p pos:Pos}{e:Expr}{G:Ya}{t:TA}{T:String}{r:List V->Hp->VK->Prop}(M:Dh X (.type T) r)(K:Gl X x)(C:X.mg x=none)(D:bootBuiltins x=some (.type T))(B:PA X (e::G) t)(N:x≠"__name__":= by decide)(S:(x==("__debug__": Str))=false:=by decide)
 (R:starEach (e::G) X.env=(false,eval e X.env)::starEach G X.env:=by rfl) (P:(backTo pos (starEach G X.env)).any (·.1)=false:=by rfl):PE X (.Call (.Name x p) (e::G) [] pos) (tCB r t):=by
 intro Y s J H Q I h;refine jm (Dy I K C D ?_ N S);exact jx (thA (B pos Y s J H _ I h) λO W L F I1 E A=>M Y W J F L O Q I1 E A) R P
section
variable{κ:Type}[DecidableEq κ]
noncomputable def S8(Y:List (κ×V))(k:κ):Option V:=(Y.find? λT=>decide (T.1=k)).map (·.2)
noncomputable def putK(T:List (κ×V))(k:κ)(v:V):List (κ×V):=
 if(T.any λY=>decide (Y.1=k))=true then T.map (λY=>if Y.1=k then(Y.1,v)else Y)else T++[(k,v)]
def Ue{p:κ×V}(e:p.1=k):S8 (p::r) k=some p.2:=by simp[S8,ud,e]
def Ug{p:κ×V}(e:¬p.1=k):S8 (p::r) k=S8 r k:=by simp[S8,ud,e]
theorem aey(k:κ):∀Z:List (κ×V),(Z.any λU=>decide (U.1=k))=(S8 Z k).isSome
 |[]=>rfl
 |p::r=>by
  rw[List.any_cons]
  by_cases e:p.1=k
  .simp only[Ue e,v8 e,Bool.true_or,Option.isSome_some]
  .rw[Ug e,kj e,Bool.false_or];exact aey k r
def Wf(Y:List (κ×V))(k:κ)(v:V):(putK Y k v).length<=Y.length+1:=by
 unfold putK;split
 .rw[dm];exact x_
 .rw[jc,iw,List.length_nil];exact bz _
def Ou.Mh(r:Ou o u):o.isSome=u.isSome:=by
 cases o with
 |none=>cases u with
  |none=>rfl|some _=>exact(show False from r).elim
 |some _=>cases u with
  |none=>exact(show False from r).elim
  |some _=>rfl
theorem Ou.getD(r:Ou o u)(Y:RelV d Z):RelV (o.getD d) (u.getD Z):=by
 cases o with
 |none=>cases u with
  |none=>exact Y|some _=>exact(show False from r).elim
 |some _=>cases u with
  |none=>exact(show False from r).elim
  |some _=>exact r
def KV.val(r:KV U Z)(k:κ):Ou (S8 U k) (valueAt Z k):=by
 unfold KV at r
 induction r with
 |nil=>exact True.intro
 |@cons p q ps qs h t ih =>
  obtain⟨T,G⟩:=h
  by_cases e:p.1=k
  .have Y:q.1=k:=T.symm.trans e
   have b:valueAt (q::qs) k=some q.2:=by simp[valueAt,ud,Y]
   rw[Ue e,b];exact G
  .have Y:¬q.1=k:=λz=>e (T.trans z)
   have b:valueAt (q::qs) k=valueAt qs k:=by simp[valueAt,ud,Y]
   rw[Ug e,b];exact ih
theorem KV.any(r:KV U vs)(k:κ):(U.any λZ=>decide (Z.1=k))=vs.any λZ=>decide (Z.1=k):=by
 unfold KV at r
 induction r with
 |nil=>rfl|cons h t Y=>rw[List.any_cons,List.any_cons,Y,h.1]
def KV.Ju(r:KV je U)(k:κ)(G:RelV y u) :
 KV (je.map λZ=>if Z.1=k then(Z.1,y)else Z) (U.map λZ=>if Z.1=k then(Z.1,u)else Z):=by
 unfold KV at r⊢
 induction r with
 |nil=>exact .nil
 |@cons p q ps qs h t ih =>
  rw[gq,gq];refine .cons ?_ ih;obtain⟨Y,T⟩:=h
  by_cases e:p.1=k
  .rw[dj e,dj (Y.symm.trans e)];exact⟨Y,G⟩
  .rw[cj e,cj (λz=>e (Y.trans z))];exact⟨Y,T⟩
def KV.put(r:KV U Z)(k:κ)(Y:RelV y u):KV (putK U k y) (stored Z k u):=by
 unfold putK stored;rw[r.any k]
 by_cases e:(Z.any λT=>decide (T.1=k))=true
 .rw[dj e,dj e];exact r.Ju k Y
 .rw[cj e,cj e];exact Paired.snoc r ⟨rfl,Y⟩
theorem KV.length{Y:List (κ×V)}{T:List (κ×Value)}(r:KV Y T):Y.length=T.length:=Paired.length r
end
def aap(r:RelV (kV k) u):(qg P w).is k u=true:=by
 cases k with
 |inl i=>obtain⟨t,e⟩:=(show ∃t,u=Value.int i t from r);subst e;exact aes P w i t
 |inr x=>obtain⟨t,e⟩:=(show ∃t,u=Value.str x t from r);subst e;exact aet P w x t
theorem aaq{P:Program}{w:World}:∀{Y:List Key}{T:Zl},Vals (Y.map kV) T->ItemsAre (qg P w) Y T
 |[],_,r=>by rw[List.map_nil]at r;cases r;exact .nil
 |k::Y,_,r=>by
  rw[gq]at r;cases r with
  |cons h t=>exact .cons (aap h) (aaq t)
abbrev KT(H:Hp):List (List Key×V)->List (List Key×Addr×Value)->Prop:=Paired λp q=>p.1=q.1/\H q.2.1=some (.tup (p.1.map kV))/\RelV p.2 q.2.2
def KT.val(r:KT H Z U)(k:List Key):Ou (S8 Z k) ((atKey U k).map (·.2)):=by
 induction r with
 |nil=>exact True.intro
 |@cons p q ps qs h t ih =>
  obtain⟨T,_,G⟩:=h
  by_cases e:p.1=k
  .have Y:q.1=k:=T.symm.trans e
   have b:atKey (q::qs) k=some q.2:=by simp[atKey,ud,Y]
   rw[Ue e,b];exact G
  .have Y:¬q.1=k:=λz=>e (T.trans z)
   have b:atKey (q::qs) k=atKey qs k:=by simp[atKey,ud,Y]
   rw[Ug e,b];exact ih
def KT.Ju(r:KT H U xs)(k:List Key)(J:RelV y u) :
 KT H (U.map λZ=>if Z.1=k then(Z.1,y)else Z) (xs.map (putAt k u)):=by
 induction r with
 |nil=>exact .nil
 |@cons p q ps qs h t ih =>
  rw[gq,gq];refine .cons ?_ ih;obtain⟨Y,T,G⟩:=h;unfold putAt
  by_cases e:p.1=k
  .rw[dj e,dj (Y.symm.trans e)];exact⟨Y,T,J⟩
  .rw[cj e,cj (λz=>e (Y.trans z))];exact⟨Y,T,G⟩
def KT.put(r:KT H U Z)(k:List Key)(T:H b=some (.tup (k.map kV)))(Y:RelV y u) :
 KT H (putK U k y) (storedH Z k b u):=by
 have e:(U.any λG=>decide (G.1=k))=(atKey Z k).isSome:=by rw[aey,(r.val k).Mh,Option.isSome_map]
 unfold putK storedH;rw[e]
 by_cases q:(atKey Z k).isSome=true
 .rw[dj q,dj q];exact r.Ju k Y
 .rw[cj q,cj q];exact Paired.snoc r ⟨rfl,T,Y⟩
def KT.keeps(r:KT H je xs)(Y:∀b Z,H b=some (.tup Z)->U b=some (.tup Z)):KT U je xs:=
 Paired.a2b r λ_ _ z=>⟨z.1,Y _ _ z.2.1,z.2.2⟩
def az5(ok:Ru P w H h)(e:Rd H a u):Bt P w H h a u:=e.ok ok
def aar(ok:Ru P w H h)(e:Rd H a (.dK Z)):Z.length<=sizeLine/\(a==sysModules)=false/\∃vs,KV Z vs/\h.DictOf (qg P w) a vs:=
 show Bt P w H h a (.dK Z)from az5 ok e
def a96(ok:Ru P w H h)(e:H a=some (.dK Z)):Z.length<=sizeLine/\(a==sysModules)=false/\∃vs,KV Z vs/\h.DictOf (qg P w) a vs:=aar ok (.inl e)
def Qf(ok:Ru P w H h)(e:H a=some (.tup (Z.map kV))):(tupleKind (qg P w)).is h Z a:=by obtain⟨_,J,r,o,G,Y,n,T,_⟩:=(show Bt P w H h a (.tup (Z.map kV))from ok a _ e);exact⟨o,J.toArray,n,G,Y,T,by simpa using aaq r⟩
def aas(ok:Ru P w H h)(e:Rd H a (.dT Z)):Z.length<=sizeLine/\(a==sysModules)=false /\
 ∃xs,KT H Z xs/\h.DictOfH (tupleKind (qg P w)) a xs:=by
 obtain⟨z,y,xs,r,o,O,G,N,J,C,T,B⟩:=(show Bt P w H h a (.dT Z)from az5 ok e);refine⟨z,y,xs,r,o,O,G,N,J,C,T,λx Y=>?_,B⟩;have all:∀{l:List (List Key×V)}{m:List (List Key×Addr×Value)},KT H l m->∀x∈m,(tupleKind (qg P w)).is h x.1 x.2.1:=by
  intro l m q
  induction q with
  |nil=>intro x Y;exact nomatch Y
  |@cons p q ps qs hq t ih =>
   intro x Y;rcases dh.mp Y with e|Y
   .subst e
    exact Qf ok (by rw[<-hq.1];exact hq.2.1)
   .exact ih x Y
 exact all r x Y
def ap6(ok:Ru P w H h)(e:H a=some (.dT Z)):Z.length<=sizeLine/\(a==sysModules)=false /\
 ∃xs,KT H Z xs/\h.DictOfH (tupleKind (qg P w)) a xs:=aas ok (.inl e)
def Q6(H:Hp)(a:Addr)(y:V)(r:Option V):Prop:=
 (∃Y k,Rd H a (.dK Y)/\y=kV k/\r=S8 Y k)\/∃Y k b,Rd H a (.dT Y)/\y=.ref b/\H b=some (.tup (k.map kV))/\r=S8 Y k
def ahp(H:Hp)(a:Addr)(y v:V)(T:Hp):Prop:=
 (∃Y k,H a=some (.dK Y)/\y=kV k/\Y.length<sizeLine/\T=upd H a (.dK (putK Y k v))) \/
 ∃Y k b,H a=some (.dT Y)/\y=.ref b/\H b=some (.tup (k.map kV))/\Y.length<sizeLine/\T=upd H a (.dT (putK Y k v))
theorem Q6.k{k:Key}(e:H a=some (.dK Z)):Q6 H a (kV k) (S8 Z k):=.inl ⟨Z,k,.inl e,rfl,rfl⟩
def Q6.t{k:List Key}(e:H a=some (.dT Z))(Y:H b=some (.tup (k.map kV))):Q6 H a (.ref b) (S8 Z k):=.inr ⟨Z,k,b,.inl e,rfl,Y,rfl⟩
theorem ahp.k{k:Key}(e:H a=some (.dK Z))(Y:Z.length<sizeLine):ahp H a (kV k) v (upd H a (.dK (putK Z k v))):=.inl ⟨Z,k,e,rfl,Y,rfl⟩
def ahp.t{k:List Key}(e:H a=some (.dT Z))(Y:H b=some (.tup (k.map kV)))(T:Z.length<sizeLine) :
 ahp H a (.ref b) v (upd H a (.dT (putK Z k v))):=.inr ⟨Z,k,b,e,rfl,Y,T,rfl⟩
def Inv.big(I:Inv X pins σ H s):sysModules<s.heap.objs.size:=by
 have h:mainGlobals<s.heap.objs.size:=(I.mod.glob.keeps I.bk).lt
 exact Nat.lt_trans (by decide) h
def alr(R:A.units+1<cLine)(I:Inv X pins σ H s)(g:Q6 H a y (some v))(C:RelV y u)(h:∀Z U,Inv X pins σ H U->RelV v Z->Q Z U) :
 wpAny (model X.prog X.w) A (getItem (.ref a) u) Q E s:=by
 rcases g with⟨S,k,e,G,l⟩|⟨S,k,b,e,G,W,l⟩
 .subst G
  obtain⟨z,V,L,T,J⟩:=aar I.Bq e;obtain⟨Z,O,Y⟩:=Ou.some_of (v:=v) (o:=valueAt L k) (by rw[l];exact T.val k);exact wpAny_getItem_of (aap C) J.mapOf O (h Z _ (I.tok _) Y)
 .subst G
  cases(show u=Value.ref b from C);obtain⟨z,V,P,T,J⟩:=aas I.Bq e;obtain⟨Z,O,Y⟩:=Ou.some_of (v:=v) (o:=(atKey P k).map (·.2)) (by rw[l];exact T.val k);obtain⟨p,N,B⟩:=dg.mp O;refine wpAny_getItem_heap (yf R) (Qf I.Bq W) J N ?_;rw[B];exact h Z _ (I.tok _) Y
def bge(O:A.units+1<cLine)(I:Inv X pins σ H s)(g:Q6 H a y o)(B:RelV y u)(h:∀Z,Inv X pins σ H Z->Q (.bool o.isSome) Z) :
 wpAny (model X.prog X.w) A (compareOp .In u (.ref a)) Q E s:=by
 rcases g with⟨C,k,e,T,l⟩|⟨C,k,b,e,T,N,l⟩
 .subst T
  obtain⟨z,G,L,Y,J⟩:=aar I.Bq e;refine wpAny_in_of (aap B) G J.mapOf ?_;rw[<-(Y.val k).Mh,<-l];exact h _ (I.tok _)
 .subst T
  cases(show u=Value.ref b from B);obtain⟨z,G,P,Y,J⟩:=aas I.Bq e;refine wpAny_in_heap (yf O) (Qf I.Bq N) G J ?_;have q:=(Y.val k).Mh;rw[Option.isSome_map]at q;rw[<-q,<-l];exact h _ (I.tok _)
def awi(O:A.units+1<cLine)(I:Inv X pins σ H s)(g:Q6 H a y o)(B:RelV y u)(h:∀Z,Inv X pins σ H Z->Q (.bool (!o.isSome)) Z) :
 wpAny (model X.prog X.w) A (compareOp .NotIn u (.ref a)) Q E s:=by
 rcases g with⟨C,k,e,T,l⟩|⟨C,k,b,e,T,N,l⟩
 .subst T
  obtain⟨z,G,L,Y,J⟩:=aar I.Bq e;refine wpAny_notIn_of (aap B) G J.mapOf ?_;rw[<-(Y.val k).Mh,<-l];exact h _ (I.tok _)
 .subst T
  cases(show u=Value.ref b from B);obtain⟨z,G,P,Y,J⟩:=aas I.Bq e;refine wpAny_notIn_heap (yf O) (Qf I.Bq N) G J ?_;have q:=(Y.val k).Mh;rw[Option.isSome_map]at q;rw[<-q,<-l];exact h _ (I.tok _)
def ajb(I:Inv X pins σ H s)(J:Mut (H a))(Y:Heap.SameBut a s.heap Z)(G:∃q,Z.get? a=some q)(new:Bt X.prog X.w (upd H a U) Z a U) :
 Inv X pins σ (upd H a U) { s with heap:=Z,toks:=t' }:=
 I.write (x:=a) (e:=a) J (.inl rfl) (λb q T z=>(Y.2 b T).trans z) G new
def a3p(z:U.length<=sizeLine)(T:(a==sysModules)=false)(Y:KV U Z)(G:h'.DictOf (qg P w) a Z) :
 Bt P w H' h' a (.dK U):=⟨z,T,Z,Y,G⟩
def aat(hu:A.units+1<cLine)(I:Inv X pins σ H s)(g:ahp H a y v H')(F:RelV y u)(S:RelV v r)(h:∀Z,Inv X pins σ H' Z->Q () Z) :
 wpAny (model X.prog X.w) A (setItem (.ref a) u r) Q E s:=by
 rcases g with⟨G,k,e,O,l,C⟩|⟨G,k,b,e,O,W,l,C⟩
 .subst O C
  obtain⟨z,B,U,Y,P⟩:=a96 I.Bq e;have N:U.length<=sizeLine:=by rw[<-Y.length];exact z
  have L:(putK G k v).length<=sizeLine:=by have:=Wf G k v;exact a_ this l
  refine wpAny_setItem_pairs (hsz:=N) (aap F) P λK T R=>h _ ?_
  have M:∃q,K.get? a=some q:=let ⟨q,_,_,J,_⟩:=T;⟨q,J⟩;exact ajb I (by rw[e];exact True.intro) R M (a3p L B (Y.put k S) T)
 .subst O C
  cases(show u=Value.ref b from F);obtain⟨z,B,xs,Y,P⟩:=ap6 I.Bq e;have N:xs.length<=sizeLine:=by rw[<-Paired.length Y];exact z
  have L:(putK G k v).length<=sizeLine:=by have:=Wf G k v;exact a_ this l
  refine wpAny_setItem_heap (hsz:=N) (yf hu) (Qf I.Bq W) P λK T R=>h _ ?_
  obtain⟨q,es,D,J,h2,h3,h4,_,h5⟩:=T;refine ajb I (by rw[e];exact True.intro) R ⟨q,J⟩ ⟨L,B,_,(Y.put k W S).keeps λc ys V=>?_,q,es,D,J,h2,h3,h4,h5⟩;rw[o7 (apd V e (λz=>nomatch z))];exact V
def aez(I:Inv X pins σ H s)(g:Q6 H a y o):s.TypeIs (.ref a) "dict":= by
 rcases g with⟨T,k,e,_,_⟩|⟨T,k,b,e,_,_,_⟩
 .obtain⟨_,_,J,_,Y⟩:=aar I.Bq e
  exact Y.typeIs
 .obtain⟨_,_,G,_,Y⟩:=aas I.Bq e
  exact Y.typeIs
def ap8(h:Heap)(Y:sysModules<h.objs.size):Bt P w H (h.push { cls:=.type "dict",data:=.dict #[] }) h.objs.size (.dK []):=
 ⟨jd _,w6.mpr (km (gh Y)),[],.nil,Heap.DictOf.new h⟩
def ap9(h:Heap)(Y:sysModules<h.objs.size):Bt P w H (h.push { cls:=.type "dict",data:=.dict #[] }) h.objs.size (.dT []):=
 ⟨jd _,w6.mpr (km (gh Y)),[],.nil,_,#[],0,cu _ rfl,⟨rfl,rfl,rfl⟩,rfl,rfl,Bs⟩
def a3q:TE:=λ_ H Q=>∀p,H p=none->Q (.ref p) (upd H p (.dK []))
def a3r:TE:=λ_ H Q=>∀p,H p=none->Q (.ref p) (upd H p (.dT []))
def aqa:PE X (.Dict [] [] pos) a3q:=λY s T H Q I h =>
 wpAny_Dict_empty ⟨.ref s.heap.objs.size,_,I.laid (a:=s.heap.objs.size) (o:=.dK []) (t':=s.toks) (λ_ _ q=>au _ q) (bz _) (ap8 s.heap I.big),rfl,h _ (I.Bq.fresh (bz _))⟩
def aqb:PE X (.Dict [] [] pos) a3r:=λY s T H Q I h =>
 wpAny_Dict_empty ⟨.ref s.heap.objs.size,_,I.laid (a:=s.heap.objs.size) (o:=.dT []) (t':=s.toks) (λ_ _ q=>au _ q) (bz _) (ap9 s.heap I.big),rfl,h _ (I.Bq.fresh (bz _))⟩
def aqc(C:A.units+1<cLine)(I:Inv X pins σ H s)(g:Q6 H a y o)(O:RelV y u)(B:RelV d r)(h:∀U Z,Inv X pins σ H Z->RelV (o.getD d) U->Q U Z) :
 wpAny (model X.prog X.w) A (call (.builtin "dict.get") [.ref a,u,r]) Q E s:=by
 rcases g with⟨N,k,e,G,l⟩|⟨N,k,b,e,G,L,l⟩
 .subst G
  obtain⟨z,J,R,Y,T⟩:=aar I.Bq e;refine call_meetsIn PySem.F.slot_dict_get T.typeIs PySem.F.entry_dict_get (PySem.F.args_dict_get_3 _ _ _) (meets_dict_get_default (qg X.prog X.w) a (aap O) J r) ⟨_,T.mapOf,h _ _ (I.tok _) ?_⟩;rw[l];exact(Y.val k).getD B
 .subst G
  cases(show u=Value.ref b from O);obtain⟨z,J,P,Y,T⟩:=aas I.Bq e;refine call_meetsIn PySem.F.slot_dict_get T.typeIs PySem.F.entry_dict_get (PySem.F.args_dict_get_3 _ _ _) (meetsH_dict_get_default (tupleKind (qg X.prog X.w)) a b J r) ⟨yf C,k,P,Qf I.Bq L,T,h _ _ (I.tok _) ?_⟩;rw[l];exact(Y.val k).getD B
end L2
namespace HT
open PySem PyProof.Rows
def awj(D:IsTup s.heap t Z.toArray)(M:IsTup s.heap b U.toArray)(I:Z=[]->Q (.ref b) s)(X:U=[]->Q (.ref t) s)(q:Z≠[]->U≠[]->Q (.ref s.heap.objs.size) { s with heap:=s.heap.push { cls:=.type "tuple",data:=.seq (Z++U).toArray } })(L:Z.length+U.length<=sizeLine):wpAny (model prog w) A (binaryOp .Add (.ref t) (.ref b)) Q E s:=by
 obtain⟨⟨qk,H,qq,S⟩,J,W,n,V⟩:=id D;obtain⟨⟨K,G,R,T⟩,Y,B,P,O⟩:=id M;simp only at W V B O;subst W V B O;have e:Z.toArray++U.toArray=(Z++U).toArray:=by simp
 by_cases C:Z=[]
 .exact concat_meets ⟨_,J,rfl⟩ ⟨_,Y,rfl⟩ noFill_tuple_add seq_tuple_add PySem.F.slot_tuple_add PySem.F.entry_tuple_add (PySem.F.args_tuple_add_2 _ _)
   (tuple_addW0 t b Z.toArray U.toArray n P H G S T (by simp[C])) ⟨J,Y,I C⟩
 by_cases N:U=[]
 .exact concat_meets ⟨_,J,rfl⟩ ⟨_,Y,rfl⟩ noFill_tuple_add seq_tuple_add PySem.F.slot_tuple_add PySem.F.entry_tuple_add (PySem.F.args_tuple_add_2 _ _)
   (tuple_addW1 t b Z.toArray U.toArray n P H G S T (by simpa using C) (by simp[N])) ⟨J,Y,X N⟩
 .refine concat_meets ⟨_,J,rfl⟩ ⟨_,Y,rfl⟩ noFill_tuple_add seq_tuple_add PySem.F.slot_tuple_add PySem.F.entry_tuple_add (PySem.F.args_tuple_add_2 _ _)
   (tuple_addW2 t b Z.toArray U.toArray n P H G S T (by simpa using C) (by simpa using N) (by rw[gm,gm];exact L)) ⟨J,Y,?_⟩
  rw[e];exact q C N
noncomputable def sIx(n d:Nat):Option Int->Nat
 |none=>d|some v=>if v<0 then(v+(n:Int)).toNat else min v.toNat n
end HT
namespace L2
open PySem PySem.Spec PyProof.Rows
abbrev TO:=St->Hp->(Option Int->Hp->Prop)->Prop
def PO(X:Cx)(e:Option Expr)(t:TO):Prop:=
 ∀(Y:Zp)(s:Shared)(T:St)(H:Hp)(Q:Option Int->Hp->Prop),Inv X Y T H s->t T H Q ->
  wpAny (model X.prog X.w) X.A (evalPart e X.env) (λu J=>∃o G,Inv X Y T G J/\IsPart u o/\Q o G) X.xe s
def awk:TO:=λ_ H Q=>Q none H
def a97(t:TE):TO:=λT H Q=>t T H λx Y=>∃i,x=.int i/\Q (some i) Y
def awl:PO X none awk:=by intro Y s T H Q I h;rw[evalPart_none];exact aj ⟨none,H,I,.none,h⟩
def awm(h:PE X e Z):PO X (some e) (a97 Z):=by
 intro Y s J H Q I B;rw[evalPart_some];refine Qu (h Y s J H _ I B) λu C x G I1 T O=>?_
 obtain⟨i,rfl,q⟩:=O;obtain⟨t,rfl⟩:=T;exact⟨some i,G,I1,.int i t,q⟩
def SlR(X:Cx)(r:V->Option Int->Option Int->Hp->VK->Prop):Prop:=
 ∀(Y:Zp)(s:Shared)(C:St)(H:Hp)(x:V)(v N J:Value)(G B:Option Int)(O:Addr)(Q:VK),Inv X Y C H s->RelV x v->s.heap.IsSliceOf O N J .none->IsPart N G->IsPart J B->r x G B H Q ->
  ∃T id,typeLookup (.type T) "__getitem__"= pure (some (.builtin id))/\s.TypeIs v T/\wpAny (model X.prog X.w) X.A (getItem v (.ref O)) (EP X Y C Q) X.xe s
def tSl(r:V->Option Int->Option Int->Hp->VK->Prop)(J:TE)(O T:TO):TE:=λY H Q=>J Y H λx G=>O Y G λl B=>T Y B λu C=>r x l u C Q
def aqd{C:Option Expr}(W:SlR X r)(E:PE X e te)(K:PO X C tl)(D:PO X Z th):PE X (.Subscript e (.Slice C Z none U) pos) (tSl r te tl th):=by
 intro Y s J H Q I h;refine Subscript_ (Qu (E Y s J H _ I h) λv P x R I1 V y=>?_);refine wpAny_Slice (Lb (K Y P J R _ I1 y) λO g ⟨l,H2,I2,pl,q2⟩=>Lb (D Y g J H2 _ I2 q2) λB G z_=>?_);obtain⟨u,N,z,F,L⟩:=z_;rw[evalPart_none];refine aj ?_;have c:Inv X Y J N { G with heap:=G.heap.push { cls:=.type "slice",data:=.fields #[O,B,.none] } }:=z.kept (t':=G.toks) λb d q=>au _ q
 obtain⟨T,id,j,M,S⟩:=W Y { G with heap:=G.heap.push { cls:=.type "slice",data:=.fields #[O,B,.none] } } J N x v O B l u G.heap.objs.size Q c V (Heap.IsSliceOf.new ..) pl F L;show wpAny (model X.prog X.w) X.A (subscriptTail e (.Slice C Z none U) v (.ref G.heap.objs.size)) (EP X Y J Q) X.xe { G with heap:=G.heap.push { cls:=.type "slice",data:=.fields #[O,B,.none] } };exact tail_any (ops:=[.ref G.heap.objs.size,v]) M j S (by with_unfolding_all rfl)
def als(Y:List V)(T G:Option Int):List V:=(Y.drop (HT.sIx Y.length 0 T)).take (HT.sIx Y.length Y.length G-HT.sIx Y.length 0 T)
def ae0(Y:List V)(T G:Option Int):(als Y T G).length<=Y.length:=by
 unfold als;rw[List.length_take,List.length_drop]
 lia
def a98(K:Fg):R2:=λx y H Q=>∃a b Y T,x=.ref a/\y=.ref b/\Gd K H a Y/\Gd K H b T/\Y.length+T.length<=sizeLine /\
 (Y=[]->Q (.ref b) H)/\(T=[]->Q (.ref a) H)/\(∀p,H p=none->Q (.ref p) (upd H p (.tup (Y++T))))
def Vals.ajc(r:Vals U Z):Z=[]↔U=[]:=by
 cases r with
 |nil=>simp|cons _ _=>simp
def awn:Ej X (binaryOp .Add) (a98 X.K):=by intro G s D H x y v u Q I W S h;obtain⟨a,b,F,O,rfl,rfl,E,B,J,V,R,C⟩:=h;cases W;cases S;obtain⟨M,Y,P,_⟩:=I.tuple E;obtain⟨L,T,N,_⟩:=I.tuple B;refine HT.awj P N (λz=>⟨.ref b,H,I,rfl,V (Y.ajc.mp z)⟩) (λz=>⟨.ref a,H,I,rfl,R (T.ajc.mp z)⟩) (λ_ _=>?_) (by rw[<-Y.length,<-T.length];exact J);refine⟨.ref s.heap.objs.size,_,I.laid (t':=s.toks) (o:=.tup (F++O)) (λb A q=>au _ q) (bz _) ?_,rfl,C _ (I.Bq.fresh (bz _))⟩;exact⟨by rw[jc];exact J,_,Y.append T,Yc.new _ _⟩
end L2
namespace L2
open PySem PySem.Spec PyProof.Rows
noncomputable def ixN(n:Nat)(i:Int):Option Nat:=if 0<=i then(if i<n then some i.toNat else none)else if -(n:Int)<=i then some (i+n).toNat else none
def atI{α:Type}(Y:List α)(i:Int):Option α:=(ixN Y.length i).bind λj=>Y[j]?
def ajd(h:ixN n i=some j):seqIndex? i n=some j/\j<n/\-(n:Int)<=i/\i<n:=by
 unfold ixN at h
 by_cases T:0<=i
 .rw[dj T]at h
  by_cases Y:i<n
  .rw[dj Y]at h
   have e:i.toNat=j:=lg h;exact⟨by rw[seqIndex_of T Y,e],by lia,by lia,Y⟩
  .rw[cj Y]at h;cases h
 .rw[cj T]at h
  by_cases Y:-(n:Int)<=i
  .rw[dj Y]at h
   have e:(i+n).toNat=j:=lg h;exact⟨by rw[seqIndex_neg (by lia) Y,e],by lia,Y,by lia⟩
  .rw[cj Y]at h;cases h
def aje(h:atI Z i=some v):∃j,seqIndex? i Z.length=some j/\Z[j]?=some v/\j<Z.length/\-(Z.length:Int)<=i/\i<Z.length:=by
 unfold atI at h;cases e:ixN Z.length i with
 |none=>rw[e]at h;cases h
 |some j =>
  rw[e]at h;obtain⟨J,T,G,Y⟩:=ajd e;exact⟨j,J,h,T,G,Y⟩
def acg(b:Expr):Prop:=∀o i,subscripted b false o i=operate [o,i] (getItem o i)
def IxR(X:Cx)(r:R2):Prop:=
 ∀(G Y:Expr)(T:Zp)(s:Shared)(J:St)(H:Hp)(x y:V)(v u:Value)(Q:VK),Inv X T J H s->RelV x v->RelV y u->r x y H Q ->
  subscripted Y false v u=operate [v,u] (getItem v u)->wpAny (model X.prog X.w) X.A (subscriptTail G Y v u) (EP X T J Q) X.xe s
def MtR(X:Cx)(id:String)(r:V->List V->Hp->VK->Prop):Prop:=
 ∀(Y:Zp)(s:Shared)(T:St)(H:Hp)(x:V)(J:List V)(v:Value)(G:Zl)(Q:VK),Inv X Y T H s->RelV x v->Vals J G->r x J H Q ->
  wpAny (model X.prog X.w) X.A (call (.builtin id) (v::G)) (EP X Y T Q) X.xe s
def baa(N:IxR X r)(T:PE X a Z)(J:PE X b tb)(G:acg b):PE X (.Subscript a b pos) (tOp r Z tb):=by intro Y s L H Q I h;exact Subscript_ (a3c T J I h λv u B x y C I2 O E q=>N a b Y B L C x y v u Q I2 O E q (G _ _))
def bgf(K:Fg):R2:=λx y H Q=>∃p Y i v,x=.ref p/\y=.int i/\J2 K H p Y/\atI Y i=some v/\Q v H
def bgg(K:Fg):R2:=λx y H Q=>∃p Y i v,x=.ref p/\y=.int i/\Gd K H p Y/\atI Y i=some v/\Q v H
def Ea:IxR X (bgf X.K):=by
 intro G B Y s L H x y v u Q I U A h E;obtain⟨p,xs,i,z,rfl,rfl,W,R,q⟩:=h;cases U;obtain⟨t,rfl⟩:=A;obtain⟨S,r,J,hz⟩:=I.list W;obtain⟨j,T,Z,h3,D,F⟩:=aje R;obtain⟨w,P,C⟩:=r.get Z;have M:=r.length;have hn:=acf;have fin:EP X Y L Q w s:=⟨z,H,I,C,q⟩
 by_cases N:0<=i
 .have O:i.toNat=j:=by
   rw[seqIndex_of N F]at T;exact lg T
  exact item_listR J.isList N (by lia) (by rw[O];simpa using P) fin E
 .have O:(i+(S.toArray.size:Int)).toNat=j:=by
   rw[seqIndex_neg (by lia) D]at T;rw[gm,<-M];exact lg T
  exact subscriptTail_builtinR (x:=w) J.isList.typeIs slot_list_getitem.lookup
   (wpAny_getItem_list_neg (Q:=λr V=>r=w/\EP X Y L Q r V) J.isList (by lia) (by rw[gm]<;>lia) (by lia) (by rw[O];simpa using P) ⟨rfl,fin⟩) E
def Ip:IxR X (bgg X.K):=by
 intro T G Y s O H x y v u Q I W R h S;obtain⟨p,D,i,z,rfl,rfl,L,C,q⟩:=h;cases W;obtain⟨t,rfl⟩:=R;obtain⟨A,r,B,Z⟩:=I.tuple L;obtain⟨j,P,V,h3,h4,U⟩:=aje C;obtain⟨w,F,J⟩:=r.get V;have E:=r.length;have M:=acf;have fin:EP X Y O Q w s:=⟨z,H,I,J,q⟩;exact subscriptTail_builtinR (x:=w) B.typeIs slot_tuple_getitem.lookup
  (getItem_tuple (j:=j) (Q:=λr N=>r=w/\EP X Y O Q r N) B (by lia) (by lia) (by rw[gm,<-E];exact P) (by simpa using F) ⟨rfl,fin⟩) S
def ahq(Y:Zl)(n j:Nat)(u:Value):Obj.mapSeq (·.setIfInBounds j u) { cls:=.type "list",data:=.seq Y.toArray n }={ cls:=.type "list",data:=.seq (Y.set j u).toArray n }:=by simp[Obj.mapSeq]
theorem Inv.lst{X:Cx}{Y:Zp}{J:St}{H:Hp}{s:Shared}{p:Addr}{G:List V}(I:Inv X Y J H s)(h:H p=some (.lst G)) :
 ∃(T:Zl)(n:Nat),Vals G T/\s.heap.get? p=some { cls:=.type "list",data:=.seq T.toArray n }/\G.length<=sizeLine:=by
 obtain⟨z,T,n,r,e⟩:=I.Bq p _ h;exact⟨T,n,r,e,z⟩
def Inv.a3s{T:Zl}(I:Inv X pins σ H s)(h:H p=some (.lst xs))(B:s.heap.get? p=some { cls:=.type "list",data:=.seq T.toArray n })(Y:f { cls:=.type "list",data:=.seq T.toArray n }={ cls:=.type "list",data:=.seq its'.toArray Z })(r:Vals U its')(J:U.length<=sizeLine)(t:Nat) :
 Inv X pins σ (upd H p (.lst U)) { s with heap:=s.heap.update p f,toks:=t }:=by
 have e:(s.heap.update p f).get? p=some { cls:=.type "list",data:=.seq its'.toArray Z }:=by rw[o6 f B (by rw[Y]<;>rfl),Y]
 refine I.write (x:=p) (e:=p) (by rw[h];trivial) (.inl rfl) (λb u G q=>(vh _ _ (km G)).trans q) ⟨_,e⟩ ?_;exact⟨J,its',Z,r,e⟩
def bab:V->V->V->Hp->(Hp->Prop)->Prop:=λo i v H Q=>∃p Y k j,o=.ref p/\i=.int k/\H p=some (.lst Y)/\ixN Y.length k=some j/\Q (upd H p (.lst (Y.set j v)))
def set_list:a2v X bab:=by
 intro Y s M H o i v ov Z u Q I V R S h;obtain⟨p,A,k,j,rfl,rfl,L,K,q⟩:=h;cases V;obtain⟨t,rfl⟩:=R;obtain⟨C,n,r,B,F⟩:=I.lst L;obtain⟨T,U,P,E⟩:=ajd K;have J:=r.length;have D:=acf;have O:Inv X Y M (upd H p (.lst (A.set j v))) { s with heap:=s.heap.update p (Obj.mapSeq (·.setIfInBounds j u)) }:=
  I.a3s L B (ahq C n j u) (r.set S j) (by rw[List.length_set];exact F) s.toks
 by_cases N:0<=k
 .have G:k.toNat=j:=by
   rw[seqIndex_of N E]at T;exact lg T
  exact PySem.W.ki_setAt B N (by lia) (by rw[gm,<-J];exact E) (by rw[G];exact⟨_,O,q⟩)
 .have G:(k+(C.toArray.size:Int)).toNat=j:=by
   rw[seqIndex_neg (by lia) P]at T;rw[gm,<-J];exact lg T
  exact PySem.W.ki_setBack B (by lia) (by rw[gm,<-J];exact P) (by lia) (by rw[G];exact⟨_,O,q⟩)
def ach(Y T:Option Int)(n:Nat):(sliceBounds Y T none n).1=((HT.sIx n 0 Y:Nat):Int)/\(sliceBounds Y T none n).2.1=((HT.sIx n n T:Nat):Int)/\(sliceBounds Y T none n).2.2=1:=by
 refine⟨?_,?_,rfl⟩
 .cases Y with
  |none=>simp[sliceBounds,HT.sIx]
  |some i =>
   simp only[sliceBounds,HT.sIx,Option.getD_none,show(1:Int) > 0 by decide,lz]
   by_cases h:i<0
   .simp only[h,lz]<;>lia
   .simp only[h,jq]<;>lia
 .cases T with
  |none=>simp[sliceBounds,HT.sIx]
  |some i =>
   simp only[sliceBounds,HT.sIx,Option.getD_none,show(1:Int) > 0 by decide,lz]
   by_cases h:i<0
   .simp only[h,lz]<;>lia
   .simp only[h,jq]<;>lia
def Zy(Y:Zl)(T G:Option Int):slicePick Y.toArray T G none=((Y.drop (HT.sIx Y.length 0 T)).take (HT.sIx Y.length Y.length G-HT.sIx Y.length 0 T)).toArray:=by obtain⟨O,J,B⟩:=ach T G Y.toArray.size;unfold slicePick;rw[O,J,B];simp only[sliceRange_one,pick_run,gm]<;>rfl
def bac(K:Fg):V->Option Int->Option Int->Hp->VK->Prop:=λx T G H Q=>∃a Y,x=.ref a/\J2 K H a Y/\∀p,H p=none->Q (.ref p) (upd H p (.lst (als Y T G)))
def awo:SlR X (bac X.K):=by intro O s M H x v A S G J W Q I R N P E h;obtain⟨a,T,rfl,L,q⟩:=h;cases R;obtain⟨F,r,C,B⟩:=I.list L;have Y:=r.length;refine⟨"list",_,slot_list_getitem.lookup,C.isList.typeIs,?_⟩;refine wpAny_getItem_list_slice C.isList N P E .none (by simp) ?_ (by rw[gm]<;>exact a_ (g_ Y) B);rw[Zy,<-Y];refine⟨.ref s.heap.objs.size,_,I.laid (t':=s.toks) (o:=.lst (als T G J)) (λb V q=>au _ q) (bz _) ?_,rfl,q _ (I.Bq.fresh (bz _))⟩;exact⟨gf (ae0 T G J) B,_,0,(r.drop (HT.sIx T.length 0 G)).take (HT.sIx T.length T.length J-HT.sIx T.length 0 G),cu _ rfl⟩
def aci:Dh X (.builtin "len") (λU H Q=>∃p Z,U=[.ref p]/\(J2 X.K H p Z\/Gd X.K H p Z)/\Q (.int Z.length) H):=by
 intro B s P H U L Q I r h;obtain⟨p,Z,rfl,T,q⟩:=h;obtain⟨u,rfl,C⟩:=vals1 r;cases C;have E:=acf;rcases T with T|T
 .obtain⟨N,G,J,O⟩:=I.list T
  have Y:=G.length;exact Calls.call_len_list J.isList (by simp only[gm]<;>lia) ⟨.int Z.length,H,I.tok _,⟨s.toks+1,by rw[gm,Y]⟩,q⟩
 .obtain⟨N,G,J,O⟩:=I.tuple T
  have Y:=G.length;exact len_tuple J (by simp only[gm]<;>lia) ⟨.int Z.length,H,I.tok _,⟨s.toks+1,by rw[gm,Y]⟩,q⟩
def acj:Dh X (.type "list") (λU H Q=>∃p Z,U=[.ref p]/\(J2 X.K H p Z\/Gd X.K H p Z)/\∀l,H l=none->Q (.ref l) (upd H l (.lst Z))):=by
 intro N s W H U M Q I r h;obtain⟨p,Z,rfl,L,q⟩:=h;obtain⟨u,rfl,F⟩:=vals1 r;cases F;have fin:∀(G:Zl),Vals Z G->Z.length<=sizeLine->∀(T:Heap)(B:Nat),(∀b V,s.heap.get? b=some V->T.get? b=some V) ->
  T.get? s.heap.objs.size=some { cls:=.type "list",dict:=none,data:=.seq G.toArray B,slots:=#[] }->EP X N W Q (.ref s.heap.objs.size) { s with heap:=T }:=λG J O T B C e =>
  ⟨.ref s.heap.objs.size,_,I.laid (t':=s.toks) C (bz _) (show Bt X.prog X.w _ T _ (.lst Z)from⟨O,G,B,J,e⟩),rfl,q _ (I.Bq.fresh (bz _))⟩
 rcases L with L|L
 .obtain⟨G,J,P,O⟩:=I.list L
  have Y:=J.length;obtain⟨o,S,R,n,E⟩:=P.isList;exact call_list_seq p (.inl rfl) S R E (λT B C e=>fin G J O T B C e) (by simp only[gm]<;>exact a_ (g_ Y) O)
 .obtain⟨G,J,P,O⟩:=I.tuple L
  have Y:=J.length;obtain⟨o,S,R,n,E⟩:=P;exact call_list_seq p (.inr rfl) S R E (λT B C e=>fin G J O T B C e) (by simp only[gm]<;>exact a_ (g_ Y) O)
def Zz:Dh X (.type "tuple") (λU H Q=>∃p Z,U=[.ref p]/\((J2 X.K H p Z/\∀l,H l=none->Q (.ref l) (upd H l (.tup Z)))\/(Gd X.K H p Z/\Q (.ref p) H))):=by
 intro Y s L H U R Q I r h;obtain⟨p,Z,rfl,h⟩:=h;obtain⟨u,rfl,P⟩:=vals1 r;cases P;rcases h with⟨C,q⟩|⟨C,q⟩
 .obtain⟨N,J,O,B⟩:=I.list C
  have T:=J.length;refine call_tuple_list O.isList (λG E=>?_) (by simp only[gm]<;>exact a_ (g_ T) B);have I1:Inv X Y L H { s with heap:=G }:=I.kept (t':=s.toks) E;have I2:Inv X Y L (upd H G.objs.size (.tup Z)) { s with heap:=G.push { cls:=.type "tuple",data:=.seq N.toArray } }:=
   I1.laid (t':=s.toks) (λb o e=>au _ e) (bz _) (show Bt X.prog X.w _ _ _ (.tup Z)from⟨B,N,J,Yc.new _ _⟩)
  exact⟨.ref G.objs.size,_,I2,rfl,q _ (I1.Bq.fresh (bz _))⟩
 .obtain⟨N,J,O,B⟩:=I.tuple C
  exact call_tuple_same O ⟨.ref p,H,I,rfl,q⟩
def tyV(K:Fg)(T:String)(x:V)(H:Hp):Prop:=match x with
 |.str _=>T ="str"|.int _=>T ="int"
 |.ref p=>(T ="list"/\∃G,J2 K H p G)\/(T ="tuple"/\∃o,K.lookup p=some o/\o.cls=.type "tuple"/\o.dict=none) \/
  (T ="dict"/\((∃Y,H p=some (.dK Y))\/∃Y,H p=some (.dT Y)))\/(T ="set"/\∃S n,H p=some (.set S n))
 |_=>False
def a3t(I:Inv X pins σ H s)(r:RelV x v)(J:tyV X.K T x H) :
 s.TypeIs v T/\∀a,v=.ref a->∃Z,s.heap.get? a=some Z/\Z.dict=none:=by
 cases x with
 |str z =>
  obtain⟨t,rfl⟩:=r;cases(show T ="str" from J);exact⟨typeIs_str s z t,λ_ e=>nomatch e⟩
 |int i =>
  obtain⟨t,rfl⟩:=r;cases(show T ="int" from J);exact⟨typeIs_int s i t,λ_ e=>nomatch e⟩
 |ref p =>
  cases r;rcases J with⟨rfl,R,N⟩|⟨rfl,o,Y,E,O⟩|⟨rfl,Y⟩|⟨rfl,S,n,Y⟩
  .obtain⟨P,_,C,_⟩:=I.list N
   refine⟨C.isList.typeIs,λa e=>?_⟩;cases e;obtain⟨o,n,e,c,O,_⟩:=C;exact⟨o,e,O⟩
  .refine⟨⟨o,I.Ve p o Y,E⟩,λa e=>?_⟩
   cases e;exact⟨o,I.Ve _ o Y,O⟩
  .have z:∃o,s.heap.get? p=some o/\o.ExactDict:=by
    rcases Y with⟨L,Y⟩|⟨L,Y⟩
    .obtain⟨_,_,_,_,o,_,_,e,G,_⟩:=I.Bq p _ Y
     exact⟨o,e,G⟩
    .obtain⟨_,_,_,_,o,_,_,e,G,_⟩:=I.Bq p _ Y
     exact⟨o,e,G⟩
   obtain⟨o,e,G⟩:=z;refine⟨⟨o,e,G.1⟩,λa B=>?_⟩;cases B;exact⟨o,e,G.2.1⟩
  .obtain⟨o,_,_,_,e,G,_⟩:=I.Bq p _ Y
   refine⟨⟨o,e,G.1⟩,λa B=>?_⟩;cases B;exact⟨o,e,G.2.1⟩
 |_=>exact False.elim J
def tBM(K:Fg)(T:String)(r:V->List V->Hp->VK->Prop)(J:TE)(t:TA):TE:=λG H Q=>J G H λx Y=>tyV K T x Y/\t G Y λO B=>r x O B Q
theorem baf{id:String}(z:PlainAttrs T)(G:Slot T name id)(O:typeOf (.builtin id)=pure (.type "method_descriptor"))(R:MtR X id r)(d:PE X o to)(q:PA X (e::Z) t)(J:attributeBase o name X.env (eval o X.env)=eval o X.env:=by rfl)(B:((backTo U (starEach (e::Z) X.env)).all (λx=>!x.1)&&(backToKw U (keywordEach [] X.env)).all (λx=>x.1.isSome)
&&decide ((e::Z).length+([]:List Keyword).length+(if([]:List Keyword).isEmpty then 0 else 1)<30))=true:=by rfl)(L:(apos.endLine==U.line)=true:=by rfl)(g:starEach (e::Z) X.env=(false,eval e X.env)::starEach Z X.env:=by rfl)(C:(backTo U (starEach Z X.env)).any (·.1)=false:=by rfl) :
 PE X (.Call (.Attribute o name apos) (e::Z) [] U) (tBM X.K T r to t):=by
 intro Y s N H Q I h;refine wpAny_Call_method_late J B L rfl (Qu (d Y s N H _ I h) λv S x V I1 P z_=>?_);obtain⟨W,u⟩:=z_;obtain⟨y,j⟩:=a3t I1 P W;refine⟨T,id,z,G,O,y,j,?_⟩;have E:=q U Y S N V _ I1 u;rw[g]at E⊢;refine Calls.callWith_builtin (by show(false||(backTo U (starEach Z X.env)).any (·.1))=false;rw[C]<;>rfl) (Calls.evalArgs_plain ?_);exact thA E λl c M A I2 D F=>R Y c N A x M v l Q I2 P D F
end L2
namespace L2
open PySem PySem.Spec PyProof.Rows
def MtM(X:Cx)(id:String)(r:V->List V->Hp->VK->Prop):Prop:=
 ∀(Y:Zp)(s:Shared)(T:St)(H:Hp)(x:V)(J:List V)(v:Value)(G:Zl)(Q:VK),Inv X Y T H s->RelV x v->Vals J G->r x J H Q ->
  wpAny (model X.prog X.w) X.A (call (.builtin id) (v::G)) (EP X Y T Q) X.xe s
def Vals.one{x:V}{Y:Zl}(h:Vals [x] Y):∃u,Y=[u]/\RelV x u:=by cases h with|cons r t=>cases t;exact⟨_,rfl,r⟩
def Inv.bag{Y:Zl}(I:Inv X pins σ H s)(B:H l=some (.lst U))(e:s.heap.get? l=some { cls:=.type "list",data:=.seq Y.toArray n })(T:f Y.toArray=its'.toArray)(C:Vals Z its')(J:Z.length<=sizeLine) :
 Inv X pins σ (upd H l (.lst Z)) { s with heap:=s.heap.update l (Obj.mapSeq f),toks:=t' }:=by
 have q:=PySem.IsL.update e f;rw[T]at q;refine I.write (x:=l) (e:=l) (by rw[B];exact trivial) (.inl rfl) (λN u G O=>(vh s.heap (Obj.mapSeq f) (km G)).trans O) ⟨_,q⟩ ?_;exact⟨J,its',_,C,q⟩
def Inv.bgh(I:Inv X pins σ H s)(T:Vals U Z)(Y:U.length<=sizeLine) :
 Inv X pins σ (upd H s.heap.objs.size (.lst U)) { s with heap:=s.heap.push { cls:=.type "list",data:=.seq Z.toArray },toks:=t' }:=
 I.laid (λ_ _ q=>au _ q) (bz _) ⟨Y,Z,0,T,cu _ rfl⟩
theorem Inv.fresh(I:Inv X pins σ H s):H s.heap.objs.size=none:=I.Bq.fresh (bz _)
def Inv.alu(I:Inv X pins σ H s)(T:H l=some (.lst Z)):Z.length<=sizeLine/\∃(Y:Zl)(n:Nat),Vals Z Y/\Z.length=Y.length/\s.heap.get? l=some { cls:=.type "list",data:=.seq Y.toArray n }:=by obtain⟨z,Y,n,r,e⟩:=I.Bq l _ T;exact⟨z,Y,n,r,r.length,e⟩
def aqg(h:n<=sizeLine):Builtin.List.listTooLong n=false:=by unfold Builtin.List.listTooLong;exact kj (j_ h)
def awp:V->List V->Hp->VK->Prop:=λx T H Q=>∃l Y y,x=.ref l/\T=[y]/\H l=some (.lst Y)/\Y.length<sizeLine/\Q .non (upd H l (.lst (Y++[y])))
def aau:MtM X "list.append" awp:=by intro G s R H x E v L Q I C N h;obtain⟨l,P,y,rfl,rfl,T,Y,q⟩:=h;cases C;obtain⟨u,rfl,B⟩:=N.one;obtain⟨z,J,n,r,O,e⟩:=I.alu T;refine call_meets F.slot_list_append ⟨_,e,rfl⟩ F.entry_list_append (F.args_list_append_2 _ _) (PySem.list_append l J.toArray n u (by rw[gm];exact e_ (c_ (g_ O) Y))) ⟨e,?_⟩;refine⟨.non,_,I.bag (its':=J++[u]) T e (by simp) (r.append (.cons B .nil)) ?_,rfl,q⟩;rw[jc,List.length_singleton];exact Y
def awq:V->List V->Hp->VK->Prop:=λx G H Q=>∃l b T Y,x=.ref l/\G=[.ref b]/\H l=some (.lst T)/\H b=some (.lst Y)/\T.length+Y.length<=sizeLine/\Q .non (upd H l (.lst (T++Y)))
def alv:MtM X "list.extend" awq:=by
 intro B s D H x M v Z Q I W N h;obtain⟨l,b,U,A,rfl,rfl,O,L,P,q⟩:=h;cases W;obtain⟨u,rfl,V⟩:=N.one;cases V;obtain⟨z,G,n,r,R,e⟩:=I.alu O;obtain⟨z2,Y,C,E,S,K⟩:=I.alu L;have T:G.toArray.size+Y.toArray.size<=sizeLine:=by rw[gm,gm];lia
 have J:¬(!G.toArray.isEmpty&&Builtin.List.listTooLong (G.toArray.size+Y.toArray.size))=true:=by rw[aqg T,Bool.and_false];exact jo
 refine call_meets F.slot_list_extend ⟨_,e,rfl⟩ F.entry_list_extend (F.args_list_extend_2 _ _)
  (AutoSeq1.list_extend_list_list_0 l G.toArray n b Y.toArray C J (by rw[gm];exact a_ (g_ R) z) (a_ T x_)) ⟨e,K,?_⟩
 refine⟨.non,_,I.bag (its':=G++Y) O e (by simp) (r.append E) ?_,rfl,q⟩;rw[jc];exact P
def bai:R2:=λx y H Q=>∃l b T Y,x=.ref l/\y=.ref b/\H l=some (.lst T)/\H b=some (.lst Y)/\T.length+Y.length<=sizeLine/\∀p,H p=none->Q (.ref p) (upd H p (.lst (T++Y)))
def a3v:Ej X (binaryOp .Add) bai:=by
 intro T s M H x y v u Q I C R h;obtain⟨l,b,F,V,rfl,rfl,J,B,O,q⟩:=h;cases C;cases R;obtain⟨z,G,n,r,W,e⟩:=I.alu J;obtain⟨A,Y,K,E,S,N⟩:=I.alu B;refine PySem.P.add_list e N ?_ (by rw[gm,gm];lia);have L:G.toArray++Y.toArray=(G++Y).toArray:=by simp
 rw[L];exact⟨.ref _,_,I.bgh (t':=s.toks) (r.append E) (by rw[jc];exact O),rfl,q _ I.fresh⟩
end L2
namespace L2
open PySem PySem.Spec PyProof.Rows
def ae2:fillsNumberSlot (.type "tuple") "mul"= pure false:=
 PySem.fillsNumberSlot_seq (id :="tuple.__mul__") (r:=some (.builtin "tuple.__rmul__")) zb.lookup (by decide+kernel) F.slot_tuple_rmul.lookup (by decide+kernel)
def aqh:seqRepeat? (.type "tuple")=pure (some (.builtin "tuple.__mul__")):=by unfold seqRepeat?;rw[PySem.seqSlot_of (T :="tuple") (name :="__mul__") (id :="tuple.__mul__") zb.lookup (by decide+kernel),PySem.seqSlot_of (T :="tuple") (name :="__rmul__") (id :="tuple.__rmul__") F.slot_tuple_rmul.lookup (by decide+kernel)];rfl
def a3w(a:Int)(t:Tok)(l:Addr)(Y:U1)(n:Nat)(G:Option Addr)(T:Array (Option Value)) :
 Meets (Builtin.«int.__rmul__» ⟨[.int a t,.ref l],[]⟩) (λ_ R s=>s.heap.get? l=some { cls:=.type "tuple",dict:=G,data:=.seq Y n,slots:=T }/\R (.ok (.ret Value.notImplemented)) s):=
 .of_wp λprog w A R s h=>by obtain⟨J,g,d,C,O⟩:=s;obtain⟨B,h⟩:=h;wp_walk;exact⟨_,rfl,h⟩
def baj(l:Addr)(Y:U1)(n:Nat)(G:Option Addr)(T:Array (Option Value))(u:Tok) :
 Meets (Builtin.«tuple.__mul__» ⟨[.ref l,.int 1 u],[]⟩) (λ_ R s=>s.heap.get? l=some { cls:=.type "tuple",dict:=G,data:=.seq Y n,slots:=T }/\R (.ok (.ret (.ref l))) s):=
 .of_wp λprog w A R s h=>by obtain⟨J,g,d,C,O⟩:=s;obtain⟨B,h⟩:=h;wp_walk;exact⟨_,rfl,h⟩
def bak(l:Addr)(x:Value)(n:Nat)(T:Option Addr)(Y:Array (Option Value))(u:Tok) :
 Meets (Builtin.«tuple.__mul__» ⟨[.ref l,.int 0 u],[]⟩) (λ_ R s=>s.heap.get? l=some { cls:=.type "tuple",dict:=T,data:=.seq #[x] n,slots:=Y }/\R (.ok (.ret (.ref s.heap.objs.size))) { s with heap:=s.heap.push { cls:=.type "tuple",data:=.seq #[] } }):=
 .of_wp λprog w A R s h=>by obtain⟨G,g,d,O,B⟩:=s;obtain⟨J,h⟩:=h;wp_walk;exact⟨_,rfl,h⟩
theorem ae3(x:Value):∀(k:Nat)(a:U1),List.foldl (λZ U=>Z++U) a (List.replicate k #[x])=a++(List.replicate k x).toArray
 |0,a=>by simp|k+1,a=>by rw[List.replicate_succ,List.foldl_cons,ae3 x k,Array.append_assoc,List.replicate_succ];congr 1;apply Array.ext';simp
theorem az6(r:RelV d v):∀k:Nat,Vals (List.replicate k d) (List.replicate k v)
 |0=>.nil|k+1=>.cons r (az6 r k)
def bal(l:Addr)(x:Value)(k n:Nat)(N:Option Addr)(T:Array (Option Value))(u:Tok)(E:2<=k)(O:k<=100000) :
 Meets (Builtin.«tuple.__mul__» ⟨[.ref l,.int k u],[]⟩) (λ_ R s=>s.heap.get? l=some { cls:=.type "tuple",dict:=N,data:=.seq #[x] n,slots:=T }/\R (.ok (.ret (.ref s.heap.objs.size))) { s with heap:=s.heap.push { cls:=.type "tuple",data:=.seq (List.replicate k x).toArray } }):=
 .of_wp λprog w A R s h=>by
  obtain⟨L,g,d,Q,S⟩:=s;obtain⟨P,h⟩:=h;have e:=ae3 x k #[];rw[Array.empty_append]at e;rw[<-e]at h;have G:¬(decide ((k:Int) < -2^63)||decide ((k:Int) >= 2^63))=true:=by simp;omega
  have Y:¬(Array.isEmpty #[x]||(k:Int)==1)=true:=by simp;omega
  have C:¬(decide ((k:Int)<=0)||Array.isEmpty #[x])=true:=by simp;omega
  have J:¬((Array.size #[x]:Nat):Int)*(k:Int) > (2^63-1)/8:=by simp;omega
  have B:¬Builtin.Tuple.tupleTooMany (((Array.size #[x]:Nat):Int)*(k:Int))=true:=by simp[Builtin.Tuple.tupleTooMany,sizeLine];omega
  wp_walk;refine xr (kj G) ?_
  wp_walk;refine xr (kj Y) ?_
  wp_walk;refine xr (kj C) ?_
  wp_walk;refine xr (kj J) ?_
  wp_walk;refine xr (kj B) ?_
  wp_walk;refine xr (kj (Nat.not_lt.mpr (by show Array.size (List.foldl _ _ (List.replicate k _))<=_;rw[e,gm,zj];exact gf O (by decide)))) ?_
  wp_walk
  exact⟨_,rfl,h⟩
def awr:Ej X (binaryOp .Mult) (λx y H Q=>∃a v,∃k:Nat,x=.ref a/\y=.int k/\Gd X.K H a [v]/\k<=100000/\(k=1->Q (.ref a) H)/\∀p,H p=none->Q (.ref p) (upd H p (.tup (List.replicate k v)))):=by
 intro B s σ H x y v u Q I rx ry h;obtain⟨a,d,k,rfl,rfl,M,P,q1,R⟩:=h;cases rx;obtain⟨t,rfl⟩:=ry;obtain⟨yt,N,D,_⟩:=I.tuple M;cases N with
 |cons N W =>
  cases W;obtain⟨⟨L,C,J,O⟩,G,S,n,E⟩:=id D;simp only at S E;subst S E;refine wpAny_binaryOp_repeat_ref (T :="tuple") (U :="int") (by decide) ⟨_,G,rfl⟩ (λV=>typeIs_int V _ _) ae2 F.fills_int_mul F.slot_int_rmul aqh F.slot_int_index.lookup
   (call_meets F.slot_int_rmul (typeIs_int s _ _) F.entry_int_rmul (F.args_int_rmul_2 _ _) (a3w _ _ a _ n C O) ⟨G,rfl,⟨_,G,rfl⟩,?_⟩)
  have go:∀Y:List Value,Y=List.replicate k _->Inv X B σ (upd H s.heap.objs.size (.tup (List.replicate k d))) { s with heap:=s.heap.push { cls:=.type "tuple",data:=.seq Y.toArray } }:=λY e=>I.laid (t':=s.toks) (o:=.tup (List.replicate k d)) (λb ob q=>au _ q) (bz _) ⟨by rw[zj];exact gf P (by decide),_,by rw[e];exact az6 N k,Yc.new _ _⟩
  by_cases Z:k=1
  .subst Z
   exact call_meets zb ⟨_,G,rfl⟩ F.entry_tuple_mul (F.args_tuple_mul_2 _ _) (baj a _ n C O t) ⟨G,.ref a,H,I,rfl,q1 rfl⟩
  by_cases A:k=0
  .subst A
   exact call_meets zb ⟨_,G,rfl⟩ F.entry_tuple_mul (F.args_tuple_mul_2 _ _) (bak a _ n C O t) ⟨G,.ref s.heap.objs.size,_,go [] rfl,rfl,R _ (I.Bq.fresh (bz _))⟩
  .exact call_meets zb ⟨_,G,rfl⟩ F.entry_tuple_mul (F.args_tuple_mul_2 _ _) (bal a _ k n C O t (by omega) P) ⟨G,.ref s.heap.objs.size,_,go _ rfl,rfl,R _ (I.Bq.fresh (bz _))⟩
end L2
namespace Att
open PySem PySem.W PySem.Calls PyProof.Rows
def Wu:∀(ns:Xs)(Y:Zl),WellAll P h Y (ns.map WData.int)->IntsAre Y ns:=by
 intro ns
 induction ns with
 |nil =>
  intro Y w;rw[List.map_nil]at w;cases w;exact .nil
 |cons n ns T =>
  intro Y w;rw[gq]at w;cases w with
  |cons a b =>
   cases a;exact .cons _ _ (T _ b)
def alw{l:OpenLaw}(N:l.most=some n)(T:l.row.toRowW.claim.pre args=true)(B:WellAll P h vals args) :
 ∃a U Z,vals=[Value.ref a]/\args=[WData.list (Z.map WData.int)]/\h.get? a=some { cls:=.type "list",data:=.seq U.toArray }/\IntsAre U Z/\Z.length<=n:=by
 have O:WShape.hasAll [] args [.list .int]=true:=(pre_splitW T).1;have C:l.pre.holds [] { args:=args }=true:=(pre_splitW T).2;obtain⟨d,r,rfl,R,Q⟩:=hasAllW_cons O;obtain rfl:=hasAllW_nil Q;obtain⟨F,rfl,V⟩:=hasW_list R;obtain⟨Z,rfl⟩:=items_int V;have Y:Z.length<=n:=by
  unfold OpenLaw.pre at C;have J:(WTm.not (.lt (.lit (.int (n:Int))) (.len (.arg 0)))).holds [] { args:=[.list (Z.map .int)] }=true:=by have J:=(holds_andW C).1;rw[N]at J;exact J
  have G:=condW_of J (w_not (w_lt w_lit (w_len_list (w_arg rfl))));rw[dm]at G;refine Nat.le_of_not_lt λq=>?_
  have W:(n:Int)<((Z.length:Nat):Int):=m_ q
  first
   |(rw[v8 W]at G;exact absurd G (by decide))
   |(simp at G;omega)
 cases B with
 |cons L S =>
  cases S;cases L with
  |list H E=>exact⟨_,_,Z,rfl,rfl,H,Wu Z _ E,Y⟩
def alx(l:OpenLaw)(Y:List WData):l.row.toRowW.claim.post Y (.bool true) Y=true:=
 postW_of (r:=l.row.toRowW) (X:=(true==true))
  (show WShape.has [] (.bool true) .bool=true by first|rfl|decide|simp[WShape.has,WShape.arms,WShape.armsAll])
  (show(WTm.eq .res (.lit (.bool true))).value [] { args:=Y,res:=some (.bool true),after:=Y }=some (.bool (true==true))from w_eq_bool (w_res rfl) w_lit) rfl
def ae4{l:OpenLaw}(Q:l.most=some n)(C:d.params.defaults=[])(call:∀(w:World) (U Z:Shared) (mg mb:Zs) (fa:Addr) (o:Obj) (pm cd qq:Value) (a:Addr) (vs:Zl) (ns:Xs),
 Ground q loose [] XP w U mg mb Z.heap->YP w Z.heap ->
 Z.heap.get? fa=some o->o.data=.func (docDef d.name d.params d.body d.scope pm cd qq)->Z.heap.CodeRec cd d.name->mg d.name=some (.ref fa) ->
 Z.heap.get? a=some { cls:=.type "list",data:=.seq vs.toArray }->IntsAre vs ns->ns.length<=n->Z.gens=#[] ->
 codeAny (model l.prog w) callerA (.call (.ref fa) ⟨[.ref a],[]⟩) (λr s'=>r=.ok (.ret (.bool true))/\OldK Z.heap s'.heap/\s'.os=Z.os/\AllBare s'.gens) Z) :
 WalkO q loose XP YP l.row.toRowW d [] (λf vs=>PySem.call f vs):=by
 intro w U Z mg mb G Y fa o pm cd qq K kV D W O S E F P R as L V qk N qv;obtain rfl:K=.none:=Dflts.none S C;obtain rfl:kV=.none:=Dflts.noKw S;obtain⟨a,vs,ns,rfl,rfl,B,T,J⟩:=alw Q L N;refine enter_call (yc (call w U Z mg mb fa o pm cd qq a vs ns G Y D (fd_plain W) O E B T J F) λr s' M=>?_);obtain⟨rfl,I,X,A⟩:=M;exact⟨.inl ⟨.bool true,.bool true,[],rfl,λ_=>rfl,.bool true,alx l _,λ_=>⟨List.Pairwise.nil,λ_ H=>(nomatch H)⟩⟩,I,X,A⟩
end Att
namespace L2
open PySem PySem.Spec PyProof.Rows
theorem aav:∀{T:Zl}{Y:Xs},IntsAre T Y->Vals (Y.map V.int) T
 |_,_,.nil=>.nil|_,_,.cons n t h=>.cons ⟨t,rfl⟩ (aav h)
def Only(H:Hp):Prop:=∀b,H b=none\/∃o Y,H b=some (.Qt o (.lst Y))
def aqi{K:Fg}(KX:K.In s₁.heap)(J:s₁.heap.Ns mainGlobals mg)(Y:s₁.heap.Ns builtinsNs mb)(S:∀x:Str,x≠"__name__"-> mb x=bootBuiltins x)(Q:s₁.heap.NoLimit)(hg:s₁.gens=#[])(E:s₁.heap.get? a=some { cls:=.type "list",data:=.seq vs.toArray })(X:IntsAre vs ns)(hl:ns.length<=sizeLine)(hr:Bj k callerA)(F:∀U:Heap,K.In U->U.Ns mainGlobals mg->Hs P w K mg U CX k fa fd [x] sp)(W:∀(s:Shared) (u:Value),BindsTo s fd ⟨[u],[]⟩ [(x,u)])(M:∀H:Hp,Only H->J2 K H a (ns.map V.int)->sp [.ref a] H (λv _=>v=.bl true) λ_ _ _=>False)(R:∀H e Z,CX [] H s₁ (λ_ _ _=>False) e Z->False) :
 codeAny (model P w) callerA (.call (.ref fa) ⟨[.ref a],[]⟩) (λr Z=>r=.ok (.ret (.bool true))/\OldK s₁.heap Z.heap/\Z.os=s₁.os/\AllBare Z.gens) s₁:=by
 have rv:=aav X;have C:=X.length;have G:∀H:Hp,Only H->J2 K H a (ns.map V.int)->Ru P w H s₁.heap->(∀b,H b≠none->b=a)->(H a≠none->K.lookup a=none) ->
  codeAny (model P w) callerA (.call (.ref fa) ⟨[.ref a],[]⟩) (λr Z=>r=.ok (.ret (.bool true))/\OldK s₁.heap Z.heap/\Z.os=s₁.os/\AllBare Z.gens) s₁:=by
  intro H hO hS Bq hA hK;have Ib:∀{b:Addr}{o:Obj},s₁.heap.get? b=some o->H b=none->(ab9 s₁.heap H).get? b=some o:=λe n=>ape e n
  have D:∀{b:Addr}{o:Obj}{L:Array DictEntry}{ep:Nat},s₁.heap.get? b=some o->o.data=.dict L ep->H b=none:=fun{b o L ep} e d=>by
   cases q:H b with
   |none=>rfl
   |some u =>
    have A:b=a:=hA b (by rw[q];simp);subst A;rw[E]at e;cases e;have d':Data.seq vs.toArray _=Data.dict L ep:=d;cases d'
  have T:∀{b:Addr}{m:Zs},s₁.heap.Ns b m->(ab9 s₁.heap H).Ns b m:=fun{b m} ⟨o,L,ep,e,d,r⟩=>⟨o,L,ep,Ib e (D e d),d,r⟩
  have B:K.In (ab9 s₁.heap H):=λb o e=>Ib (KX b o e) (by
   cases q:H b with
   |none=>rfl
   |some u =>
    have A:b=a:=hA b (by rw[q];simp);subst A;rw[hK (by rw[q];simp)]at e;cases e)
  have hM:Mod K mg (ab9 s₁.heap H):=⟨B,T J,⟨mb,T Y,S⟩,let ⟨mc,h1,h2⟩:=Q;⟨mc,T h1,h2⟩⟩;have e0:ahn P w K mg (ab9 s₁.heap H) callerA [] s₁ H:=⟨rfl,hM,λb o e=>avy e,Nat.le_of_eq (alf _ _),trivial,λb Y=>absurd (show b∈([]:X9)from Y) (by simp),Bq,.of_eq hg⟩;refine yc ((F _ B (T J)).run callerA [] s₁ H ⟨[.ref a],[]⟩ [.ref a] [.ref a] _ _ hr e0 (W s₁ (.ref a)) (.cons rfl .nil) (M H hO hS)) λr Z h=>?_
  cases r with
  |error e=>exact(R H e Z h).elim
  |ok fl =>
   cases fl with
   |next=>exact False.elim h|brk=>exact False.elim h|cont=>exact False.elim h
   |ret u =>
    obtain⟨v,H',os,N,un,I,r',q⟩:=h;have q':v=.bl true:=q;subst q';obtain rfl:u=Value.bool true:=r';refine⟨rfl,OldK.of_keep λb o e=>?_,os,N⟩;cases q:H b with
    |none=>exact un.keep b o e q (by intro z;exact absurd (show b∈([]:X9)from z) (by simp)) (by simp)
    |some u =>
     rcases hO b with z|⟨ob,xs,z⟩
     .rw[q]at z;cases z
     .have z2:=un.ab8 b ob _ z
      obtain⟨e1,_⟩:=Bq b _ z;obtain⟨e2,_⟩:=I b _ z2;rw[e]at e1;cases e1;exact e2
 cases hk:K.lookup a with
 |some o =>
  have e:=KX a o hk;rw[E]at e;cases e;refine G (λ_=>none) (λ_=>.inl rfl) (.inr ⟨_,vs.toArray,_,hk,rfl,rfl,rfl,by rw[gm,C];exact hl,by simpa using rv⟩) (λb u z=>by have O:(none:Option HO)=some u:=z;cases O) (λb z=>absurd rfl z) λz=>absurd rfl z
 |none =>
  refine G (λb=>if b=a then some (.Qt { cls:=.type "list",data:=.seq vs.toArray } (.lst (ns.map V.int)))else none) (λb=>?_) (.inl (.inr ⟨{ cls:=.type "list",data:=.seq vs.toArray },dj rfl⟩)) (λb u z=>?_) (λb z=>?_) λ_=>hk
  .by_cases Y:b=a
   .exact .inr ⟨_,_,dj Y⟩
   .exact .inl (cj Y)
  .by_cases Y:b=a
   .have O:=(dj Y).symm.trans z
    cases O;subst Y;exact⟨E,by rw[dm];exact hl,vs,_,rv,E⟩
   .have O:=(cj Y).symm.trans z
    cases O
  .by_cases Y:b=a
   .exact Y
   .exact absurd (cj Y) z
end L2
namespace L2
open PySem PySem.Spec PyProof.Rows
def awt{l:PySem.W.OpenLaw}{K:Params->Fg}{CX:World->CXT}{sp:World->Sp}(M:l.most=some n)(r:n<=sizeLine)(L:d.params.defaults=[])(j:Bj k callerA)(A:∀(w:World) (h:Heap),YP w h->(K w.params).In h)(F:∀(w:World) (mg:Zs) (fa:Addr) (h:Heap),(K w.params).In h->h.Ns mainGlobals mg->mg d.name=some (.ref fa) ->
 ∃fd:FuncData,(∀(s:Shared) (u:Value),BindsTo s fd ⟨[u],[]⟩ [(x,u)]) /\
  ∀Z:Heap,(K w.params).In Z->Z.Ns mainGlobals mg->Hs l.prog w (K w.params) mg Z (CX w) k fa fd [x] (sp w))(E:∀(w:World) (H:Hp) (a:Addr) (U:Xs),U.length<=n->Only H->J2 (K w.params) H a (U.map V.int)->sp w [.ref a] H (λv _=>v=.bl true) λ_ _ _=>False)(C:∀(w:World) (H:Hp) (s:Shared) (e:Value) (s':Shared),CX w [] H s (λ_ _ _=>False) e s'->False) :
 PySem.W.WalkO q loose XP YP l.row.toRowW d [] (λf vs=>PySem.call f vs):=by
 refine Att.ae4 M L λw S O mg t fa o i m c a vs U G Y ho p I P N B J X=>?_
 have R:=A w _ Y;obtain⟨fd,Q,z⟩:=F w mg fa _ R G.T.g P;exact aqi R G.T.g G.T.b G.T.builtins G.T.nolimit X N B (gf J r) j z Q (λH y D=>E w H a U J y D) λH e s'=>C w H O e s'
end L2
namespace L2
open PySem PySem.Spec PyProof.Rows
noncomputable def inClass(s:Stmt)(j:Nat):Stmt:=match s with
 |.ClassDef _ _ _ body _ _ _ _ _ _ _=>body.getD j (.Pass ⟨0,0,0,0⟩)|_=>.Pass ⟨0,0,0,0⟩
noncomputable def Ie(s:Stmt):Arguments:=match s with
 |.FunctionDef _ a _ _ _ _ _ _ _ _=>a|_=>{ posonlyargs:=[],args:=[],vararg:=none,kwonlyargs:=[],kw_defaults:=[],kwarg:=none,defaults:=[] }
noncomputable def Ft(s:Stmt):List Stmt:=match s with
 |.FunctionDef _ _ b _ _ _ _ _ _ _=>b|_=>[]
noncomputable def Bx(s:Stmt):Scope:=match s with
 |.FunctionDef _ _ _ _ _ _ sc _ _ _=>sc|_=>{ kind:=.function,names:=[],isGenerator:=false,isCoroutine:=false }
abbrev CX0:CXT:=λ_ _ _ _ _ _=>False
abbrev E0:XK:=λ_ _ _=>False
def aqj:Passes CX0 X E0:=λ_ _ _ _ _ _ _ h=>h.elim
structure Fun(K:Fg)(x qual:Str)(st:Stmt)(f:Addr)(fd:FuncData):Prop where
 ex:∃(oc:Value)(od:Option Addr)(kV doc pm:Value)(an:Option Addr)(cdv ct:Value)(osl:Array (Option Value)),
  fd=PySem.W.fnOf x qual (Ie st) (Ft st) (Bx st) .none kV doc pm an cdv ct/\K.lookup f=some ⟨oc,od,.func fd,osl⟩/\PySem.W.codeIn K cdv qual=true
 kp:PySem.W.keepIn K (.ref f)=true
def Fun.ok{K:Fg}{st:Stmt}(F:Fun K x qual st f fd)(S:W7 N ps (Bx st))(len:∀vs H Q E,sp vs H Q E->vs.length=ps.length)(Y:∀(U:Value) (A:Around) (Z:List Env) (s:Shared) (H:Hp) (vs:List V) (Q:VK) (E:XK),Bj k (A.deeper (envOfC qual (Bx st) s.heap.objs.size f U))->sp vs H Q E ->
 ∃t,Ud (aho CX0 P w K mg base N qual (Bx st) f U A Z s H E).nox (Ft st) t/\t { nx:=λ_ H'=>Q .non H',rt:=Q } (start N vs) H):Hs P w K mg base CX0 (k+1) f fd ps sp:=by
 obtain⟨R,I,kV,J,L,W,U,M,B,rfl,C,G⟩:=F.ex;refine a94 C G S len λA Z s H vs Q E O T=>?_
 obtain⟨t,h,q⟩:=Y U A Z s H vs Q E O T;exact⟨t,h.nox,q⟩
def Fun.binds{K:Fg}{st:Stmt}(F:Fun K x qual st f fd)(h:∀(kV Z pm:Value) (an:Option Addr) (U ct:Value) (us:Zl),us.length=ps.length->bindArgs (PySem.W.fnOf x qual (Ie st) (Ft st) (Bx st) .none kV Z pm an U ct) ⟨us,[]⟩=pure (ps.zip us)):Binds K fd ps []:=by obtain⟨G,J,kV,Z,pm,an,U,ct,T,rfl,B,Y⟩:=F.ex;exact .all (h kV Z pm an U ct)
def aqk{K:Fg}{st:Stmt}{f:Addr}{C:Value}{N J:Option Addr}{G:Array (Option Value)}{kV T O Y B:Value}(l:K.lookup f=some ⟨C,N,.func (PySem.W.fnOf x qual (Ie st) (Ft st) (Bx st) .none kV T O J Y B),G⟩)(c:PySem.W.codeIn K Y qual=true)(k:PySem.W.keepIn K (.ref f)=true):Fun K x qual st f (PySem.W.fnOf x qual (Ie st) (Ft st) (Bx st) .none kV T O J Y B):=⟨⟨C,N,kV,T,O,J,Y,B,G,rfl,l,c⟩,k⟩
def aaw{A:Around}{k:Nat}(Y:Bj k A):A.units+1<cLine:=Cq (By (by decide:1<=64) _) Y.units
end L2
namespace L2
open PySem PySem.Spec PyProof.Rows
noncomputable def Mi(cells:Xt):List (Str×NameKind)->List (Str×Addr)->List (Str×Addr)
 |[],cs=>cs|(n,k)::r,cs=>Mi cells r (if k==.free then(n,(cells.lookup n).getD 0)::cs else cs)
theorem Wg{T Y:Type}{f:T->Y->Sem (ForInStep Y)}{g:T->Y->Y}:∀{l:List T}(c:Y),(∀x∈l,∀c,f x c=pure (.yield (g x c)))->forIn l c f=pure (l.foldl (λc x=>g x c) c)
 |[],c,_=>rfl
 |x::l,c,h=>by
  rw[List.forIn_cons,h x fc,pure_bind];exact Wg (g x c) λy G=>h y (bw _ G)
theorem Wh(cells:Xt):∀(l:X0)(Y:Xt),Mi cells l Y=l.foldl (λc x=>if x.2==.free then(x.1,(cells.lookup x.1).getD 0)::c else c) Y
 |[],_=>rfl|(n,k)::r,Y=>Wh cells r _
def Yi(h:∀y∈scope.names,y.2=.free->∃c,env.cells.lookup y.1=some c):closureFor scope env=pure (Mi env.cells scope.names []):=by
 simp only[closureFor];rw[Wg (g:=λx c=>if x.2==.free then(x.1,(env.cells.lookup x.1).getD 0)::c else c) [] (λx J c=>by
  obtain⟨n,k⟩:=x
  by_cases T:k=.free
  .subst T
   obtain⟨c',Y⟩:=h (n,.free) J rfl;have Y:env.cells.lookup n=some c':=Y;simp[cellOf,Y]
  .have G:(k==NameKind.free)=false:=by simpa using T
   simp[G]),Wh]
 rfl
theorem ae5(cells:Xt):∀(l:X0)(T:Xt)(x:Str)(c:Addr),(∀y∈l,y.2=.free->∃c,cells.lookup y.1=some c)->(Mi cells l T).lookup x=some c ->
 T.lookup x=some c\/cells.lookup x=some c
 |[],T,x,c,_,h=>.inl h
 |(n,k)::r,T,x,c,hy,h=>by
  rcases ae5 cells r _ x c (λz B=>hy z (bw _ B)) h with q|q
  .by_cases G:k=.free
   .subst G
    simp only[Aq,lz,qu]at q;cases e:x==n with
    |true =>
     rw[e]at q;obtain⟨c',Y⟩:=hy (n,.free) fc rfl;have Y:cells.lookup n=some c':=Y;simp only[Y,zf,Ad]at q;subst q;rw[eq_of_beq e];exact .inr Y
    |false=>rw[e]at q;exact .inl q
   .have J:(k==NameKind.free)=false:=by simpa using G
    simp only[J,du,jq]at q;exact .inl q
  .exact .inr q
theorem Yj(cells:Xt):∀(l:X0)(Y:Xt)(x:Str),(∃c,Y.lookup x=some c)->∃c,(Mi cells l Y).lookup x=some c
 |[],Y,x,h=>h
 |(n,k)::r,Y,x,h=>by
  refine Yj cells r _ x ?_
  by_cases T:(k==NameKind.free)=true
  .rw[dj T,qu]
   cases e:x==n with
   |true=>exact⟨_,rfl⟩|false=>exact h
  .rw[cj T];exact h
theorem Vj(cells:Xt):∀(l:X0)(Y:Xt)(x:Str),(x,NameKind.free)∈l->∃c,(Mi cells l Y).lookup x=some c
 |(n,k)::r,Y,x,h=>by
  rcases dh.mp h with q|q
  .obtain⟨rfl,rfl⟩:=Prod.mk.inj q
   refine Yj cells r _ x ⟨(cells.lookup x).getD 0,?_⟩;rw[dj (by simp),qu,Aq]
  .exact Vj cells r _ x q
theorem Qg{Y:Env}:∀{T:X0}{x:Str},
 (T.map λ(y:Str×NameKind)=>if(y.2==NameKind.free&&Y.scope.kind==.function&&Y.kindOf y.1==some .cell)then(y.1,NameKind.cell)else(y.1,y.2)).lookup x
  = (T.lookup x).map λk=>if(k==NameKind.free&&Y.scope.kind==.function&&Y.kindOf x==some .cell)then NameKind.cell else k
 |[],_=>rfl
 |(n,k)::r,x=>by
  have J:=@Qg Y r x;rw[gq];cases hx:x==n with
  |true =>
   have e:=eq_of_beq hx;subst e;clear hx
   by_cases G:(k==NameKind.free&&Y.scope.kind==.function&&Y.kindOf x==some .cell)=true
   .simp only[G,lz,qu,Aq,wz]
   .have B:(k==NameKind.free&&Y.scope.kind==.function&&Y.kindOf x==some .cell)=false:=by simpa using G
    simp only[B,du,jq,qu,Aq,wz]
  |false =>
   by_cases G:(k==NameKind.free&&Y.scope.kind==.function&&Y.kindOf n==some .cell)=true
   .simp only[G,lz,qu,hx];exact J
   .simp only[G,qu,hx];simpa[qu,hx]using J
theorem mem_of_lookup{Y T:Type}[BEq Y][LawfulBEq Y]:∀{l:List (Y×T)}{x:Y}{y:T},l.lookup x=some y->(x,y)∈l
 |(a,b)::r,x,y,h=>by
  rw[qu]at h;cases e:x==a with
  |true=>rw[e]at h;cases h;rw[eq_of_beq e];exact fc|false=>rw[e]at h;exact bw _ (mem_of_lookup h)
def Ov(X:Cx)(N:Yf)(Y:Scope)(C:Addr)(T:X9)(s:Shared)(H:Hp):Cx where
 prog:=X.prog
 w:=X.w
 K:=X.K
 mg:=X.mg
 base:=X.base
 A:=X.A
 N:=N
 s₀:=s
 H₀:=H
 env:=compEnvC Y (Mi X.env.cells Y.names []) C X.env
 outer:=X.stack
 stack:=X.stack
 ex:=T
 fn:=λ_=>false
 calm:=X.calm
 pn:=[]
 xe:=λ_ _=>False
structure Hz(X:Cx)(N:Yf)(scope:Scope):Prop where
 kind:scope.kind=.function
 aql:∀y∈scope.names,y.2≠.cell
 locs:∀y∈scope.names,y.2=.local->scope.names.lookup y.1=some .local
 frees:∀y∈scope.names,y.2=.free->X.env.kindOf y.1=some .cell\/X.env.kindOf y.1=some .free
 uniq:∀x k,(x,k)∈scope.names->scope.names.lookup x=some k
 long:X.N.length<=N.length
 vis:∀i x,i<X.N.length->N[i]?=some x->Vis (relabel scope X.env) x->X.N[i]?=some x/\scope.names.lookup x=some .free
theorem Hz.cells(B:Hz X N scope)(ok:X.Ok):∀y∈scope.names,y.2=.free->∃c,X.env.cells.lookup y.1=some c:=λy T Y=>ok.has y.1 (B.frees y T Y)
def Hz.clos(B:Hz X N scope)(ok:X.Ok):closureFor scope X.env=pure (Mi X.env.cells scope.names []):=Yi (B.cells ok)
def Hz.inCells(B:Hz X N scope)(ok:X.Ok)(h:(Mi X.env.cells scope.names []).lookup x=some c):X.env.cells.lookup x=some c:=by
 rcases ae5 _ _ _ _ _ (B.cells ok) h with q|q
 .simp at q
 .exact q
def ae6{X:Cx}(x:Str):(compEnvC scope cl C X.env).kindOf x=(scope.names.lookup x).map λk=>if(k==NameKind.free&&X.env.scope.kind==.function&&X.env.kindOf x==some .cell)then NameKind.cell else k:=by show(relabel scope X.env).names.lookup x=_;exact Qg
def aly(B:Hz X N scope)(I:Inv X pins σ H s)(V:∀b∈U,Ws X pins H b)(S:∀b∈U,∃o,s.heap.get? b=some o)(R:Z.Ns (s.heap.objs.size+1) λ_=>none)(E:∀b o,s.heap.get? b=some o->Z.get? b=some o)(A:Z.get? s.heap.objs.size=some { cls:=.type "list",data:=.seq ([]:Zl).toArray }) :
 Inv (Ov X N scope (s.heap.objs.size+1) U s H) [] (σ++List.replicate (N.length-X.N.length) none) (upd H s.heap.objs.size (.lst [])) { s with heap:=Z,toks:=t }:=by
 have ok:=I.ok;have hD:H s.heap.objs.size=none:=I.Bq.fresh (bz _);have hC:H (s.heap.objs.size+1)=none:=I.Bq.fresh (vd _);have W:s.heap.objs.size+1≠s.heap.objs.size:=Nat.succ_ne_self _;have lt:∀b∈U,b<s.heap.objs.size:=λb J=>by obtain⟨o,e⟩:=S b J;exact bu e
 have P:∀x c,X.env.cells.lookup x=some c->c<s.heap.objs.size:=λx c e=>by obtain⟨v,o,ho,_⟩:=I.cell x c e;exact bu ho
 refine⟨⟨ok.mod,B.kind,ok.glob,ok.blt,vd _,?_,?_,?_,ok.hd,ok.frames,.inl rfl,?_,λb o e=>I.bs b o e,gf ok.bsz I.sz,?_,?_,I.stack,I.ai4⟩,rfl,I.bare,?_,?_,?_,?_,?_,?_,?_,?_⟩
 .intro x y c T hy
  exact ok.inj x y c (B.inCells ok T) (B.inCells ok hy)
 .intro x T
  rw[show(Ov X N scope (s.heap.objs.size+1) U s H).env.kindOf x=_ from ae6 x]at T;cases e:scope.names.lookup x with
  |none=>rw[e]at T;rcases T with q|q<;>simp at q
  |some k =>
   have C:k=.free:=by
    rw[e]at T;cases k with
    |free=>rfl|cell=>exact absurd rfl (B.aql _ (mem_of_lookup e))|«local»=>rcases T with q|q<;>simp at q
    |globalExplicit=>rcases T with q|q<;>simp at q
    |globalImplicit=>rcases T with q|q<;>simp at q
   subst C;exact Vj _ _ _ _ (mem_of_lookup e)
 .intro x c h;cases h
 .intro b J
  refine⟨λe=>?_,λx c O e=>?_⟩
  .have q:=lt b J
   have e:b=s.heap.objs.size+1:=e;rw[e]at q;exact absurd q (Nat.not_lt.mpr (vd _))
  .obtain⟨_,_,_,_,K,_⟩:=V b J
   exact K x c (B.inCells ok O) e
 .intro b o e J
  obtain⟨_,_,_,f3,_⟩:=V b J;rcases f3 with q|q
  .exact ok.apg b o e q
  .exact uc _ (iz (bu e) (gf ok.bsz q))
 .intro b J q
  obtain⟨_,f1,f2,_⟩:=V b J;rcases dh.mp (I.aca b q)with z|z
  .exact f1 z
  .exact f2 z
 .exact Un.laid E (bz _) hD
 .refine⟨_,R,λi x v D Y hv=>?_⟩
  have F:i<X.N.length:=by
   rcases Av i σ.length with q|q
   .rw[I.len]at q;exact q
   .rw[ji q]at Y
    rw[List.getElem?_replicate]at Y;split at Y<;>simp at Y
  rw[gn (by rw[I.len];exact F)]at Y;obtain⟨T,C⟩:=B.vis i x F D hv;obtain⟨m,_,hl⟩:=I.loc;have L:=B.frees _ (mem_of_lookup C) rfl;have Q:Vis X.env.scope x:=by
   rcases L with q|q
   .exact .inr (.inl q)
   .exact .inr (.inr q)
  obtain⟨u,ru,M⟩:=hl i x v T Y Q;refine⟨u,ru,.inr ⟨?_,?_⟩⟩
  .rw[show(Ov X N scope (s.heap.objs.size+1) U s H).env.kindOf x=_ from ae6 x,C]
   simp only[wz];split
   .exact .inl rfl
   .exact .inr rfl
  .rcases M with⟨q,_⟩|⟨_,c,O,ic⟩
   .rcases L with z|z<;>rw[q]at z<;>cases z
   .obtain⟨c',G⟩:=Vj X.env.cells scope.names [] x (mem_of_lookup C)
    have:=B.inCells ok G;rw[O]at this;cases this;exact⟨c,G,ic.keeps E⟩
 .intro x c O
  obtain⟨v,iv⟩:=I.cell x c (B.inCells ok O);exact⟨v,iv.keeps E⟩
 .show upd H s.heap.objs.size (.lst []) (s.heap.objs.size+1)=none
  rw[o7 W];exact hC
 .intro x c O
  have G:=B.inCells ok O;rw[o7 (gh (P x c G))];exact I.Qc x c G
 .intro p hp;simp[Ov]at hp
 .exact Ru.laid I.Bq E (bz _) ⟨jd _,[],0,.nil,A⟩
 .show(σ++List.replicate (N.length-X.N.length) none).length=N.length
  rw[jc,zj,I.len];have:=B.long;omega
def Qh(I:Nat->Shared->Prop)(B:∀n s,I n s->wpAny (model prog w) A (pyNext it) (λr qq=>match r with
 |none=>R (.ok .next) qq
 | some v=>wpAny (model prog w) A (letOwnedTupleGo target it v) (λ_ U=>wpAny (model prog w) A (assign target env v) (λ_ qk =>
  wpAny (model prog w) A (forIn ifs true λc r=>if r=true then do let ok<-isTrue c env (eval c env);pure (ForInStep.yield ok)else pure (ForInStep.yield r)) (λok Z =>
   if ok=true then wpAny (model prog w) A (eval elt env) (λx qv =>
    wpAny (model prog w) A (call (.builtin "list.append") [acc,x]) (λ_ q0=>∃m,m<n/\I m q0) (λ_ _=>False) qv) (λ_ _=>False) Z
   else ∃m,m<n/\I m Z) (λ_ _=>False) qk) (λ_ _=>False) U) (λ_ _=>False) qq) (λ_ _=>False) s)(n:Nat)(h:I n s) :
 codeAny (model prog w) A (.compLoop (.ListComp elt [⟨target,iter,ifs,0⟩] scope pos) 0 it acc env) R s:=by
 have S:∀{L:Type}{t:Sem L}{Q:L->Shared->Prop}{E:Y1}{s:Shared},wpAny (model prog w) A t Q (λ_ _=>False) s->wpAny (model prog w) A t Q E s:=λh=>j9 h (λ_ _ q=>q) λ_ _ f=>f.elim
 refine codeAny_loop rfl I (λn s P=>?_) n h;show wpAny _ A ((compTurn (.ListComp elt [⟨target,iter,ifs,0⟩] scope pos) 0 it acc env).onRaise (λx=>do noteFrame x env;theTreesLotGoes x)) _ _ s;refine wpAny_noted ?_;rw[compTurn_list];refine aa (wpAny_standAt (aa (j9 (B n s P) (λr qq T=>?_) λ_ _ Y=>Y.elim)));cases r with
 |none=>exact aj T
 |some v =>
  refine aa (j9 T (λ_ U J=>?_) λ_ _ Y=>Y.elim);refine aa (j9 J (λ_ qk O=>aa (j9 O (λok Z G=>?_) λ_ _ Y=>Y.elim)) λ_ _ Y=>Y.elim);cases ok with
  |false=>exact aj ⟨rfl,G⟩
  |true =>
   exact aa (aa (j9 G (λx qv C=>aa (j9 C (λ_ q0 N=>aj (aj ⟨rfl,N⟩)) λ_ _ Y=>Y.elim)) λ_ _ Y=>Y.elim))
def ae7(k:Nat)(E:TI)(g:TG)(S:TT)(P:TE):TE:=λG H Q=>E G H λJ O=>∀D,O D=none->∃W:Nat->Nat->Hp->Prop,(∃m,W 0 m (upd O D (.lst [])))/\∀i m H,W i m H ->
 (J.stop i H/\Q (.ref D) H)\/(J.go i H/\∀x C,J.yld i H x C->g x (G++List.replicate k none) C λY R=>Y.length=(G++List.replicate k none).length /\
  (∀(j:Nat) v,(G++List.replicate k none)[j]?=some (some v)->Y[j]?=some (some v))/\S Y R λb L =>
   if b=true then P Y L λv N=>∃B T,N D=some (.lst B)/\B.length<sizeLine/\T<m/\W (i+1) T (upd N D (.lst (B++[v])))else ∃T,T<m/\W (i+1) T L)
def PTs(X:Cx)(Y:Ya)(T:TT):Prop:=(Y=[]/\T=λ_ H Q=>Q true H)\/∃c,Y=[c]/\PT X c T
def aax(I:Inv X pins σ H s)(Y:∀b∈fp,Ws X pins H b)(J:Inv (Ov X N scope (s.heap.objs.size+1) fp s H) [] Z U s3):Inv X pins σ U s3/\∃m,s3.heap.Ns (s.heap.objs.size+1) m:=by
 refine⟨I.call' J.os J.base J.Bq J.bare λb T=>?_,?_⟩
 .obtain⟨_,f1,_,O,B,f5⟩:=Y b T
  exact⟨O,f1,B,f5⟩
 .obtain⟨m,G,_⟩:=J.loc
  exact⟨m,G⟩
def alz(I:Inv X pins σ H s)(O:Inv X pins σ Z s3)(B:Z (s.heap.objs.size+1)=none)(T:Heap.SameBut (s.heap.objs.size+1) s3.heap U):Inv X pins σ Z { s3 with heap:=U }:=by
 have big:∀b o,s.heap.get? b=some o->b≠s.heap.objs.size+1:=λb o e z=>by have:=bu e;rw[z]at this;exact absurd this (Nat.not_lt.mpr (vd _))
 refine O.turned (t':=s3.toks) (λb o J e=>T.extBut b o J e) B ?_ (.inr (gf I.sz (vd _))) ?_ ?_
 .intro e
  obtain⟨m,⟨o,_,_,Y,_⟩,_⟩:=I.loc;exact big _ o Y e.symm
 .intro x c C
  obtain⟨v,o,Y,_⟩:=I.cell x c C;exact big c o Y
 .intro p G
  exact big p.1 p.2 (I.pin p G).1
def Yk{RR:Value->Addr->Result->Shared->Prop}(B:Hz X N scope)(Ko:X.calm=true)(I:Inv X pins σ H s)(hf:∀b∈Z,Ws X pins H b)(T:Turn X.prog X.w X.K tg J Z it tn)(h0:tn 0 s.heap)(hg:∀C s H,PG (Ov X N scope C Z s H) tg g)(hc:∀C s H,PTs (Ov X N scope C Z s H) ifs tc)(he:∀C s H,PE (Ov X N scope C Z s H) elt te){Q:VK}(W:Nat->Nat->Hp->Prop)(w0:W 0 m0 (upd H s.heap.objs.size (.lst [])))(zz:∀i m H,W i m H->(J.stop i H/\Q (.ref s.heap.objs.size) H)\/(J.go i H/\∀x H',J.yld i H x H'->g x (σ++List.replicate (N.length-X.N.length) none) H' λqq H2=>qq.length=(σ++List.replicate (N.length-X.N.length) none).length /\
 (∀(j:Nat) v,(σ++List.replicate (N.length-X.N.length) none)[j]?=some (some v)->qq[j]?=some (some v))/\tc qq H2 λb H3 =>
  if b=true then te qq H3 λv H4=>∃xs U,H4 s.heap.objs.size=some (.lst xs)/\xs.length<sizeLine/\U<m/\W (i+1) U (upd H4 s.heap.objs.size (.lst (xs++[v])))else ∃U,U<m/\W (i+1) U H3))(z2:∀q3 H3 s3,Inv (Ov X N scope (s.heap.objs.size+1) Z s H) [] q3 H3 s3->Q (.ref s.heap.objs.size) H3->RR (.ref s.heap.objs.size) (s.heap.objs.size+1) (.ok .next) s3) :
 wpAny (model X.prog X.w) X.A (newList []) (λzq zu=>wpAny (model X.prog X.w) X.A (newFunctionEnv scope X.env.globals (Mi X.env.cells scope.names []) [] X.env.qual none .none (some X.env)) (λqk q4 =>
  codeAny (model X.prog X.w) X.A (.compStart (.ListComp elt [⟨tg,iter,ifs,0⟩] scope pos) 0 (.ref it) zq { qk with scope:=relabel scope X.env }) (RR zq qk.locals) q4) E zu) E s:=by
 refine uq (wpAny_newFunctionEnv B.aql (by intro y hy;simp at hy) (λS G Y=>?_) B.kind);dsimp only at G Y⊢;have q2:(s.heap.push { cls:=.type "list",dict:=none,data:=.seq ([]:Zl).toArray }).objs.size=s.heap.objs.size+1:=j7 _ _;rw[q2]at G Y;have q0:∀b o,s.heap.get? b=some o->S.get? b=some o:=λb o e=>Y.extBut b o (λz=>absurd (bu e) (by rw[z];exact Nat.not_lt.mpr (vd _))) (au _ (au _ e))
 have Gi:S.get? s.heap.objs.size=some { cls:=.type "list",data:=.seq ([]:Zl).toArray }:=Y.extBut _ _ (gh (j4 _)) (au _ (cu _ rfl));have D:∀b∈Z,∃o,s.heap.get? b=some o:=λb L=>let ⟨o,e,_⟩:=T.obj 0 _ h0 b L;⟨o,e⟩
 have I0:=aly (t:=s.toks+([]:List (Str×Value)).length) B I hf D G q0 Gi;have M:∀{H':Hp},(∀b∈Z,H' b=none)->∀b∈Z,Ws (Ov X N scope (s.heap.objs.size+1) Z s H) [] H' b:=λhn b L=>by
  obtain⟨f0,f1,f2,f3,f4,f5⟩:=hf b L;refine⟨hn b L,?_,?_,.inl L,?_,λp hp=>(by simp[Ov]at hp)⟩
  .intro z
   obtain⟨o,e⟩:=D b L;have:=bu e;rw[show b=s.heap.objs.size+1 from z]at this;exact absurd this (Nat.not_lt.mpr (vd _))
  .intro q
   rcases dh.mp (I.aca b q)with z|z
   .exact f1 z
   .exact f2 z
  .intro x c hc
   exact f4 x c (B.inCells I.ok hc)
 have zw:∀b∈Z,upd H s.heap.objs.size (.lst []) b=none:=λb L=>by obtain⟨o,e⟩:=D b L;rw[o7 (gh (bu e))];exact(hf b L).1
 have V:∀s':Shared,s'={ s with heap:=S,toks:=s.toks+([]:List (Str×Value)).length }->codeAny (model X.prog X.w) X.A (.compLoop (.ListComp elt [⟨tg,iter,ifs,0⟩] scope pos) 0 (.ref it) (.ref s.heap.objs.size) (compEnvC scope (Mi X.env.cells scope.names []) (s.heap.objs.size+1) X.env))
  (RR (.ref s.heap.objs.size) (s.heap.objs.size+1)) s':=by
  rintro s' rfl;refine Qh (λn s'=>∃i P H',Inv (Ov X N scope (s.heap.objs.size+1) Z s H) [] P H' s'/\(∀(j:Nat) v,(σ++List.replicate (N.length-X.N.length) none)[j]?=some (some v)->P[j]?=some (some v))/\tn i s'.heap/\(∀b∈Z,H' b=none)/\W i n H') ?_ m0
   ⟨0,_,_,I0,λ_ _ z=>z,T.keep 0 _ _ h0 (λb _ o e=>q0 b o e),zw,w0⟩
  rintro n s3 ⟨i,q3,H3,I3,k3,q8,zv,w3⟩;have q5:=I3.weak (σ':=σ++List.replicate (N.length-X.N.length) none) (by rw[I3.len];exact I0.len) k3;rcases zz i n H3 w3 with⟨zk,qn⟩|⟨go,step⟩
  .refine Lb (T.done (Ov X N scope (s.heap.objs.size+1) Z s H) rfl rfl rfl Ko i [] s3 _ H3 (λ_ _=>False) q5 (M zv) q8 zk) λr s4 z_=>?_
   obtain⟨hr,I4⟩:=z_;subst hr;exact z2 _ _ _ I4 qn
  .refine Lb (T.item (Ov X N scope (s.heap.objs.size+1) Z s H) rfl rfl rfl Ko i [] s3 _ H3 (λ_ _=>False) q5 (M zv) q8 go) λr s4 z_=>?_
   obtain⟨u,hr,h4⟩:=z_;subst hr;refine Lb h4 λ_ s5 z_=>?_
   obtain⟨x,H5,I5,r5,y5,qv,z0⟩:=z_;have z3:=I5.pinned (M z0) (T.obj _ _ qv);refine Lb (hg _ _ _ _ s5 _ H5 x u _ z3 r5 (step x H5 y5)) λ_ s6 z_=>?_
   obtain⟨O,H6,I6,l6,k6,q6⟩:=z_;have R:∀{ai5:Zp}{F:Hp}{s7:Shared}{m:Nat},Inv (Ov X N scope (s.heap.objs.size+1) Z s H) ([]++Vg Z s5.heap) O F s7->m<n->W (i+1) m F ->
    ∃m,m<n/\∃i P H',Inv (Ov X N scope (s.heap.objs.size+1) Z s H) [] P H' s7/\(∀(j:Nat) v,(σ++List.replicate (N.length-X.N.length) none)[j]?=some (some v)->P[j]?=some (some v))/\tn i s7.heap/\(∀b∈Z,H' b=none)/\W i m H':=fun{_ F s7 m} I7 hm w7=>by
    refine⟨m,hm,i+1,O,F,I7.Qe,k6,T.keep _ _ _ qv λb L o e=>(I7.pin (b,o) (jn _ (jn _ (Ni L e)))).1,λb L=>?_,w7⟩;obtain⟨o,e,d⟩:=T.obj _ _ qv b L;exact(I7.pin (b,o) (jn _ (jn _ (Ni L e)))).2.1
   have q1:wpAny (model X.prog X.w) X.A (forIn ifs true λc r=>if r=true then do let ok<-isTrue c (compEnvC scope (Mi X.env.cells scope.names []) (s.heap.objs.size+1) X.env) (eval c (compEnvC scope (Mi X.env.cells scope.names []) (s.heap.objs.size+1) X.env));pure (ForInStep.yield ok)else pure (ForInStep.yield r))
    (TP (Ov X N scope (s.heap.objs.size+1) Z s H) ([]++Vg Z s5.heap) O λb H3 =>
     if b=true then te O H3 λv H4=>∃xs U,H4 s.heap.objs.size=some (.lst xs)/\xs.length<sizeLine/\U<n/\W (i+1) U (upd H4 s.heap.objs.size (.lst (xs++[v])))else ∃U,U<n/\W (i+1) U H3) (λ_ _=>False) s6:=by
    rcases hc (s.heap.objs.size+1) s H with⟨rfl,rfl⟩|⟨c,rfl,z1⟩
    .exact wpAny_tests_nil ⟨H6,I6,q6⟩
    .exact wpAny_tests_one (z1 _ s6 O H6 _ I6 q6)
   refine thT q1 λok s7 F I7 q7=>?_
   cases ok with
   |false =>
    obtain⟨U,hm,w7⟩:=(show ∃U,U<n/\W (i+1) U F from q7);exact R (ai5:=[]) I7 hm w7
   |true =>
    show wpAny _ _ _ _ _ _;refine Qu (he _ _ _ _ s7 O F _ I7 q7) λx s8 v H8 I8 r8 z_=>?_
    obtain⟨xs,U,hD,hl,hm,w8⟩:=z_;refine Lb (aau _ s8 O H8 (.ref s.heap.objs.size) [v] (.ref s.heap.objs.size) [x] (λ_ H'=>W (i+1) U H') I8 rfl (.cons r8 .nil) ⟨_,xs,v,rfl,rfl,hD,hl,w8⟩) λ_ s9 z_=>?_
    obtain⟨_,H9,I9,_,w9⟩:=z_;exact R (ai5:=[]) I9 hm w9
 rw[q2];exact codeAny_compStart_list (V _ rfl) (T.self _ 0 _ _ _ (T.keep 0 _ _ h0 (λb _ o e=>q0 b o e)) (V _ rfl))
def ajf(B:Hz X N scope)(D:X.calm=true)(K:PI X tg iter U)(z:∀C Z s H,PG (Ov X N scope C Z s H) tg g)(j:∀C Z s H,PTs (Ov X N scope C Z s H) ifs tc)(M:∀C Z s H,PE (Ov X N scope C Z s H) elt te)(r:∀x,foldedSetIterable iter X.env x=pure x):PE X (.ListComp elt [⟨tg,iter,ifs,0⟩] scope pos) (ae7 (N.length-X.N.length) U g tc te):=by intro Y s P H Q I h;rw[eval_ListComp];refine wpAny_comprehension_free (use:=none) rfl r (B.clos I.ok) B.kind B.locs (Lb (K Y s P H _ I h) λv k d=>Lb d λS R p=>?_);obtain⟨it,Z,n,J,o,rfl,I2,T,L,f2,y⟩:=p;obtain⟨W,⟨i,u⟩,G⟩:=y R.heap.objs.size (I2.Bq.fresh (bz _));refine Yk (RR:=λO C=>compPost (model X.prog X.w) X.A X.xe none (EP X Y P Q) O C) B D I2 f2 T L (λC s H=>z C Z s H) (λC s H=>j C Z s H) (λC s H=>M C Z s H) W u G ?_;intro q t f E V;obtain⟨l,m,F⟩:=aax I2 f2 E;exact⟨m,F,λb c=>⟨.ref R.heap.objs.size,t,alz I2 l E.free c,rfl,V⟩⟩
def ajg(B:Hz X N scope)(Ko:X.calm=true)(hi:PI X tg iter wi)(hg:∀C Z s H,PG (Ov X N scope C Z s H) tg g)(U:∀C Z s H,PTs (Ov X N scope C Z s H) ifs tc)(he:∀C Z s H,PE (Ov X N scope C Z s H) elt te)(hs:∀x,foldedSetIterable iter X.env x=pure x)(hN:X.N.Nodup)(hy:X.N[i]?=some y)(hl:X.env.scope.names.lookup y=some .local)(F:swapsWith (.ListComp elt [⟨tg,iter,ifs,0⟩] scope pos) (some (.Name y py)) aqm.line X.env=pure true) :
 PS X (.Assign [.Name y py] (.ListComp elt [⟨tg,iter,ifs,0⟩] scope pos) aqm) (a2y (ae7 (N.length-X.N.length) wi g tc te) (ai6 i)):=by
 intro Y s S H D I h;rw[exec_Assign_Name_used _ _ _ _ F];refine aa (wpAny_standAt (aa ?_));show wpAny _ _ (do let _<-comprehension (.ListComp elt [⟨tg,iter,ifs,0⟩] scope pos) scope X.env _ (newList []) false (eval iter X.env) (some (assign (.Name y py) X.env))) _ _ s;refine aa (j9 (wpAny_comprehension_free (use:=some (assign (.Name y py) X.env)) (Q:=λ_ P=>SP X Y D .next P) rfl hs (B.clos I.ok) B.kind B.locs
  (Lb (hi Y s S H _ I h) λv s1 h1=>Lb h1 λq0 G h2=>?_)) (λ_ P hq=>aj (aj hq)) λ_ _ e=>e)
 obtain⟨it,Z,tn,J,H2,rfl,I2,T,qk,f2,q2⟩:=h2;obtain⟨W,⟨m0,w0⟩,O⟩:=q2 G.heap.objs.size (I2.Bq.fresh (bz _));refine Yk (RR:=λqq C=>compPost (model X.prog X.w) X.A X.xe (some (assign (.Name y py) X.env)) (λ_ P=>SP X Y D .next P) qq C) (Q:=λx H1=>ai6 i x S H1 D.nx) B Ko I2 f2 T qk (λC s H=>hg C Z s H) (λC s H=>U C Z s H) (λC s H=>he C Z s H) W w0 O ?_;intro q1 H3 s3 I3 q3;obtain⟨J3,m,hn⟩:=aax I2 f2 I3;have qv:=I3.free;obtain⟨R,_,_,L,M,_⟩:=id hn;have big:∀b o,G.heap.get? b=some o->b≠G.heap.objs.size+1:=λb o e z=>by have:=bu e;rw[z]at this;exact absurd this (Nat.not_lt.mpr (vd _))
 have E:G.heap.objs.size+1≠X.env.locals:=λe=>by obtain⟨m,⟨o,_,_,ho,_⟩,_⟩:=I2.loc;exact big _ o ho e.symm
 have J4:Inv X (Y++[(G.heap.objs.size+1,R)]) S H3 s3:=J3.Uc λp hp=>by
  rcases dw.mp hp with q|q
  .exact J3.pin p (jn _ q)
  .have e:p=(G.heap.objs.size+1,R):=by simpa using q
   subst e;refine⟨L,qv,E,λV=>?_,λv z=>by rw[M]at z;cases z⟩;exact I2.a2f (vd _) V
 show wpAny (model X.prog X.w) X.A (assign (.Name y py) X.env (.ref G.heap.objs.size)) _ _ s3;refine Lb (acd (pos:=py) hN hy (.inl hl) (.inr hl) (Y++[(G.heap.objs.size+1,R)]) s3 S H3 (.ref G.heap.objs.size) (.ref G.heap.objs.size) D.nx J4 rfl q3) λ_ s4 z_=>?_
 obtain⟨K,H4,I4,q4⟩:=z_;have pC:=I4.pin (G.heap.objs.size+1,R) (jn _ (jn _ (by simp)));refine⟨m,hn.at' λo e=>by rw[L]at e;cases e;exact pC.1,λh' Qs=>⟨K,H4,?_,q4⟩⟩;refine(I4.Qe).turned (t':=s4.toks) (λb o V e=>Qs.extBut b o V e) pC.2.1 E (.inr (gf I2.sz (vd _))) ?_ ?_
 .intro x c U
  obtain⟨v,o,ho,_⟩:=I2.cell x c U;exact big c o ho
 .intro p hp
  exact big p.1 p.2 (I2.pin p hp).1
end L2
namespace Sm
open PySem L2
open MW (Ex Ez OEx Q8 De ql Lv Tg Res dz MO Jy Cp Op2 Blt Bm Kx)
abbrev Dv:=MW.D
abbrev En:=MW.Env
structure Io where
 l:List Addr
 δ:List Addr
 s:Nat->Nat->Nat->Nat->Int
noncomputable def Io.add(Y:Io)(p:Addr):Io:=⟨Y.l++[p],Y.δ,Y.s⟩
noncomputable def Io.adds(Y:Io)(p:Addr)(f:Nat->Nat->Nat->Int):Io:=⟨Y.l++[p],Y.δ,λn=>if n=Y.l.length then f else Y.s n⟩
def Io.al0(Y:Io)(p:Addr):Y.adds p (Y.s Y.l.length)=Y.add p:=by
 unfold Io.adds Io.add
 congr 1;funext n;split<;>simp_all
noncomputable def Io.hide(Y:Io)(p:Addr):Io:=⟨Y.l,p::Y.δ,Y.s⟩
def Io.off(Y:Io)(a:Addr):Prop:=a∉Y.l/\a∉Y.δ
def al1(K:Fg)(H:Hp)(a:Addr)(T:List V):Prop:=
 (∃o,H a=some (.Qt o (.lst T))) \/
  ∃(o:Obj)(Y:U1)(n:Nat),K.lookup a=some o/\o.cls=.type "list"/\o.dict=none/\o.data=.seq Y n/\Y.size<=sizeLine/\Vals T Y.toList
def al1.sq(h:al1 K H a vs):J2 K H a vs:=by
 rcases h with⟨o,h⟩|h
 .exact .inl (.inr ⟨o,h⟩)
 .exact .inr h
mutual
inductive Rep(K:Fg)(ι:Io)(H:Hp):Dv->V->Prop
 |non:Rep K ι H .non .non
 |bl (b:Bool):Rep K ι H (.bl b) (.bl b)
 |int (i:Int):Rep K ι H (.int i) (.int i)
 |str (s:Str):Rep K ι H (.str s) (.str s)
 |tup {a:Addr} {ds:List Dv} {vs:List V} (e:H a=some (.tup vs)) (r:qy K ι H ds vs):Rep K ι H (.tup ds) (.ref a)
 |vl {a:Addr} {ds:List Dv} {vs:List V} (e:H a=some (.lst vs)) (n:ι.off a) (r:qy K ι H ds vs):Rep K ι H (.vl ds) (.ref a)
 |fz {a:Addr} {ds:List Dv} {vs:List V} (e:al1 K H a vs) (r:qy K ι H ds vs):Rep K ι H (.fz ds) (.ref a)
 |ref {n:Nat} {a:Addr} (e:ι.l[n]?=some a):Rep K ι H (.ref n) (.ref a)
 |sy {n e k j:Nat} (h:n < ι.l.length):Rep K ι H (.sy n e k j) (.int (ι.s n e k j))
inductive qy(K:Fg)(ι:Io)(H:Hp):List Dv->List V->Prop
 |nil:qy K ι H [] []
 |cons {d:Dv} {v:V} {ds:List Dv} {vs:List V} (h:Rep K ι H d v) (t:qy K ι H ds vs):qy K ι H (d::ds) (v::vs)
end
structure Le(ι:Io)(H:Hp)(ι':Io)(H':Hp):Prop where
 ext:∃Y,ι'.l=ι.l++Y/\∀a∈Y,H a=none
 del:ι'.δ=ι.δ
 tup:∀a vs,H a=some (.tup vs)->H' a=some (.tup vs)
 Qt:∀a o u,H a=some (.Qt o u)->H' a=some (.Qt o u)
 lst:∀a vs,a∉ι.l->H a=some (.lst vs)->H' a=some (.lst vs)
 dom:∀a,H' a=none->H a=none
 sy:∀n,n < ι.l.length->ι'.s n=ι.s n
def Le.refl(Y:Io)(H:Hp):Le Y H Y H:=⟨⟨[],by simp,by simp⟩,rfl,λ_ _ h=>h,λ_ _ _ h=>h,λ_ _ _ h=>h,λ_ h=>h,λ_ _=>rfl⟩
def Ig{H H':Hp}(T:∀a u,H a=some u->∃Z,H' a=some Z)(h:H' a=none):H a=none:=by
 cases e:H a with
 |none=>rfl|some u=>obtain⟨Z,Y⟩:=T a u e;rw[h]at Y;cases Y
def Le.get(l:Le U H Z H'){n:Nat}(h:U.l[n]?=some a):Z.l[n]?=some a:=by obtain⟨Y,e,_⟩:=l.ext;rw[e,gn (ao.mp h).1];exact h
def Le.a3y(l:Le U H Z H')(h:a∉U.l)(T:H a=some o):a∉Z.l:=by
 obtain⟨Y,e,G⟩:=l.ext;rw[e];intro m;rcases dw.mp m with q|q
 .exact h q
 .rw[G a q]at T;cases T
def Le.out(l:Le U H Z H')(h:U.off a)(Y:H a=some o):Z.off a:=⟨l.a3y h.1 Y,by rw[l.del];exact h.2⟩
theorem Le.trans(a:Le ι H qq H1)(b:Le qq H1 U H2):Le ι H U H2:=by
 obtain⟨Y,G,O⟩:=a.ext;obtain⟨Z,B,J⟩:=b.ext;refine⟨⟨Y++Z,by rw[B,G,wj],λx m=>?_⟩,b.del.trans a.del,λx T h=>b.tup x T (a.tup x T h),λx o u h=>b.Qt x o u (a.Qt x o u h),λx T n h=>b.lst x T (a.a3y n h) (a.lst x T n h),λx h=>a.dom x (b.dom x h),λn h=>(b.sy n (by rw[G,jc];exact Nat.lt_add_right _ h)).trans (a.sy n h)⟩;rcases dw.mp m with q|q
 .exact O x q
 .exact a.dom x (J x q)
structure LeX(ι:Io)(H:Hp)(ι':Io)(H':Hp):Prop where
 ext:∃Y,ι'.l=ι.l++Y/\∀a∈Y,H a=none
 del:∀a∈ι'.δ,a∈ι.δ\/H a=none
 tup:∀a vs,H a=some (.tup vs)->H' a=some (.tup vs)
 Qt:∀a o u,H a=some (.Qt o u)->H' a=some (.Qt o u)
 lst:∀a vs,a∉ι.l->H a=some (.lst vs)->H' a=some (.lst vs)
 sy:∀n,n < ι.l.length->ι'.s n=ι.s n
def Le.toX(l:Le U H Z H'):LeX U H Z H':=⟨l.ext,λa h=>.inl (by rw[<-l.del];exact h),l.tup,l.Qt,l.lst,l.sy⟩
def LeX.get(l:LeX U H Z H'){n:Nat}(h:U.l[n]?=some a):Z.l[n]?=some a:=by obtain⟨Y,e,_⟩:=l.ext;rw[e,gn (ao.mp h).1];exact h
def LeX.out(l:LeX U H Z H')(h:U.off a)(T:H a=some o):Z.off a:=by
 obtain⟨Y,e,G⟩:=l.ext;refine⟨λm=>?_,λm=>?_⟩
 .rw[e]at m
  rcases dw.mp m with q|q
  .exact h.1 q
  .rw[G a q]at T;cases T
 .rcases l.del a m with q|q
  .exact h.2 q
  .rw[q]at T;cases T
structure Tr(K:Fg)(ι:Io)(H:Hp)(ι':Io)(H':Hp):Prop where
 tup:∀a vs,H a=some (.tup vs)->H' a=some (.tup vs)
 vl:∀a vs,H a=some (.lst vs)->ι.off a->H' a=some (.lst vs)/\ι'.off a
 fz:∀a vs,al1 K H a vs->al1 K H' a vs
 rf:∀(n:Nat) a,ι.l[n]?=some a->ι'.l[n]?=some a
 sy:∀n,n < ι.l.length->ι'.s n=ι.s n
def Tr.len(l:Tr K U H Z H')(h:n < U.l.length):n < Z.l.length:=(ao.mp (l.rf n _ (bx h))).1
def Rep.tr{K:Fg}{G Y:Io}{H T:Hp}(l:Tr K G H Y T){d:Dv}{v:V}(h:Rep K G H d v):Rep K Y T d v:=
 Rep.rec (motive_1:=λd v _=>Rep K Y T d v) (motive_2:=λB J _=>qy K Y T B J) .non .bl .int .str (λe _ r=>.tup (l.tup _ _ e) r) (λe n _ r=>.vl (l.vl _ _ e n).1 (l.vl _ _ e n).2 r) (λe _ r=>.fz (l.fz _ _ e) r) (λe=>.ref (l.rf _ _ e)) (fun{n e k j} h=>by rw[<-l.sy n h];exact .sy (l.len h)) .nil (λ_ _ h t=>.cons h t) h
theorem qy.tr{K:Fg}{J Y:Io}{H G:Hp}(l:Tr K J H Y G){T:List Dv}{vs:List V}(h:qy K J H T vs):qy K Y G T vs:=by
 induction T generalizing vs with
 |nil=>cases h;exact .nil|cons d T B=>cases h with|cons h t=>exact .cons (h.tr l) (B t)
def LeX.tr(l:LeX U H Z H'):Tr K U H Z H':=⟨l.tup,λa Y e n=>⟨l.lst _ _ n.1 e,l.out n e⟩,λa Y e=>by
 rcases e with⟨o,e⟩|e
 .exact .inl ⟨o,l.Qt _ _ _ e⟩
 .exact .inr e,λ_ _ e=>l.get e,l.sy⟩
def Rep.Mj(l:LeX U H Z H')(r:Rep K U H d v):Rep K Z H' d v:=r.tr l.tr
def qy.Mj(l:LeX U H Z H')(r:qy K U H ds vs):qy K Z H' ds vs:=r.tr l.tr
def Rep.mono(l:Le U H Z H')(r:Rep K U H d v):Rep K Z H' d v:=r.Mj l.toX
def qy.mono(l:Le U H Z H')(r:qy K U H ds vs):qy K Z H' ds vs:=r.Mj l.toX
theorem qy.length{K:Fg}{G:Io}{H:Hp}:∀{Y:List Dv}{T:List V},qy K G H Y T->Y.length=T.length:=by intro A B h;induction A generalizing B with|nil=>cases h;rfl|cons d A ih=>cases h with|cons _ t=>rw[iw,iw,ih t]
def qy.get{K:Fg}{G:Io}{H:Hp}{Y:List Dv}{T:List V}{i:Nat}{d:Dv}(h:qy K G H Y T)(e:Y[i]?=some d):∃v,T[i]?=some v/\Rep K G H d v:=by
 induction Y generalizing T i with
 |nil=>simp at e
 |cons x Y J=>cases h with
  |cons h t=>cases i with
   |zero=>simp at e;subst e;exact⟨_,rfl,h⟩|succ i=>have:=J (i:=i) t e;exact this
theorem qy.set{K:Fg}{Y:Io}{H:Hp}{d:Dv}{v:V}(r:Rep K Y H d v):∀{T:List Dv}{G:List V}(i:Nat),qy K Y H T G->qy K Y H (T.set i d) (G.set i v)
 |_,_,_,.nil=>.nil|_,_,0,.cons _ t=>.cons r t|_,_,i+1,.cons h t=>.cons h (qy.set r i t)
theorem qy.append{K:Fg}{Y:Io}{H:Hp}:∀{J B:List Dv}{G T:List V},qy K Y H J G->qy K Y H B T->qy K Y H (J++B) (G++T):=by intro A _ B _ h r;induction A generalizing B with|nil=>cases h;exact r|cons d A ih=>cases h with|cons h t=>exact .cons h (ih t)
theorem qy.drop{K:Fg}{T:Io}{H:Hp}:∀{Y:List Dv}{G:List V}(n:Nat),qy K T H Y G->qy K T H (Y.drop n) (G.drop n)
 |_,_,0,r=>r|_,_,_+1,.nil=>.nil|_,_,n+1,.cons _ t=>qy.drop n t
theorem qy.take{K:Fg}{T:Io}{H:Hp}:∀{Y:List Dv}{G:List V}(n:Nat),qy K T H Y G->qy K T H (Y.take n) (G.take n)
 |_,_,0,_=>.nil|_,_,_+1,.nil=>.nil|_,_,n+1,.cons h t=>.cons h (qy.take n t)
theorem qy.eraseIdx{K:Fg}{T:Io}{H:Hp}:∀{Y:List Dv}{G:List V}(n:Nat),qy K T H Y G->qy K T H (Y.eraseIdx n) (G.eraseIdx n)
 |_,_,_,.nil=>.nil|_,_,0,.cons _ t=>t|_,_,n+1,.cons h t=>.cons h (qy.eraseIdx n t)
theorem qy.ints{K:Fg}{T:Io}{H:Hp}:∀(Y:Xs),qy K T H (Y.map MW.D.int) (Y.map V.int)
 |[]=>.nil|n::r=>.cons (.int n) (qy.ints r)
structure Nm where
 cls:Nat->Option Addr
 fld:Nat->Str
 inj:∀i j,fld i=fld j->i=j
inductive xf{κ κ':Type}(K:Fg)(ι:Io)(H:Hp)(f:κ->κ'->Prop):List (κ×Dv)->List (κ'×V)->Prop
 |nil:xf K ι H f [] []
 |cons {k:κ} {k':κ'} {d:Dv} {v:V} {l:List (κ×Dv)} {l':List (κ'×V)} (hk:f k k') (h:Rep K ι H d v) (t:xf K ι H f l l'):xf K ι H f ((k,d)::l) ((k',v)::l')
theorem xf.tr{T Y:Type}{f:T->Y->Prop}(t:Tr K ι H Z U){l:List (T×Dv)}{l':List (Y×V)}(h:xf K ι H f l l'):xf K Z U f l l':=by
 induction h with
 |nil=>exact .nil|cons k h _ G=>exact .cons k (h.tr t) G
def xf.mono(le:Le U H Z H')(h:xf K U H f l l'):xf K Z H' f l l':=h.tr le.toX.tr
def Gx(J:Nm)(K:Fg)(T:Io)(H:Hp)(o:MO)(a:Addr):Prop:=
 match o with
 |.lst ds=>∃G,H a=some (.lst G)/\qy K T H ds G|.dT je=>∃l,H a=some (.dT l)/\xf K T H (λk Y=>k=Y) je l
 |.dK je=>∃l,H a=some (.dK l)/\xf K T H (λk Y=>k=Y) je l
 |.ins c fs=>∃C B l,J.cls c=some C/\H a=some (.ins C B l)/\xf K T H (λk Y=>Y=J.fld k) fs l
structure m9(nm:Nm)(K:Fg)(ι:Io)(H:Hp)(M:dz):Prop where
 len:ι.l.length=M.length
 nd:ι.l.Nodup
 del:∀a∈ι.δ,a∉ι.l/\∃vs,H a=some (.lst vs)
 obj:∀(n:Nat)(o:MO)(a:Addr),M[n]?=some o->ι.l[n]?=some a->Gx nm K ι H o a
theorem Gx.some(h:Gx nm K Z H o a):∃u,H a=some u/\Mut (H a):=by
 cases o with
 |lst J=>obtain⟨Y,e,_⟩:=h;exact⟨_,e,by rw[e];trivial⟩
 |dT T=>obtain⟨Y,e,_⟩:=h;exact⟨_,e,by rw[e];trivial⟩
 |dK T=>obtain⟨Y,e,_⟩:=h;exact⟨_,e,by rw[e];trivial⟩
 |ins c fs=>obtain⟨C,G,l,_,e,_⟩:=h;exact⟨_,e,by rw[e];trivial⟩
def m9.addr(S:m9 nm K Z H M){n:Nat}(h:M[n]?=some o):∃a,Z.l[n]?=some a/\Gx nm K Z H o a:=by
 have Y:n < Z.l.length:=by rw[S.len];exact MW.xm h
 exact⟨Z.l[n],by simp[Y],S.obj n o _ h (by simp[Y])⟩
def m9.mem(S:m9 nm K Z H M)(h:a∈Z.l):∃u,H a=some u/\Mut (H a):=by
 obtain⟨n,Y,rfl⟩:=p8 h;have T:n<M.length:=by rw[<-S.len];exact Y
 exact(S.obj n M[n] Z.l[n] (by simp[T]) (by simp[Y])).some
def m9.fresh(S:m9 nm K Z H M)(h:H a=none):Z.off a:=by
 refine⟨λm=>?_,λm=>?_⟩
 .obtain⟨u,e,_⟩:=S.mem m
  rw[h]at e;cases e
 .obtain⟨_,Y,e⟩:=S.del a m
  rw[h]at e;cases e
theorem Gx.tr(h:Gx nm K ι H o a)(t:Tr K ι H Z U)(e:U a=H a):Gx nm K Z U o a:=by
 cases o with
 |lst B=>obtain⟨Y,q,r⟩:=h;exact⟨Y,e.trans q,r.tr t⟩
 |dT G=>obtain⟨Y,q,r⟩:=h;exact⟨Y,e.trans q,r.tr t⟩
 |dK G=>obtain⟨Y,q,r⟩:=h;exact⟨Y,e.trans q,r.tr t⟩
 |ins c fs=>obtain⟨C,T,l,J,q,r⟩:=h;exact⟨C,T,l,J,e.trans q,r.tr t⟩
def Gx.move(h:Gx nm K ι H o a)(le:Le ι H Z U)(e:U a=H a):Gx nm K Z U o a:=h.tr le.toX.tr e
def m9.laid(S:m9 nm K Z H M)(h:H p=none)(o:HO):m9 nm K Z (upd H p o) M/\Le Z H Z (upd H p o):=by
 have Y:∀a u,H a=some u->a≠p:=λa u e=>o8 e h
 have le:Le Z H Z (upd H p o):=⟨⟨[],by simp,by simp⟩,rfl,λa T e=>by rw[o7 (Y a _ e)];exact e,λa _ u e=>by rw[o7 (Y a _ e)];exact e,λa T _ e=>by rw[o7 (Y a _ e)];exact e,
  λa N=>Ig (λb u e=>⟨u,by rw[o7 (Y b _ e)];exact e⟩) N,λ_ _=>rfl⟩
 refine⟨⟨S.len,S.nd,λa G=>?_,λn C a O G=>?_⟩,le⟩
 .obtain⟨J,T,B⟩:=S.del a G
  exact⟨J,T,le.lst a T J B⟩
 .have q:=S.obj n C a O G
  obtain⟨u,e,_⟩:=q.some;exact q.move le (by rw[o7 (Y a u e)])
def Du{Y:Type}{l:List Y}{x y:Y}(h:(l++[x])[n]?=some y):(l[n]?=some y)\/(n=l.length/\y=x):=by
 rcases Av n l.length with q|q
 .rw[gn q]at h;exact .inl h
 .rw[ji q]at h
  have:n-l.length=0:=by
   rcases Nat.eq_zero_or_pos (n-l.length)with z|z
   .exact z
   .rw[pq (by simp;exact z)]at h;cases h
  rw[this]at h;simp at h;exact .inr ⟨by lia,h.symm⟩
def m9.news(f:Nat->Nat->Nat->Int)(S:m9 nm K Z H M)(h:H p=none)(Y:∀a u,H a=some u->H' a=some u)(N:Le Z H (Z.adds p f) H'->Gx nm K (Z.adds p f) H' o p):m9 nm K (Z.adds p f) H' (M++[o])/\Le Z H (Z.adds p f) H':=by
 have le:Le Z H (Z.adds p f) H':=⟨⟨[p],rfl,by simpa using h⟩,rfl,λa G e=>Y _ _ e,λa _ u e=>Y _ _ e,λa G _ e=>Y _ _ e,λa P=>Ig (H:=H) (H':=H') (λb u e=>⟨u,Y b u e⟩) P,λn h=>cj (gh h)⟩;refine⟨⟨by simp[Io.adds,S.len],?_,λa T=>?_,λn O a C T=>?_⟩,le⟩
 .exact Aa.mpr ⟨S.nd,by simp,by
   intro x B y E;have:y=p:=by simpa using E
   subst this;intro e;subst e;exact(S.fresh h).1 B⟩
 .obtain⟨L,G,J⟩:=S.del a T
  exact⟨le.a3y L J,G,Y _ _ J⟩
 .rcases Du C with q|⟨q,rfl⟩
  .rcases Du T with r|⟨r,_⟩
   .have z:=S.obj n O a q r
    obtain⟨u,e,_⟩:=z.some;exact z.move le ((Y a u e).trans e.symm)
   .exact absurd (MW.xm q) (by rw[r,S.len];exact uc _)
  .rcases Du T with r|⟨_,rfl⟩
   .exact absurd (ao.mp r).1 (by rw[q,S.len];exact uc _)
   .exact N le
def m9.new(S:m9 nm K Z H M)(h:H p=none)(T:∀a u,H a=some u->H' a=some u)(Y:Le Z H (Z.add p) H'->Gx nm K (Z.add p) H' o p):m9 nm K (Z.add p) H' (M++[o])/\Le Z H (Z.add p) H':=by rw[<-Io.al0]at Y⊢;exact S.news _ h T Y
def m9.put(S:m9 nm K Z H M)(C:M[n]?=some U)(B:Z.l[n]?=some a)(W:Le Z H Z (upd H a u)->Gx nm K Z (upd H a u) o a):m9 nm K Z (upd H a u) (M.set n o)/\Le Z H Z (upd H a u):=by
 obtain⟨E,N,Y⟩:=(S.obj n U a C B).some;have P:a∈Z.l:=bh B;have le:Le Z H Z (upd H a u):=⟨⟨[],by simp,by simp⟩,rfl,λb J e=>by rw[o7 (λz=>by subst z;rw[e]at Y;exact Y)];exact e,
  λb _ _ e=>by rw[o7 (λz=>by subst z;rw[e]at Y;exact Y)];exact e,λb J O e=>by rw[o7 (λz=>by subst z;exact O P)];exact e,λb A=>Ig (λc w e=>by
   by_cases z:c=a
   .exact⟨u,by rw[z,yg]⟩
   .exact⟨w,by rw[o7 z];exact e⟩) A,λ_ _=>rfl⟩
 refine⟨⟨by rw[List.length_set];exact S.len,S.nd,λb G=>?_,λm Q b T G=>?_⟩,le⟩
 .obtain⟨L,J,V⟩:=S.del b G
  exact⟨L,J,le.lst b J L V⟩
 by_cases q:m=n
 .subst q
  rw[MW.qx C]at T;cases T;rw[B]at G;cases G;exact W le
 .rw[MW.mj (km q)]at T
  have z:=S.obj m Q b T G;have O:b≠a:=λe=>by subst e;obtain⟨I,R⟩:=ao.mp G;obtain⟨D,F⟩:=ao.mp B;exact q ((List.getElem_inj S.nd).mp (R.trans F.symm))
  exact z.move le (by rw[o7 O])
def awu(Y:H D=none):Tr K Z H (Z.hide D) (upd H D o):=
 have k:∀{a u},H a=some u->upd H D o a=some u:=λe=>by rw[o7 (o8 e Y)];exact e
 ⟨λ_ _ e=>k e,λa T e n=>⟨k e,n.1,λm=>by
  rcases dh.mp m with q|q
  .exact o8 e Y q
  .exact n.2 q⟩,λ_ _ e=>e.imp (λ⟨q,e⟩=>⟨q,k e⟩) id,λ_ _ e=>e,λ_ _=>rfl⟩
def ajh(Y:H D=some (.lst U))(T:D∈Z.δ):Tr K Z H Z (upd H D (.lst ws)):=
 have k:∀{a u},a≠D->H a=some u->upd H D (.lst ws) a=some u:=λn e=>by rw[o7 n];exact e
 ⟨λ_ _ e=>k (apd e Y (by intro z;cases z)) e,λa U e n=>⟨k (λz=>by subst z;exact n.2 T) e,n⟩,λ_ _ e=>e.imp (λ⟨q,e⟩=>⟨q,k (apd e Y (by intro z;cases z)) e⟩) id,λ_ _ e=>e,λ_ _=>rfl⟩
def Io.show(Y:Io)(H:Hp)(D:Addr):Tr K (Y.hide D) H Y H:=⟨λ_ _ e=>e,λ_ _ e n=>⟨e,n.1,λm=>n.2 (bw _ m)⟩,λ_ _ e=>e,λ_ _ e=>e,λ_ _=>rfl⟩
theorem Rep.show(r:Rep K (Z.hide D) H d v):Rep K Z H d v:=r.tr (Z.show H D)
theorem qy.show(r:qy K (Z.hide D) H d v):qy K Z H d v:=r.tr (Z.show H D)
theorem m9.hide(S:m9 nm K Z H M)(Y:H D=none):m9 nm K (Z.hide D) (upd H D (.lst [])) M:=by
 refine⟨S.len,S.nd,λa T=>?_,λn o a B T=>?_⟩
 .rcases dh.mp T with q|q
  .subst q;exact⟨(S.fresh Y).1,[],yg⟩
  .obtain⟨O,J,G⟩:=S.del a q
   exact⟨O,J,by rw[o7 (o8 G Y)];exact G⟩
 .have z:=S.obj n o a B T
  obtain⟨u,e,_⟩:=z.some;exact z.tr (awu Y) (by rw[o7 (o8 e Y)])
def m9.grow(S:m9 nm K Z H M)(N:H D=some (.lst vs))(T:D∈Z.δ):m9 nm K Z (upd H D (.lst U)) M:=by
 refine⟨S.len,S.nd,λa Y=>?_,λn o a C Y=>?_⟩
 .obtain⟨G,B,O⟩:=S.del a Y
  by_cases z:a=D
  .subst z;exact⟨G,U,yg⟩
  .exact⟨G,B,by rw[o7 z];exact O⟩
 .have z:=S.obj n o a C Y
  have J:a≠D:=λe=>by subst e;exact(S.del a T).1 (bh Y)
  exact z.tr (ajh N T) (by rw[o7 J])
theorem m9.show(S:m9 nm K (Z.hide D) H M):m9 nm K Z H M:=
 ⟨S.len,S.nd,λa Y=>S.del a (bw _ Y),λn o a T Y=>(S.obj n o a T Y).tr (Z.show H D) rfl⟩
structure LeD(D:Addr)(ι:Io)(H:Hp)(ι':Io)(H':Hp):Prop where
 ext:∃Y,ι'.l=ι.l++Y/\∀a∈Y,H a=none
 del:ι'.δ=D::ι.δ
 tup:∀a vs,H a=some (.tup vs)->H' a=some (.tup vs)
 Qt:∀a o u,H a=some (.Qt o u)->H' a=some (.Qt o u)
 lst:∀a vs,a∉ι.l->H a=some (.lst vs)->H' a=some (.lst vs)
 dom:∀a,H' a=none->H a=none
 sy:∀n,n < ι.l.length->ι'.s n=ι.s n
def LeD.toX(l:LeD D U H Z H')(Y:H D=none):LeX U H Z H':=⟨l.ext,λa h=>by
 rw[l.del]at h;rcases dh.mp h with q|q
 .exact .inr (by rw[q];exact Y)
 .exact .inl q,l.tup,l.Qt,l.lst,l.sy⟩
def LeD.start(Y:H D=none)(o:HO):LeD D Z H (Z.hide D) (upd H D o):=
 ⟨⟨[],by simp[Io.hide],by simp⟩,rfl,λa T e=>by rw[o7 (o8 e Y)];exact e,λa _ _ e=>by rw[o7 (o8 e Y)];exact e,λa T _ e=>by rw[o7 (o8 e Y)];exact e,
  λa G=>Ig (λb u e=>⟨u,by rw[o7 (o8 e Y)];exact e⟩) G,λ_ _=>rfl⟩
def LeD.go(a:LeD D ι H U H1)(b:Le U H1 qq H2):LeD D ι H qq H2:=by
 obtain⟨Y,G,J⟩:=a.ext;obtain⟨Z,O,B⟩:=b.ext;have out:∀x o,x∉ι.l->H x=some o->x∉U.l:=λx o n h m=>by
  rw[G]at m;rcases dw.mp m with q|q
  .exact n q
  .rw[J x q]at h;cases h
 refine⟨⟨Y++Z,by rw[O,G,wj],λx m=>?_⟩,b.del.trans a.del,λx T h=>b.tup x T (a.tup x T h),λx o u h=>b.Qt x o u (a.Qt x o u h),λx T n h=>b.lst x T (out x _ n h) (a.lst x T n h),λx h=>a.dom x (b.dom x h),λn h=>(b.sy n (by rw[G,jc];exact Nat.lt_add_right _ h)).trans (a.sy n h)⟩;rcases dw.mp m with q|q
 .exact J x q
 .exact a.dom x (B x q)
def LeD.grow(a:LeD D ι H Z U)(T:H D=none)(G:U D=some (.lst vs)):LeD D ι H Z (upd U D (.lst ws)):=
 ⟨a.ext,a.del,λx Y h=>by rw[o7 (o8 h T)];exact a.tup x Y h,λx o u h=>by rw[o7 (o8 h T)];exact a.Qt x o u h,λx Y n h=>by rw[o7 (o8 h T)];exact a.lst x Y n h,
  λx h=>a.dom x (by
   by_cases z:x=D
   .rw[z,yg]at h;cases h
   .rw[o7 z]at h;exact h),a.sy⟩
def LeD.done(a:LeD D U H ⟨Z.l,D::Z.δ,Z.s⟩ H1):Le U H Z H1:=
 ⟨a.ext,(List.cons.inj a.del).2,a.tup,a.Qt,a.lst,a.dom,a.sy⟩
inductive yd(K:Fg)(ι:Io)(H:Hp):En->St->Prop
 |nil:yd K ι H [] []
 |skp {y:Option V} {ρ:En} {σ:St} (t:yd K ι H ρ σ):yd K ι H (none::ρ) (y::σ)
 |has {d:Dv} {v:V} {ρ:En} {σ:St} (h:Rep K ι H d v) (t:yd K ι H ρ σ):yd K ι H (some d::ρ) (some v::σ)
theorem yd.Mj{K:Fg}{B Y:Io}{H G:Hp}(le:LeX B H Y G):∀{T:En}{J:St},yd K B H T J->yd K Y G T J:=by intro _ _ h;induction h with|nil=>exact .nil|skp t ih=>exact .skp ih|has h t ih=>exact .has (h.Mj le) ih
theorem yd.mono{K:Fg}{B Y:Io}{H G:Hp}(le:Le B H Y G):∀{T:En}{J:St},yd K B H T J->yd K Y G T J:=by intro _ _ h;induction h with|nil=>exact .nil|skp t ih=>exact .skp ih|has h t ih=>exact .has (h.mono le) ih
def yd.get{K:Fg}{J:Io}{H:Hp}{T:En}{G:St}{i:Nat}{d:Dv}(h:yd K J H T G)(e:T[i]?=some (some d)):∃v,G[i]?=some (some v)/\Rep K J H d v:=by
 induction h generalizing i with
 |nil=>simp at e
 |skp t Y=>cases i with
  |zero=>simp at e|succ i=>have:=Y (i:=i) e;exact this
 |has h t Y=>cases i with
  |zero=>simp at e;subst e;exact⟨_,rfl,h⟩|succ i=>have:=Y (i:=i) e;exact this
theorem yd.set{K:Fg}{T:Io}{H:Hp}{d:Dv}{v:V}(r:Rep K T H d v){G:En}{J:St}(i:Nat)(h:yd K T H G J):yd K T H (G.set i (some d)) (J.set i (some v)):=by
 induction h generalizing i with
 |nil=>exact .nil
 |skp t Y=>cases i with
  |zero=>exact .has r t|succ i=>exact .skp (Y i)
 |has h t Y=>cases i with
  |zero=>exact .has r t|succ i=>exact .has h (Y i)
theorem yd.length{K:Fg}{G:Io}{H:Hp}:∀{Y:En}{T:St},yd K G H Y T->Y.length=T.length:=by intro _ _ h;induction h with|nil=>rfl|skp _ ih=>rw[iw,iw,ih]|has _ _ ih=>rw[iw,iw,ih]
theorem yd.append{K:Fg}{G:Io}{H:Hp}:∀{J T:En}{B Y:St},yd K G H J B->yd K G H T Y->yd K G H (J++T) (B++Y):=by intro _ _ _ _ h r;induction h with|nil=>exact r|skp t ih=>exact .skp ih|has h t ih=>exact .has h ih
def yd.az8{K:Fg}{T:Io}{H:Hp}(k:Nat){σ:St}(h:σ.length=k):yd K T H (List.replicate k none) σ:=by
 subst h
 induction σ with
 |nil=>exact .nil|cons _ r Y=>exact .skp Y
def yd.a3z{K:Fg}{G:Io}{H:Hp}{Y:List Dv}{T:List V}(h:qy K G H Y T):yd K G H (Y.map some) (T.map some):=by
 induction Y generalizing T with
 |nil=>cases h;exact .nil|cons d Y J=>cases h with|cons h t=>exact .has h (J t)
def gw{r:Res α}(h:r.bind f=.ok b M):∃a Z,r=.ok a Z/\f a Z=.ok b M:=by
 cases r with
 |ok a Z=>exact⟨a,Z,rfl,h⟩|bad=>cases h
def yz(h:Res.v9 o M=.ok a Z):o=some a/\Z=M:=by
 cases o with
 |none=>cases h|some x=>cases h;exact⟨rfl,rfl⟩
def PE.weak(h:PE X e t)(w:∀Z H Q,t' Z H Q->t Z H Q):PE X e t':=λY s Z H Q I q=>h Y s Z H Q I (w Z H Q q)
def PT.weak(h:PT X e t)(w:∀Z H Q,t' Z H Q->t Z H Q):PT X e t':=λY s Z H Q I q=>h Y s Z H Q I (w Z H Q q)
def PA.weak(h:PA X U t)(w:∀Z H Q,t' Z H Q->t Z H Q):PA X U t':=λpos Y s Z H Q I q=>h pos Y s Z H Q I (w Z H Q q)
def PS.weak(h:PS X e t)(w:∀D Z H,t' D Z H->t D Z H):PS X e t':=λY s Z H D I q=>h Y s Z H D I (w D Z H q)
def Ud.weak(h:Ud X e t)(w:∀D Z H,t' D Z H->t D Z H):Ud X e t':=λY s Z H D I q=>h Y s Z H D I (w D Z H q)
def Ej.weak(h:Ej X f r)(w:∀x y H Q,r' x y H Q->r x y H Q):Ej X f r':=λY s T H x y v u Q I J G q=>h Y s T H x y v u Q I J G (w x y H Q q)
section
variable(nm:Nm)(W:Jy)(K:Fg)
def tE(e:Ex):TE:=λO H Q=>∃G B M d J,m9 nm K G H M/\yd K G H B O/\e.den W B M=.ok d J/\∀Y T v,Le G H Y T->m9 nm K Y T J->Rep K Y T d v->Q v T
def tQ(e:Ex):TT:=λO H Q=>∃G B M b J,m9 nm K G H M/\yd K G H B O/\e.den W B M=.ok (.bl b) J/\∀Y T,Le G H Y T->m9 nm K Y T J->Q b T
def Zm(N:Ez):TA:=λL H Q=>∃G C M O J,m9 nm K G H M/\yd K G H C L/\N.den W C M=.ok O J/\∀Y T B,Le G H Y T->m9 nm K Y T J->qy K Y T O B->Q B T
def Yl(D:Ends)(O:Io)(H:Hp)(J:MW.Flow)(B:En)(M:dz):Prop:=
 ∀Y G T,Le O H Y G->m9 nm K Y G M->yd K Y G B T ->
  match J with
  |.next=>D.nx T G|.brk=>D.bk T G|.cont=>D.ct T G|.ret d=>∀v,Rep K Y G d v->D.rt v G
def tS(st:De):TS:=λD O H=>∃T B M J Y G,m9 nm K T H M/\yd K T H B O/\st.den W B M=.ok (J,Y) G/\Yl nm K D T H J Y G
def tSs(st:ql):TS:=λD O H=>∃T B M J Y G,m9 nm K T H M/\yd K T H B O/\st.den W B M=.ok (J,Y) G/\Yl nm K D T H J Y G
end
def PE.of(h:PE X a t)(w:∀σ H Q U ρ M d M',m9 nm X.K U H M->yd X.K U H ρ σ->e'.den W ρ M=.ok d M'->(∀Z H' v,Le U H Z H'->m9 nm X.K Z H' M'->Rep X.K Z H' d v->Q v H')->t σ H Q):PE X a (tE nm W X.K e'):=PE.weak h fun σ H Q z_=>by obtain⟨U,ρ,M,d,M',S,R,e,q⟩:=z_;exact w σ H Q U ρ M d M' S R e q
def PT.of(h:PT X a t)(w:∀σ H Q U ρ M b M',m9 nm X.K U H M->yd X.K U H ρ σ->e'.den W ρ M=.ok (.bl b) M'->(∀Z H',Le U H Z H'->m9 nm X.K Z H' M'->Q b H')->t σ H Q):PT X a (tQ nm W X.K e'):=PT.weak h fun σ H Q z_=>by obtain⟨U,ρ,M,d,M',S,R,e,q⟩:=z_;exact w σ H Q U ρ M d M' S R e q
def PA.of(h:PA X es t)(w:∀σ H Q U ρ M ds M',m9 nm X.K U H M->yd X.K U H ρ σ->qq.den W ρ M=.ok ds M'->(∀Z H' vs,Le U H Z H'->m9 nm X.K Z H' M'->qy X.K Z H' ds vs->Q vs H')->t σ H Q):PA X es (Zm nm W X.K qq):=PA.weak h fun σ H Q z_=>by obtain⟨U,ρ,M,d,M',S,R,e,q⟩:=z_;exact w σ H Q U ρ M d M' S R e q
def PS.of(h:PS X st t)(w:∀D σ H U ρ M fl Z M',m9 nm X.K U H M->yd X.K U H ρ σ->s'.den W ρ M=.ok (fl,Z) M'->Yl nm X.K D U H fl Z M'->t D σ H):PS X st (tS nm W X.K s'):=PS.weak h λD σ H z_=>by obtain⟨U,ρ,M,fl,Z,M',S,R,e,q⟩:=z_;exact w D σ H U ρ M fl Z M' S R e q
def Ud.of(h:Ud X st t)(w:∀D σ H U ρ M fl Z M',m9 nm X.K U H M->yd X.K U H ρ σ->s'.den W ρ M=.ok (fl,Z) M'->Yl nm X.K D U H fl Z M'->t D σ H):Ud X st (tSs nm W X.K s'):=Ud.weak h λD σ H z_=>by obtain⟨U,ρ,M,fl,Z,M',S,R,e,q⟩:=z_;exact w D σ H U ρ M fl Z M' S R e q
def one{X:Cx}{Y:dz}(S:m9 nm X.K ι H M)(R:yd X.K ι H ρ σ)(O:a'.den W ρ M=.ok x Y)(h:∀Z U v,Le ι H Z U->m9 nm X.K Z U Y->yd X.K Z U ρ σ->Rep X.K Z U x v->G v U):tE nm W X.K a' σ H G:=
 ⟨ι,ρ,M,x,Y,S,R,O,λT B v le J r=>h T B v le J (R.mono le) r⟩
theorem two{X:Cx}{Y J:dz}{G:V->V->Hp->Prop}(S:m9 nm X.K ι H M)(R:yd X.K ι H U σ)(Q:a'.den W U M=.ok x Y)(O:b'.den W U Y=.ok y J)(h:∀Z H2 v u,Le ι H Z H2->m9 nm X.K Z H2 J->yd X.K Z H2 U σ->Rep X.K Z H2 x v->Rep X.K Z H2 y u->G v u H2) :
 tE nm W X.K a' σ H λv H1=>tE nm W X.K b' σ H1 λu H2=>G v u H2:=
 one S R Q λL H1 v F B N C=>one B N O λZ H2 u T E R2 P=>h Z H2 v u (F.trans T) E R2 (C.mono T) P
set_option tactic.hygienic true in
def baq(L:X.N[i]?=some n)(V:Vis X.env.scope n)(B:(n==("__debug__": Str))=false)(T:(n==("__classdict__": Str))=false):PE X (.Name n pos) (tE nm W X.K (.var i)):=
 PE.of (a2h L V B T) λD H Q P A M d F S R e q=>by
  rw[MW.ain]at e;split at e
  .rename_i I B
   cases e;obtain⟨v,E,O⟩:=R.get B;exact⟨v,E,q P H v (Le.refl _ _) S O⟩
  .cases e
def bas:PE X (.Constant (.int i) j pos) (tE nm W X.K (.cst (.int i))):=
 PE.of a2i λJ H Q Y G M d T S R e q=>by rw[MW.W2]at e;cases e;exact q Y H _ (Le.refl _ _) S (.int i)
def bgn:PE X (.Constant (.bool i) j pos) (tE nm W X.K (.cst (.bl i))):=
 PE.of a89 λJ H Q Y G M d T S R e q=>by rw[MW.W2]at e;cases e;exact q Y H _ (Le.refl _ _) S (.bl i)
def bau:PE X (.Constant .none j pos) (tE nm W X.K (.cst .non)):=
 PE.of a2j λJ H Q Y G M d T S R e q=>by rw[MW.W2]at e;cases e;exact q Y H _ (Le.refl _ _) S .non
def a4a(G:Gl X n)(Y:X.mg n=some (.int i t))(T:(n==("__debug__": Str))=false):PE X (.Name n pos) (tE nm W X.K (.cst (.int i))):=
 PE.of (av1 (v:=.int i) G Y ⟨t,rfl⟩ T) λC H Q J O M d B S R e q=>by rw[MW.W2]at e;cases e;exact q J H _ (Le.refl _ _) S (.int i)
def rOp(B:Nm)(K:Fg)(f:Dv->Dv->dz->Res Dv):R2:=λv u H Q=>∃G M x y d J,m9 B K G H M/\Rep K G H x v/\Rep K G H y u/\f x y M=.ok d J /\
 ∀Y T w,Le G H Y T->m9 B K Y T J->Rep K Y T d w->Q w T
def Ej.of(h:Ej X f r)(w:∀v u H Q U M x y d M',m9 nm X.K U H M->Rep X.K U H x v->Rep X.K U H y u->g x y M=.ok d M'->(∀Z H' w,Le U H Z H'->m9 nm X.K Z H' M'->Rep X.K Z H' d w->Q w H')->r v u H Q):Ej X f (rOp nm X.K g):=
 Ej.weak h λv u H Q z_=>by obtain⟨U,M,x,y,d,M',S,T,Y,e,q⟩:=z_;exact w v u H Q U M x y d M' S T Y e q
def bav(F:Ej X (binaryOp op) (rOp nm X.K (MW.Ey Z)))(L:PE X a (tE nm W X.K U))(J:PE X b (tE nm W X.K b')):PE X (.BinOp a op b pos) (tE nm W X.K (.bin Z U b')):=
 PE.of (a9o F L J) λj H Q z D M d E S R e q=>by rw[MW.au5]at e;obtain⟨x,l,C,e⟩:=gw e;obtain⟨y,B,A,e⟩:=gw e;exact two S R C A λG g v u le N _ O V=>⟨G,B,x,y,d,E,N,O,V,e,λY I w T P r=>q Y I w (le.trans T) P r⟩
def baw:Ej X (binaryOp .Sub) (rOp nm X.K (MW.Ey .sub)):=
 Ej.of a3e λv u H Q G M x y d B S J Y e q=>by obtain⟨i,j,rfl,rfl,T⟩:=MW.abn e (by intro z;cases z);cases J;cases Y;cases T;exact⟨_,_,rfl,rfl,q G H _ (Le.refl _ _) S (.int _)⟩
def a4b{g:Int->Int->Int}{P:Int->Int->Prop}[∀i j,Decidable (P i j)](h:Ej X (binaryOp op) r)(G:∀x y M,MW.Ey Z x y M=MW.ii x y (λi j=>if P i j then .ok (.int (g i j)) M else .bad) .bad)(w:∀i j H Q,P i j->Q (.int (g i j)) H->r (.int i) (.int j) H Q):Ej X (binaryOp op) (rOp nm X.K (MW.Ey Z)):=
 Ej.of h λv u H Q B M x y d C S O J e q=>by
  rw[G]at e;obtain⟨i,j,rfl,rfl,Y⟩:=MW.abn e (by intro z;cases z)
  by_cases T:P i j
  .rw[dj T]at Y
   cases O;cases J;cases Y;exact w i j H Q T (q B H _ (Le.refl _ _) S (.int _))
  .rw[cj T]at Y;cases Y
def bax:Ej X (binaryOp .Mod) (rOp nm X.K (MW.Ey .mod)):=a4b a3g (λ_ _ _=>rfl) λi j H Q h q=>⟨_,_,rfl,rfl,h,q⟩
def a4c:Ej X (binaryOp .FloorDiv) (rOp nm X.K (MW.Ey .fdiv)):=a4b av9 (λ_ _ _=>rfl) λi j H Q h q=>⟨_,_,rfl,rfl,h,q⟩
def bay:Ej X (binaryOp .Pow) (rOp nm X.K (MW.Ey .pow)):=a4b a3h (λ_ _ _=>rfl) λi j H Q h q=>⟨_,_,rfl,rfl,⟨h.1,by omega,h.2.2⟩,q⟩
set_option tactic.hygienic true in
def uz{X:Cx}(S:m9 nm X.K Z H M)(r:Rep X.K Z H d v)(h:MW.gr M d=some ds):∃p vs,v=.ref p/\H p=some (.lst vs)/\qy X.K Z H ds vs:=by
 cases r with
 |vl e n r=>simp[MW.gr]at h;subst h;exact⟨_,_,rfl,e,r⟩
 |ref e =>
  rename_i n p;simp only[MW.gr]at h;split at h<;>simp at h;rename_i N B;subst h;obtain⟨vs,O,T⟩:=S.obj n _ p B e;exact⟨p,vs,rfl,O,T⟩
 |_=>simp[MW.gr]at h
def Qv{X:Cx}(S:m9 nm X.K Z H M)(r:Rep X.K Z H d v)(h:MW.Dd M d=some ds):∃p vs,v=.ref p/\(H p=some (.lst vs)\/H p=some (.tup vs))/\qy X.K Z H ds vs:=by
 cases r with
 |tup e r=>simp[MW.Dd]at h;subst h;exact⟨_,_,rfl,.inr e,r⟩
 |vl e n r =>
  obtain⟨p,vs,Y,G,T⟩:=uz S (.vl e n r) (show MW.gr M _=_ from h);exact⟨p,vs,Y,.inl G,T⟩
 |ref e =>
  obtain⟨p,vs,Y,G,T⟩:=uz S (.ref e) (show MW.gr M _=_ from h);exact⟨p,vs,Y,.inl G,T⟩
 |_=>simp[MW.Dd,MW.gr]at h
def ack{X:Cx}(S:m9 nm X.K Z H M)(Y:H p=none)(r:qy X.K Z H ds U):m9 nm X.K Z (upd H p (.lst U)) M/\Le Z H Z (upd H p (.lst U))/\Rep X.K Z (upd H p (.lst U)) (.vl ds) (.ref p):=by obtain⟨T,le⟩:=S.laid Y (.lst U);exact⟨T,le,.vl yg (S.fresh Y) (r.mono le)⟩
def Nj{X:Cx}(S:m9 nm X.K Z H M)(Y:H p=none)(r:qy X.K Z H ds U):m9 nm X.K Z (upd H p (.tup U)) M/\Le Z H Z (upd H p (.tup U))/\Rep X.K Z (upd H p (.tup U)) (.tup ds) (.ref p):=by obtain⟨T,le⟩:=S.laid Y (.tup U);exact⟨T,le,.tup yg (r.mono le)⟩
def acn{X:Cx}(S:m9 nm X.K Z H M)(Y:H p=none)(r:qy X.K Z H ds U):m9 nm X.K (Z.add p) (upd H p (.lst U)) (M++[.lst ds])/\Le Z H (Z.add p) (upd H p (.lst U))/\Rep X.K (Z.add p) (upd H p (.lst U)) (.ref M.length) (.ref p):=by
 obtain⟨T,le⟩:=S.new (H':=upd H p (.lst U)) (o:=.lst ds) Y (λa u e=>by rw[o7 (o8 e Y)];exact e) λle=>⟨U,yg,r.mono le⟩
 exact⟨T,le,.ref (by show(Z.l++[p])[M.length]?=some p;rw[<-S.len];simp)⟩
def Ym:(100000:Nat)<=sizeLine:=by decide
def aww(h:MW.Ey .add x y M=.ok d M'):(∃i j,x=.int i/\y=.int j/\d=.int (i+j)/\M'=M) \/
 (∃U Z,x=.tup U/\y=.tup Z/\U.length+Z.length<=100000/\d=.tup (U++Z)/\M'=M) \/
 ∃U Z,MW.gr M x=some U/\MW.gr M y=some Z/\U.length+Z.length<=100000/\d=.vl (U++Z)/\M'=M:=by
 have h:MW.Xr x y M=.ok d M':=h;unfold MW.Xr at h;split at h<;>try cases h
 .exact .inl ⟨_,_,rfl,rfl,rfl,rfl⟩
 .split at h<;>cases h
  rename_i J;exact .inr (.inl ⟨_,_,rfl,rfl,J,rfl,rfl⟩)
 .split at h
  .split at h<;>cases h
   rename_i G Y T;exact .inr (.inr ⟨_,_,G,Y,T,rfl,rfl⟩)
  .cases h
set_option tactic.hygienic true in
def awx(h:MW.ad2 x y M=.ok d Z):(∃i j,x=.int i/\y=.int j/\av8 i j/\d=.int (i*j)/\Z=M)\/∃z,∃k:Nat,x=.tup [z]/\y=.int k/\k<=100000/\d=.tup (List.replicate k z)/\Z=M:=by
 unfold MW.ad2 at h;split at h
 .split at h
  .rename_i n
   split at h
   .rename_i O
    cases h;exact .inr ⟨_,n.toNat,rfl,by rw[Int.toNat_of_nonneg O.1],by omega,rfl,rfl⟩
   .cases h
  .cases h
 .obtain⟨i,j,rfl,rfl,T⟩:=MW.abn h (by intro z;cases z)
  split at T
  .rename_i B
   cases T;exact .inl ⟨i,j,rfl,rfl,B,rfl,rfl⟩
  .cases T
theorem ae8(r:Rep K Z H d v):∀k:Nat,qy K Z H (List.replicate k d) (List.replicate k v)
 |0=>.nil|k+1=>.cons r (ae8 r k)
def baz:Ej X (binaryOp .Mult) (rOp nm X.K (MW.Ey .mul)):=
 Ej.of (a3f.or awr) λv u H Q T M x y d P S B J e q=>by
  rcases awx e with⟨i,j,rfl,rfl,E,rfl,rfl⟩|⟨z,k,rfl,rfl,L,rfl,rfl⟩
  .cases B;cases J
   exact .inl ⟨_,_,rfl,rfl,E,q T H _ (Le.refl _ _) S (.int _)⟩
  .cases J
   cases B with
   |tup G Y =>
    cases Y with
    |cons Y C =>
     cases C;refine .inr ⟨_,_,k,rfl,rfl,Gd.of G,L,λN=>?_,λp O=>?_⟩
     .subst N
      exact q T H _ (Le.refl _ _) S (.tup G (.cons Y .nil))
     .obtain⟨a,b,c⟩:=Nj S O (ae8 Y k)
      exact q T _ _ b a c
def ba0:Ej X (binaryOp .Add) (rOp nm X.K (MW.Ey .add)):=
 Ej.of (a3d.or (a3v.or awn)) λv u H Q O M x y d M' S R W e q=>by
  have G:∀B J,MW.gr M x=some B->MW.gr M y=some J->B.length+J.length<=100000->d=.vl (B++J)->M'=M->bai v u H Q:=λB J V F C D I=>by
   subst D I;obtain⟨p,Z,rfl,N,Y⟩:=uz S R V;obtain⟨U,E,rfl,L,T⟩:=uz S W F;refine⟨p,U,Z,E,rfl,rfl,N,L,?_,λp3 A=>?_⟩
   .rw[<-Y.length,<-T.length];exact gf C Ym
   .obtain⟨a,b,c⟩:=ack S A (Y.append T)
    exact q O _ _ b a c
  rcases aww e with⟨i,j,rfl,rfl,rfl,rfl⟩|⟨B,J,rfl,rfl,C,rfl,rfl⟩|⟨B,J,V,F,C,A,h4⟩
  .cases R;cases W
   exact .inl ⟨_,_,rfl,rfl,q O H _ (Le.refl _ _) S (.int _)⟩
  .cases R with
   |tup N Y =>
    cases W with
    |tup L T =>
     refine .inr (.inr ⟨_,_,_,_,rfl,rfl,Gd.of N,Gd.of L,?_,λP=>?_,λP=>?_,λp hp=>?_⟩)
     .rw[<-Y.length,<-T.length];exact gf C Ym
     .have:=Y.length
      rw[P]at this;rw[ue.mp this,yj]at q;exact q O H _ (Le.refl _ _) S (.tup L T)
     .have:=T.length
      rw[P]at this;rw[ue.mp this,Be]at q;exact q O H _ (Le.refl _ _) S (.tup N Y)
     .obtain⟨a,b,c⟩:=Nj S hp (Y.append T)
      exact q O _ _ b a c
  .exact .inr (.inl (G _ _ V F C A h4))
def awy{t:TE}(h:PT X a (λZ H Q=>t Z H λx U=>∃c,x=.bl c/\Q c U))(w:∀Z H Q,tE nm W X.K a' Z H Q->t Z H Q):PT X a (tQ nm W X.K a'):=
 PT.of h λZ H Q O J M b T S R e q=>w Z H _ ⟨O,J,M,_,T,S,R,e,λY B v le G r=>by cases r;exact⟨b,rfl,q Y B le G⟩⟩
def ba2(h:PE X a (tE nm W X.K U))(Y:∀Z,isTrue a X.env Z=(do let v<-Z;standAt a.pos;holding [v] (truthy v))):PT X a (tQ nm W X.K U):=
 awy (a2m h Y) λ_ _ _ q=>q
def Yn(G:Nm)(K:Fg)(T:Cp):R2:=λv u H Q=>∃Y M x y b,m9 G K Y H M/\Rep K Y H x v/\Rep K Y H y u/\MW.J1 T x y M=some b/\Q (.bl b) H
def ae9{X:Cx}:∀Z H Q,tE nm W X.K (.cmp U a' b') Z H Q->tOp (Yn nm X.K U) (tE nm W X.K a') (tE nm W X.K b') Z H Q:=λZ H Q L=>by obtain⟨V,F,M,d,G,S,R,e,q⟩:=L;rw[MW.au7]at e;obtain⟨x,P,J,e⟩:=gw e;obtain⟨y,A,C,e⟩:=gw e;obtain⟨e,rfl⟩:=yz e;obtain⟨b,O,rfl⟩:=dg.mp e;exact two S R J C λY N v u le T _ E B=>⟨Y,G,x,y,b,T,E,B,O,q Y N _ le T (.bl b)⟩
def ba3(G:Ej X (compareOp op) (Yn nm X.K Z))(J:PE X a (tE nm W X.K U))(Y:PE X b (tE nm W X.K b'))(T:behindInMarks op b=false):PE X (.Compare a [op] [b] pos) (tE nm W X.K (.cmp Z U b')):=
 PE.weak (awb G J Y T) ae9
def ba4(G:Ej X (compareOp op) (Yn nm X.K Z))(J:PE X a (tE nm W X.K U))(Y:PE X b (tE nm W X.K b'))(T:behindInMarks op b=false):PT X (.Compare a [op] [b] pos) (tQ nm W X.K (.cmp Z U b')):=
 awy (t:=tOp (Yn nm X.K Z) (tE nm W X.K U) (tE nm W X.K b')) (awc G J Y T) ae9
def Yo{X:Cx}:∀Z H Q,tE nm W X.K (.chain op1 op2 a' b' U) Z H Q->ace (Yn nm X.K op1) (Yn nm X.K op2) (tE nm W X.K a') (tE nm W X.K b') (tE nm W X.K U) Z H Q:=λZ H Q I=>by
 obtain⟨ι,P,M,d,M',S,R,e,q⟩:=I;rw[MW.ak3]at e;obtain⟨x,M1,F,e⟩:=gw e;obtain⟨y,M2,e2,e⟩:=gw e;obtain⟨k,Y,O,e⟩:=gw e;obtain⟨O,rfl⟩:=yz O;refine two S R F e2 λJ N v u le B R2 V L=>⟨J,Y,x,y,k,B,V,L,O,k,rfl,?_⟩
 cases k with
 |false =>
  have e:Res.ok (MW.D.bl false) Y=.ok d M':=e;cases e;exact q J N _ le B (.bl false)
 |true =>
  have e:((U.den W P Y).bind λz C=>Res.v9 ((MW.J1 op2 y z C).map MW.D.bl) C)=.ok d M':=e;obtain⟨z,C,A,e⟩:=gw e;obtain⟨e,rfl⟩:=yz e;obtain⟨b,e5,rfl⟩:=dg.mp e;show tE nm W X.K U Z N _;exact one B R2 A λT H3 w G E _ rw=>⟨T,M',y,z,b,E,L.mono G,rw,e5,q T H3 _ (le.trans G) E (.bl b)⟩
def awz(B:Ej X (compareOp Z) (Yn nm X.K op1))(T:Ej X (compareOp U) (Yn nm X.K op2))(J:PE X a (tE nm W X.K a'))(Y:PE X b (tE nm W X.K b'))(O:PE X c (tE nm W X.K c'))(G:lastMarks [Z,U] [b,c]=false) :
 PE X (.Compare a [Z,U] [b,c] pos) (tE nm W X.K (.chain op1 op2 a' b' c')):=PE.weak (apv B T J Y O G) Yo
def aw0(B:Ej X (compareOp Z) (Yn nm X.K op1))(T:Ej X (compareOp o2) (Yn nm X.K op2))(J:PE X a (tE nm W X.K U))(Y:PE X b (tE nm W X.K b'))(O:PE X c (tE nm W X.K c'))(G:lastMarks [Z,o2] [b,c]=false) :
 PT X (.Compare a [Z,o2] [b,c] pos) (tQ nm W X.K (.chain op1 op2 U b' c')):=awy (t:=ace (Yn nm X.K op1) (Yn nm X.K op2) (tE nm W X.K U) (tE nm W X.K b') (tE nm W X.K c')) (apw B T J Y O G) Yo
def aco(h:Ej X (compareOp op) (rI0 λi j=>.bl (f i j)))(e:∀x y M,MW.J1 Z x y M=MW.ad3 f x y):Ej X (compareOp op) (Yn nm X.K Z):=
 Ej.weak h λv u H Q J=>by obtain⟨O,M,x,y,b,S,B,T,Y,q⟩:=J;rw[e]at Y;obtain⟨i,j,rfl,rfl,G⟩:=MW.abn Y (by intro z;cases z);cases B;cases T;cases G;exact⟨_,_,rfl,rfl,q⟩
def bgp:Ej X (compareOp .Lt) (Yn nm X.K .lt):=aco a9t λ_ _ _=>rfl
def bgq:Ej X (compareOp .LtE) (Yn nm X.K .le):=aco a9u λ_ _ _=>rfl
def bgr:Ej X (compareOp .Gt) (Yn nm X.K .gt):=aco a9v λ_ _ _=>rfl
def bgs:Ej X (compareOp .GtE) (Yn nm X.K .ge):=aco a9w λ_ _ _=>rfl
set_option tactic.hygienic true in
def az9{T:Ya}(D:PE X a (tE nm W X.K Z))(L:PE X (.BoolOp .And (b::T) pos) (tE nm W X.K Y)):PE X (.BoolOp .And (a::b::T) pos) (tE nm W X.K (.and Z Y)):=
 PE.of (a2q D L) λy H Q U J M d C S R e q=>by
  rw[MW.aio]at e;obtain⟨x,u,V,e⟩:=gw e;refine one S R V λO P v le N E r=>?_
  cases r<;>try cases e
  rename_i k;refine⟨k,rfl,?_⟩;cases k with
  |false=>cases e;exact q O P _ le N (.bl false)|true=>exact one N E e λB F w G A _ I=>q B F w (le.trans G) A I
set_option tactic.hygienic true in
def ba5{T:Ya}(D:PE X a (tE nm W X.K Z))(L:PE X (.BoolOp .Or (b::T) pos) (tE nm W X.K Y)):PE X (.BoolOp .Or (a::b::T) pos) (tE nm W X.K (.or Z Y)):=
 PE.of (a9d D L) λy H Q U J M d C S R e q=>by
  rw[MW.aog]at e;obtain⟨x,u,V,e⟩:=gw e;refine one S R V λO P v le N E r=>?_
  cases r<;>try cases e
  rename_i k;refine⟨k,rfl,?_⟩;cases k with
  |true=>cases e;exact q O P _ le N (.bl true)|false=>exact one N E e λB F w G A _ I=>q B F w (le.trans G) A I
def ba6(B:PE X a (tE nm W X.K Z)):PE X (.UnaryOp .Not a pos) (tE nm W X.K (.not Z)):=
 PE.of (a2r B) λE H Q P L M d O S R e q=>by
  rw[MW.aip]at e;obtain⟨x,C,T,e⟩:=gw e;refine one S R T λY J v le G N r=>?_
  cases r<;>try cases e
  exact⟨_,rfl,q Y J _ le G (.bl _)⟩
def Z0{X:Cx}{Y:dz}(S:m9 nm X.K ι H M)(R:yd X.K ι H ρ σ)(O:a'.den W ρ M=.ok (.bl k) Y)(h:∀Z U,Le ι H Z U->m9 nm X.K Z U Y->yd X.K Z U ρ σ->G k U):tQ nm W X.K a' σ H G:=
 ⟨ι,ρ,M,k,Y,S,R,O,λT B le J=>h T B le J (R.mono le)⟩
set_option tactic.hygienic true in
def a0a{rest:Ya}(G:PT X a (tQ nm W X.K Z))(E:PW X (.BoolOp .And (b::rest) pos) (tQ nm W X.K Y)):PW X (.BoolOp .And (a::b::rest) pos) (tQ nm W X.K (.and Z Y)):=
 λT B s J H Q I z=>a2o G E T B s J H Q I (by
  obtain⟨y,C,M,d,u,S,R,e,q⟩:=z;rw[MW.aio]at e;obtain⟨x,M1,F,e⟩:=gw e;cases x<;>try cases e
  rename_i k;refine Z0 S R F λN V le L P=>?_
  cases k with
  | false=>cases e;exact q N V le L|true=>exact Z0 L P e λO A U D _=>q O A (le.trans U) D)
set_option tactic.hygienic true in
def ba7{rest:Ya}(G:PT X a (tQ nm W X.K Z))(E:PW X (.BoolOp .Or (b::rest) pos) (tQ nm W X.K Y)):PW X (.BoolOp .Or (a::b::rest) pos) (tQ nm W X.K (.or Z Y)):=
 λT B s J H Q I z=>a9a G E T B s J H Q I (by
  obtain⟨y,C,M,d,u,S,R,e,q⟩:=z;rw[MW.aog]at e;obtain⟨x,M1,F,e⟩:=gw e;cases x<;>try cases e
  rename_i k;refine Z0 S R F λN V le L P=>?_
  cases k with
  | true=>cases e;exact q N V le L|false=>exact Z0 L P e λO A U D _=>q O A (le.trans U) D)
def ba8(B:PT X a (tQ nm W X.K Z)):PT X (.UnaryOp .Not a pos) (tQ nm W X.K (.not Z)):=
 PT.of (a2p B) λE H Q P L M d O S R e q=>by
  rw[MW.aip]at e;obtain⟨x,C,T,e⟩:=gw e;cases x<;>try cases e
  exact Z0 S R T λY J le G N=>q Y J le G
set_option tactic.hygienic true in
def ba9(I:PT X c (tQ nm W X.K G))(A:PE X a (tE nm W X.K Z))(V:PE X b (tE nm W X.K Y)):PE X (.IfExp c a b pos) (tE nm W X.K (.ite G Z Y)):=
 PE.of (apj I A V) λu H Q C U M d y S R e q=>by
  rw[MW.au8]at e;obtain⟨x,M1,F,e⟩:=gw e;cases x<;>try cases e
  rename_i k;refine Z0 S R F λD J le P E=>?_
  cases k with
  |true=>exact one P E e λT B w L O _ N=>q T B w (le.trans L) O N
  |false=>exact one P E e λT B w L O _ N=>q T B w (le.trans L) O N
def Wi:PA X [] (Zm nm W X.K .nil):=PA.of a3m λB H Q Y J M G T S R e q=>by rw[MW.T4]at e;cases e;exact q Y H _ (Le.refl _ _) S .nil
def Z3{X:Cx}{M1:dz}(S:m9 nm X.K ι H M)(R:yd X.K ι H ρ σ)(B:es'.den W ρ M=.ok ds M1)(h:∀Z U vs,Le ι H Z U->m9 nm X.K Z U M1->yd X.K Z U ρ σ->qy X.K Z U ds vs->G vs U):Zm nm W X.K es' σ H G:=
 ⟨ι,ρ,M,ds,M1,S,R,B,λY J v le T r=>h Y J v le T (R.mono le) r⟩
def Qi(E:PE X a (tE nm W X.K a'))(P:PA X U (Zm nm W X.K Z))(V:starEach (a::U) X.env=(false,eval a X.env)::starEach U X.env):PA X (a::U) (Zm nm W X.K (.cons a' Z)):=
 PA.of (awf E P V) fun σ H Q ι ρ M D M' S R e q=>by rw[MW.Ik]at e;obtain⟨x,M1,J,e⟩:=gw e;obtain⟨xs,M2,F,e⟩:=gw e;cases e;exact one S R J λA I v le B G O=>Z3 B G F λY C vs T N R2 L=>q Y C _ (le.trans T) N (.cons (O.mono T) L)
noncomputable def Ez.len:Ez->Nat
 |.nil=>0|.cons _ r=>Ez.len r+1
theorem Jv{W:Jy}:∀{Y:Ez}{B:En}{M T:dz}{G:List Dv},Y.den W B M=.ok G T->G.length=Ez.len Y
 |.nil,_,_,_,_,e=>by rw[MW.T4]at e;cases e;rfl
 |.cons _ r,_,_,_,_,e=>by
  rw[MW.Ik]at e;obtain⟨x,T,O,e⟩:=gw e;obtain⟨C,N,J,e⟩:=gw e;cases e;rw[iw,Jv J];rfl
def bba(h:PA X U (Zm nm W X.K Z))(O:Ez.len Z<=1000):PE X (.Tuple U k pos) (tE nm W X.K (.tup Z)):=
 PE.of (a3n h) λD H Q F V M d I S R e q=>by
  rw[MW.au9]at e;obtain⟨P,M1,T,e⟩:=gw e;cases e;refine Z3 S R T λY E A le G L r=>⟨?_,λp C=>?_⟩
  .rw[<-r.length,Jv T];exact gf O (by decide)
  .obtain⟨J,N,B⟩:=Nj G C r
   exact q Y _ _ (le.trans N) J B
def a4e(h:PA X U (Zm nm W X.K Z))(O:Ez.len Z<=1000):PE X (.List U pos) (tE nm W X.K (.Lh Z)):=
 PE.of (apz h) λD H Q F V M d I S R e q=>by
  rw[MW.aoh]at e;obtain⟨P,M1,T,e⟩:=gw e;cases e;refine Z3 S R T λY E A le G L r=>⟨?_,λp C=>?_⟩
  .rw[<-r.length,Jv T];exact gf O (by decide)
  .obtain⟨J,N,B⟩:=ack G C r
   exact q Y _ _ (le.trans N) J B
def bbb(h:PA X U (Zm nm W X.K Z))(B:Ez.len Z<=1000):PE X (.List U pos) (tE nm W X.K (.lst Z)):=
 PE.of (apz h) λD H Q F V M d I S R e q=>by
  rw[MW.ava]at e;obtain⟨P,M1,Y,e⟩:=gw e;cases e;refine Z3 S R Y λN E A le T L r=>⟨?_,λp O=>?_⟩
  .rw[<-r.length,Jv Y];exact gf B (by decide)
  .obtain⟨G,C,J⟩:=acn T O r
   exact q _ _ _ (le.trans C) G J
def bbc(B:PE X a (tE nm W X.K Z)):PE X (.UnaryOp .USub a pos) (tE nm W X.K (.neg Z)):=
 PE.of (a9p a3i B) λE H Q P L M d O S R e q=>by
  rw[MW.au6]at e;obtain⟨x,C,T,e⟩:=gw e;refine one S R T λY J v le G N r=>?_
  cases r<;>try cases e
  exact⟨_,rfl,q Y J _ le G (.int _)⟩
open PyProof.Rows (subscriptTail)
section
variable{κ:Type}[DecidableEq κ]{K:Fg}{ι:Io}{H:Hp}
theorem xf.length{κ Y:Type}{f:κ->Y->Prop}{l:List (κ×Dv)}{T:List (Y×V)}(h:xf K ι H f l T):l.length=T.length:=by
 induction h with
 |nil=>rfl|cons _ _ t G=>rw[iw,iw,G]
def xf.look{k:κ}{T:List (κ×Dv)}{l:List (κ×V)}(h:xf K ι H (λk Z=>k=Z) T l):(∀d,MW.Af T k=some d->∃v,S8 l k=some v/\Rep K ι H d v)/\(MW.Af T k=none->S8 l k=none):=by
 induction h with
 |nil=>exact⟨λd h=>by simp[MW.Af]at h,λ_=>rfl⟩
 |@cons q _ _ _ _ _ hk h t ih =>
  subst hk;obtain⟨a,b⟩:=ih
  by_cases e:q=k
  .refine⟨λd Y=>?_,λY=>?_⟩
   .simp[MW.Af,ud,e]at Y
    subst Y;exact⟨_,Ue e,h⟩
   .simp[MW.Af,ud,e]at Y
  .have z:∀(d:Dv) r,MW.Af ((q,d)::r) k=MW.Af r k:=λd r=>by simp[MW.Af,ud,e]
   rw[z,Ug (by exact e)];exact⟨a,b⟩
theorem xf.any{k:κ}:∀{Y:List (κ×Dv)}{l:List (κ×V)},xf K ι H (λk U=>k=U) Y l->(Y.any λZ=>decide (Z.1=k))=(l.any λZ=>decide (Z.1=k))
 |_,_,.nil=>rfl|_,_,.cons hk h t=>by subst hk;simp only[List.any_cons,xf.any t]
theorem xf.Ju{k:κ}{d:Dv}{v:V}(r:Rep K ι H d v):∀{Y:List (κ×Dv)}{l:List (κ×V)},xf K ι H (λk U=>k=U) Y l ->
 xf K ι H (λk U=>k=U) (Y.map λZ=>if Z.1=k then(Z.1,d)else Z) (l.map λZ=>if Z.1=k then(Z.1,v)else Z)
 |_,_,.nil=>.nil
 |_,_,.cons (k:=q) hk h t=>by
  subst hk;simp only[gq]
  by_cases e:q=k
  .simp only[e,lz];exact .cons rfl r (xf.Ju r t)
  .simp only[e,jq];exact .cons rfl h (xf.Ju r t)
def xf.snoc{κ Y:Type}{f:κ->Y->Prop}{k:κ}{G:Y}{d:Dv}{v:V}(B:f k G)(r:Rep K ι H d v){l:List (κ×Dv)}{T:List (Y×V)}(h:xf K ι H f l T):xf K ι H f (l++[(k,d)]) (T++[(G,v)]):=by
 induction h with
 |nil=>exact .cons B r .nil|cons q h t J=>exact .cons q h J
def xf.put{k:κ}(r:Rep K ι H d v)(t:xf K ι H (λk Z=>k=Z) U l):xf K ι H (λk Z=>k=Z) (MW.Dz U k d) (putK l k v):=by
 unfold MW.Dz putK;rw[t.any (k:=k)]
 by_cases e:(l.any λY=>decide (Y.1=k))=true
 .rw[dj e,dj e];exact t.Ju r
 .rw[cj e,cj e];exact t.snoc rfl r
theorem xf.fld{nm:Nm}{f:Nat}{fs:List (Nat×Dv)}{l:List (Str×V)}(h:xf K ι H (λk Z=>Z=nm.fld k) fs l):(∀d,fs.lookup f=some d->∃v,l.lookup (nm.fld f)=some v/\Rep K ι H d v)/\(fs.lookup f=none->l.lookup (nm.fld f)=none):=by
 induction h with
 |nil=>exact⟨λd h=>by simp at h,λ_=>rfl⟩
 |@cons q _ _ _ _ _ hk h t ih =>
  subst hk;obtain⟨a,b⟩:=ih;rw[qu,qu]
  by_cases e:f=q
  .subst e
   simp only[Aq];exact⟨λd Y=>by cases Y;exact⟨_,rfl,h⟩,λY=>by cases Y⟩
  .have T:(f==q)=false:=by simpa using e
   have G:(nm.fld f==nm.fld q)=false:=by
    cases z:nm.fld f==nm.fld q with
    |false=>rfl|true=>exact absurd (nm.inj _ _ (eq_of_beq z)) e
   rw[T,G];exact⟨a,b⟩
theorem xf.J5{Y:Nm}{f:Nat}{d:Dv}{v:V}(r:Rep K ι H d v):∀{fs:List (Nat×Dv)}{l:List (Str×V)},xf K ι H (λk Z=>Z=Y.fld k) fs l->xf K ι H (λk Z=>Z=Y.fld k) (MW.Vs f d fs) (L2.J5 (Y.fld f) v l)
 |_,_,.nil=>.cons rfl r .nil
 |_,_,.cons (k:=q) (k':=q') hk h t=>by
  subst hk;unfold MW.Vs L2.J5
  by_cases e:q=f
  .subst e
   simp only[lz];exact .cons rfl r t
  .have T:¬Y.fld q=Y.fld f:=λz=>e (Y.inj _ _ z)
   rw[cj e,cj T];exact .cons rfl h (xf.J5 r t)
def acp(r:Rep K ι H d v)(h:MW.Xq d=some k):v=kV k:=by cases r<;>simp[MW.Xq]at h<;>subst h<;>rfl
def a4f{Y:List Dv}{T:List V}{G:List Kx}(a:qy K ι H Y T)(h:MW.abm Y=some G):T=G.map kV:=by
 induction Y generalizing T G with
 |nil=>cases a;simp[MW.abm]at h;subst h;rfl
 |cons d Y J =>
  cases a with
  |cons r t =>
   simp only[MW.abm]at h;split at h
   .rename_i O B
    cases h;rw[acp r O,J t B];rfl
   .cases h
def Yp(r:Rep K ι H d v)(h:MW.Q3 d=some Z):∃b,v=.ref b/\H b=some (.tup (Z.map kV)):=by
 cases r with
 |tup e r=>exact⟨_,rfl,by rw[<-a4f r h];exact e⟩|_=>simp[MW.Q3]at h
end
def bgt(T:Nm)(K:Fg):R2:=λv u H Q=>∃Y M x y d,m9 T K Y H M/\Rep K Y H x v/\Rep K Y H y u/\MW.Bk x y M=some d/\∀w,Rep K Y H d w->Q w H
def aqo(O:X.A.units+1<cLine):IxR X (λx y H Q=>∃a v,x=.ref a/\Q6 H a y (some v)/\Q v H):=by intro Y T G s E H x y v u Q I B N h J;obtain⟨p,z,rfl,g,q⟩:=h;cases B;exact PyProof.Rows.tail_any (aez I g) PySem.F.slot_dict_getitem.lookup (alr O I g N λP L C r=>⟨z,H,C,r,q⟩) J
set_option tactic.hygienic true in
def a4g(hu:X.A.units+1<cLine):IxR X (bgt nm X.K):=by
 intro T B O s U H v u D J Q I rv ru z hs;obtain⟨ι,M,x,y,d,S,rx,W,e,q⟩:=z;have E:∀(p:Addr)(L:List V)(F:List Dv),v=.ref p->(J2 X.K H p L\/Gd X.K H p L)->qy X.K ι H F L->(match y with|.int i=>(MW.Zv F.length i).bind λj=>F[j]?|_=>none)=some d ->
  wpAny (model X.prog X.w) X.A (subscriptTail T B D J) (EP X O U Q) X.xe s:=λp L F hv Y r e=>by
  subst hv;obtain⟨i,qq⟩:∃i,y=.int i:=by cases y<;>first|exact⟨_,rfl⟩|cases e
  subst qq;cases W;obtain⟨j,N,C⟩:=ik.mp e;obtain⟨z,R,P⟩:=r.get C;have G:atI L i=some z:=by unfold atI;rw[show ixN L.length i=some j from by rw[<-r.length];exact N];exact R
  rcases Y with Y|Y
  .exact L2.Ea T B O s U H _ _ D J Q I rv ru ⟨p,L,i,z,rfl,rfl,Y,G,q z P⟩ hs
  .exact L2.Ip T B O s U H _ _ D J Q I rv ru ⟨p,L,i,z,rfl,rfl,Y,G,q z P⟩ hs
 cases rx with
 |tup N Z=>exact E _ _ _ rfl (.inr (Gd.of N)) Z (by cases W<;>first|exact e|(simp[MW.Bk,MW.Dd]at e))
 |vl N n1 Z=>exact E _ _ _ rfl (.inl (J2.of N)) Z (by cases W<;>first|exact e|(simp[MW.Bk,MW.Dd,MW.gr]at e))
 |fz N Z=>exact E _ _ _ rfl (.inl N.sq) Z (by cases W<;>first|exact e|(simp[MW.Bk]at e))
 |ref N =>
  rename_i n p;simp only[MW.Bk]at e;split at e
  .rename_i je hn
   obtain⟨l,R,P⟩:=S.obj n _ p hn N;obtain⟨k,C,e3⟩:=ik.mp e;obtain⟨z,h3,h4⟩:=(P.look (k:=k)).1 d e3;obtain⟨b,rfl,hb⟩:=Yp W C;exact aqo hu T B O s U H _ _ D J Q I rv ru ⟨p,z,rfl,by rw[<-h3];exact Q6.t R hb,q z h4⟩ hs
  .rename_i je hn
   obtain⟨l,R,P⟩:=S.obj n _ p hn N;obtain⟨k,C,e3⟩:=ik.mp e;obtain⟨z,h3,h4⟩:=(P.look (k:=k)).1 d e3;have hy:=acp W C;subst hy;exact aqo hu T B O s U H _ _ D J Q I rv ru ⟨p,z,rfl,by rw[<-h3];exact Q6.k R,q z h4⟩ hs
  .cases hl:MW.gr M (.ref n)with
   |none=>rw[hl]at e;cases e
   |some F =>
    obtain⟨p',L,hp,R,P⟩:=uz S (.ref N) hl;cases hp;rw[hl]at e;exact E _ _ _ rfl (.inl (J2.of R)) P (by cases W<;>first|exact e|cases e)
 |_=>simp[MW.Bk,MW.Dd,MW.gr]at e
def bgu(L:X.A.units+1<cLine)(C:PE X a (tE nm W X.K Z))(G:PE X b (tE nm W X.K U))(P:acg b):PE X (.Subscript a b pos) (tE nm W X.K (.ix Z U)):=
 PE.of (baa (a4g (nm:=nm) L) C G P) λz H Q D F M d N S R e q=>by rw[MW.a1d]at e;obtain⟨x,g,B,e⟩:=gw e;obtain⟨y,I,V,e⟩:=gw e;obtain⟨e,rfl⟩:=yz e;exact two S R B V λY O v u le T _ J E=>⟨Y,N,x,y,d,T,J,E,e,λw r=>q Y O w le T r⟩
def bbd(N:n=nm.fld f)(G:∀c C,nm.cls c=some C->Cls X.K C/\K8 X.K C n)(V:PE X a (tE nm W X.K Z))(B:attributeBase a n X.env (eval a X.env)=eval a X.env):PE X (.Attribute a n pos) (tE nm W X.K (.fld Z f)):=
 PE.of (a3k V B) fun σ H Q ι ρ M d M' S R e q=>by
  rw[MW.avc]at e;obtain⟨x,M1,P,e⟩:=gw e;obtain⟨e,rfl⟩:=yz e;refine one S R P λY L v le J R1 r=>?_
  obtain⟨m,T⟩:∃m,x=.ref m:=by cases x<;>first|exact⟨_,rfl⟩|cases e
  subst T;obtain⟨p,rfl,D⟩:∃p,v=.ref p/\Y.l[m]?=some p:=by cases r with|ref z=>exact⟨_,rfl,z⟩
  simp only[MW.Tw]at e;split at e
  .rename_i c fs O
   obtain⟨C,dx,l,I,h2,h3⟩:=J.obj m _ p O D;obtain⟨z,U,F⟩:=(h3.fld (nm:=nm) (f:=f)).1 d e;subst N;obtain⟨A,E⟩:=G c C I;exact⟨p,C,dx,l,z,rfl,h2,A,E,U,q Y L z le J F⟩
  .cases e
open MW (Ex Ez OEx Q8 De ql Lv Tg Res dz MO Jy Cp Op2 Blt Bm Kx Src)
noncomputable def Vk:Expr->Bool
 |.ListComp ..=>false|.SetComp ..=>false|.DictComp ..=>false|_=>true
def Qj(h:Vk e=true)(t:Option Expr)(l:Nat)(Y:Env):swapsWith e t l Y=pure false:=by cases e<;>first|rfl|(cases h)
noncomputable def Hw:Expr->Bool
 |.Set ..=>false|_=>true
def Fv(h:Hw e=true)(Y:Env)(x:Value):foldedSetIterable e Y x=pure x:=by cases e<;>first|rfl|(cases h)
def Wj(h:Hw e=true)(Y:CmpOp):behindInMarks Y e=false:=by cases e<;>first|rfl|(cases h)
noncomputable def a0b:Expr->Bool
 |.Tuple ..=>false|_=>true
noncomputable def noStar:Expr->Bool
 |.Starred ..=>false|_=>true
def ph(h:noStar e=true)(Y:Ya)(env:Env):starEach (e::Y) env=(false,eval e env)::starEach Y env:=by cases e<;>first|rfl|(cases h)
noncomputable def acq:Expr->Bool
 |.Slice ..=>false|_=>true
def aqp(h:acq e=true):acg e:=by intro o i;cases e<;>first|rfl|(cases h)
noncomputable def Df:Tg->List Nat
 |.name i=>[i]|.names is=>is
def tGt(O:Nm)(K:Fg)(t:Tg):TG:=λv J H Q=>∃G B M d T,m9 O K G H M/\yd K G H B J/\Rep K G H d v/\t.put d B=some T/\∀Y,yd K G H T Y->Y.length=J.length->(∀j,j∉Df t->Y[j]?=J[j]?)->Q Y H
def PG.weak(h:PG X tg t)(w:∀v Z H Q,t' v Z H Q->t v Z H Q):PG X tg t':=λY s Z H v u Q I r q=>h Y s Z H v u Q I r (w v Z H Q q)
def PG.of(h:PG X tg t)(w:∀v σ H Q ι ρ M d U,m9 nm X.K ι H M->yd X.K ι H ρ σ->Rep X.K ι H d v->tt.put d ρ=some U->(∀Z,yd X.K ι H U Z->Z.length=σ.length->(∀j,j∉Df tt->Z[j]?=σ[j]?)->Q Z H)->t v σ H Q):PG X tg (tGt nm X.K tt):=
 PG.weak h λv σ H Q z_=>by obtain⟨ι,ρ,M,d,U,S,R,r,e,q⟩:=z_;exact w v σ H Q ι ρ M d U S R r e q
def a4h(G:X.N.Nodup)(J:X.N[i]?=some n)(T:Loc X.env.scope n)(Y:X.fn n=true\/X.env.scope.names.lookup n=some .local):PG X (.Name n pos) (tGt nm X.K (.name i)):=
 PG.of (acd G J T Y) λv L H Q E C M d B S R r e q=>by cases e;exact q _ (R.set r i) (by simp) λj O=>vy (λz=>O (by simp[Df,z]))
noncomputable def Nk:List Nat->List V->St->St
 |i::is,v::vs,σ=>Nk is vs (σ.set i (some v))|_,_,σ=>σ
theorem Tc{Y:Io}{H:Hp}{K:Fg}:∀{is:Y3}{G:List Dv}{T:List V}{J:En}{B:St},yd K Y H J B->qy K Y H G T->yd K Y H (MW.Gj is G J) (Nk is T B)
 |[],_,_,_,_,R,r=>by cases r<;>exact R|_::_,_,_,_,_,R,.nil=>R|i::is,_,_,_,_,R,.cons h t=>Tc (is:=is) (R.set h i) t
theorem Np:∀{is:Y3}{T:List V}{Y:St}{j:Nat},j∉is->(Nk is T Y)[j]?=Y[j]?
 |[],T,Y,j,_=>by cases T<;>rfl|i::is,[],Y,j,_=>rfl
 |i::is,v::T,Y,j,h=>by
  show(Nk is T (Y.set i (some v)))[j]?=_;rw[Np (λz=>h (bw _ z)),vy (λz=>h (by rw[z];exact fc))]
theorem Qk:∀{is:Y3}{T:List V}{Y:St},(Nk is T Y).length=Y.length
 |[],T,Y=>by cases T<;>rfl|_::_,[],Y=>rfl|i::is,v::T,Y=>by show(Nk is T (Y.set i (some v))).length=_;rw[Qk,List.length_set]
inductive Nq(X:Cx):List Expr->List Nat->Prop
 |nil:Nq X [] []
 |cons {n:Str} {p:Pos} {i:Nat} {ts:Ya} {is:Y3} (hi:X.N[i]?=some n) (hx:Loc X.env.scope n) (hf:X.fn n=true\/X.env.scope.names.lookup n=some .local) (t:Nq X ts is):Nq X (.Name n p::ts) (i::is)
def afa{X:Cx}(L:X.N.Nodup){B:Ya}{is:Y3}(h:Nq X B is):PGs X B (λZ U H Q=>Z.length=is.length/\Q (Nk is Z U) H):=by
 induction h with
 |nil =>
  intro Y s U H Z G Q I r q;obtain⟨T,J⟩:=q;cases ue.mp T;exact av5 Y s U H [] G Q I r ⟨rfl,J⟩
 |cons E P O t C =>
  intro Y s U H Z G Q I r q;obtain⟨T,J⟩:=q;cases Z with
  |nil=>simp at T|cons v Z=>exact apn (acd L E P O) C (by rfl) Y s U H (v::Z) G Q I r ⟨v,Z,rfl,by simpa using T,J⟩
theorem Di{X:Cx}{env:Env}:∀{Y:Ya}{is:Y3},Nq X Y is->(assignEach Y env).length=is.length/\(assignEach Y env).findIdx? (·.1)=none
 |_,_,.nil=>⟨rfl,rfl⟩
 |_,_,.cons hi hx hf t=>by
  obtain⟨T,G⟩:=Di (env:=env) t;refine⟨by simp[assignEach,T],?_⟩;simp[assignEach,List.findIdx?_cons];simpa using G
def a4i(S:X.calm=true)(h:PGs X es t)(C:(assignEach es X.env).length=n)(L:(assignEach es X.env).findIdx? (·.1)=none):PG X (.Tuple es k pos) (λv U H Q=>∃a Z,v=.ref a/\H a=some (.lst Z)/\Z.length=n/\t Z U H Q):=by
 intro Y s U H v u Q I r T;obtain⟨a,Z,B,P,E,T⟩:=T;subst B;cases r;obtain⟨G,m,J,N,F⟩:=I.lst P;have R:s.heap.IsList a G.toArray:=⟨_,N,rfl,m,rfl⟩;rw[PyProof.Rows.assign_Tuple];refine aa (wpAny_standAt ?_);unfold unpack;rw[L,C,<-E,show Z.length=G.toArray.size by simp[J.length]];refine aa (jh (PySem.W.kun_itemsOf (I.ok.hd S) R λV O=>?_));have I1:Inv X Y U H { s with heap:=V }:=I.kept (t':=s.toks) λb o e=>O b o (gh (bu e)) e
 exact h Y _ U H Z _ Q I1 (by simpa using J) T
def aw1(L:X.calm=true)(O:X.N.Nodup)(h:Nq X Z is):PG X (.Tuple Z k pos) (tGt nm X.K (.names is)):=λY s C H v u Q I E V=>by
 obtain⟨F,W,M,d,P,S,R,r,e,q⟩:=V;cases r with
 |tup J T =>
  simp only[Tg.put]at e;split at e<;>cases e;rename_i G;exact a2w L (afa O h) (Di h).1 (Di h).2 Y s C H _ u Q I E ⟨_,_,rfl,Gd.of J,by rw[<-T.length];exact G,by rw[<-T.length];exact G,q _ (Tc R T) Qk λj B=>Np B⟩
 |vl J _ T =>
  simp only[Tg.put]at e;split at e<;>cases e;rename_i G;exact a4i L (afa O h) (Di h).1 (Di h).2 Y s C H _ u Q I E ⟨_,_,rfl,J,by rw[<-T.length];exact G,by rw[<-T.length];exact G,q _ (Tc R T) Qk λj B=>Np B⟩
 |_=>simp[Tg.put]at e
def ajj(O:PE X a (tE nm W X.K Z))(E:PG X tg (tGt nm X.K t))(U:swapsWithSole [tg] a pos.line X.env=pure false)(P:swappedStores [tg] a X.env=pure none)(A:(assignEach [tg] X.env).map (·.2)=[assign tg X.env]) :
 PS X (.Assign [tg] a pos) (tS nm W X.K (.asg (.tg t) Z)):=
 PS.of (apo O E U P A) λD σ H ι L M fl G M' S R e q=>by rw[MW.abo]at e;obtain⟨x,M1,Q,e⟩:=gw e;obtain⟨qq,M2,B,e⟩:=gw e;cases e;rw[MW.aoo]at B;obtain⟨F,V⟩:=yz B;subst V;exact one S R Q λY N v le J C r=>⟨Y,L,_,x,G,J,C,r,F,λT I _ _=>q Y N T le J I⟩
def a4j(O:PE X a (tE nm W X.K Z))(J:swapsWith a none pos.line X.env=pure false):PS X (.Expr a pos) (tS nm W X.K (.expr Z)):=
 PS.of (av4 O J) λD L H F V M Q B E S R e q=>by rw[MW.ave]at e;obtain⟨x,P,T,e⟩:=gw e;cases e;exact one S R T λY N v le G C r=>q Y N L le G C
def bbe(B:PE X a (tE nm W X.K Z)):PS X (.Return (some a) pos) (tS nm W X.K (.ret Z)):=
 PS.of (a2t B) λD N H V Q M P J L S R e q=>by rw[MW.a1g]at e;obtain⟨x,E,T,e⟩:=gw e;cases e;exact one S R T λY C v le G O r=>q Y C N le G O v r
def bbf:PS X (.Break pos) (tS nm W X.K .brk):=
 PS.of apm λD T H G O M B Y J S R e q=>by rw[MW.a1h]at e;cases e;exact q G H T (Le.refl _ _) S R
def a4k:PS X (.Continue pos) (tS nm W X.K .cont):=
 PS.of aew λD T H G O M B Y J S R e q=>by rw[MW.avf]at e;cases e;exact q G H T (Le.refl _ _) S R
def Yl.mono{X:Cx}(le:Le ι H Z H')(q:Yl nm X.K D ι H fl U M):Yl nm X.K D Z H' fl U M:=λT G Y J B R2=>q T G Y (le.trans J) B R2
set_option tactic.hygienic true in
def bbg(F:PT X c (tQ nm W X.K G))(I:Ud X J (tSs nm W X.K Z))(A:Ud X fs (tSs nm W X.K Y)):PS X (.If c J fs pos) (tS nm W X.K (.iff G Z Y)):=
 PS.of (a9i F I A) λD y H C N M P T E S R e q=>by
  rw[MW.a1f]at e;obtain⟨x,Q,V,e⟩:=gw e;cases x<;>try cases e
  rename_i k;refine Z0 S R V λB U le L O=>?_
  cases k with
  |true=>exact⟨B,N,Q,P,T,E,L,O,e,q.mono le⟩|false=>exact⟨B,N,Q,P,T,E,L,O,e,q.mono le⟩
def a4l:Ud X [] (tSs nm W X.K .nil):=Ud.of av3 λD T H G O M B Y J S R e q=>by rw[MW.avh]at e;cases e;exact q G H T (Le.refl _ _) S R
def aw2{T:List Stmt}(I:PS X st (tS nm W X.K Z))(U:Ud X T (tSs nm W X.K rest')):Ud X (st::T) (tSs nm W X.K (.cons Z rest')):=
 Ud.of (apl I U) λD σ H Q P M A L F S R e q=>by
  rw[MW.aom]at e;obtain⟨⟨J,B⟩,E,V,e⟩:=gw e;refine⟨Q,P,M,J,B,E,S,R,V,λY N G le C O=>?_⟩;cases J with
  |next=>exact⟨Y,B,E,A,L,F,C,O,e,q.mono le⟩|brk=>cases e;exact q Y N G le C O|cont=>cases e;exact q Y N G le C O|ret d=>cases e;exact q Y N G le C O
set_option tactic.hygienic true in
def bbh(hp:PassesOwn (model X.prog X.w) X.A X.env X.xe)(hc:PT X c (tQ nm W X.K c'))(hb:Ud X body (tSs nm W X.K Yq)):PS X (.While c body [] pos) (tS nm W X.K (.whl c' Yq)):=
 PS.of (apq hp hc hb) λD σ H u ρ M fl Y M' S R e q=>by
  rw[MW.abp]at e;refine⟨λm V U=>∃E L M1,Le u H E U/\m9 nm X.K E U M1/\yd X.K E U L V/\MW.G4 (c'.den W) (Yq.den W) m L M1=.ok (fl,Y) M',⟨MW.ag4,u,ρ,M,Le.refl _ _,S,R,e⟩,?_⟩;rintro m V U ⟨E,L,M1,F,S1,R1,B⟩;cases m with
  |zero=>cases B
  |succ m =>
   simp only[MW.G4]at B;obtain⟨x,M2,e2,B⟩:=gw B;cases x<;>try cases B
   rename_i k;refine Z0 S1 R1 e2 λZ H2 G S2 R2=>?_
   cases k with
   |false=>cases B;exact q Z H2 V (F.trans G) S2 R2
   |true =>
    obtain⟨⟨I,P⟩,M3,e3,B⟩:=gw B;refine⟨λO Q=>∃T J M4,Le u H T Q/\m9 nm X.K T Q M4/\yd X.K T Q J O/\MW.G4 (c'.den W) (Yq.den W) m J M4=.ok (fl,Y) M',λO Q h4=>⟨m,j4 _,h4⟩,Z,L,M2,I,P,M3,S2,R2,e3,λT Q O N y C=>?_⟩;cases I with
    |next=>exact⟨T,P,M3,(F.trans G).trans N,y,C,B⟩|cont=>exact⟨T,P,M3,(F.trans G).trans N,y,C,B⟩|brk=>cases B;exact q T Q O ((F.trans G).trans N) y C|ret d=>cases B;exact q T Q O ((F.trans G).trans N) y C
def aqq(O:Nm)(K:Fg)(C:Io)(H:Hp)(s:Src)(J:It):Prop:=∀Y T G,LeX C H Y T->m9 O K Y T G ->
 (∀i d,i<s.len->s.item i G=some d->J.go i T/\∀v B,J.yld i T v B->Le Y T Y B/\m9 O K Y B G/\Rep K Y B d v)/\(s.fin G=true->J.stop s.len T)
def tI(G:Nm)(W:Jy)(K:Fg)(it:Q8):TI:=λN H R=>∃B C M s O,m9 G K B H M/\yd K B H C N/\it.den W C M=.ok s O/\∀Y T J,Le B H Y T->m9 G K Y T O->aqq G K Y T s J->R J T
set_option tactic.hygienic true in
def bbj(hp:PassesOwn (model X.prog X.w) X.A X.env X.xe)(hc:X.calm=true)(hi:PI X tg iter (tI nm W X.K it))(hg:PG X tg (tGt nm X.K t))(hb:Ud X body (tSs nm W X.K Yq))(hs:Hw iter=true):PS X (.For tg iter body [] pos) (tS nm W X.K (.for_ t it Yq)):=
 PS.of (a3a hp hc hi hg hb (Fv hs X.env)) λD σ H ι Y M fl O M' S R e q=>by
  rw[MW.U7]at e;obtain⟨s,M1,e1,e⟩:=gw e;refine⟨ι,Y,M,s,M1,S,R,e1,λZ H1 J W8 S1 sj=>?_⟩;refine⟨λi m I U=>m=s.len-i/\i<=s.len/\∃B P G,Le Z H1 B U/\m9 nm X.K B U G/\yd X.K B U P I/\MW.Dj s.fin s.item (λd Y M=>match t.put d Y with|some O=>Yq.den W O M|none=>.bad) m i P G=.ok (fl,O) M',
   ⟨s.len,rfl,jd _,Z,Y,M1,Le.refl _ _,S1,R.mono W8,e⟩,?_⟩
  rintro i m I U ⟨hm,q0,B,P,G,Bc,S2,R2,N⟩;obtain⟨go,C⟩:=sj B U G Bc.toX S2;cases m with
  |zero =>
   simp only[MW.Dj]at N;split at N<;>cases N;rename_i Sx;have hi:i=s.len:=by lia
   subst hi;exact .inl ⟨C Sx,q B U I (W8.trans Bc) S2 R2⟩
  |succ m =>
   simp only[MW.Dj]at N;split at N
   .cases N
   .rename_i d hd
    obtain⟨⟨y,V⟩,M3,e3,N⟩:=gw N;obtain⟨g1,g2⟩:=go i d (by omega) hd;refine .inr ⟨g1,λL F=>∃T Q M4,Le Z H1 T F/\m9 nm X.K T F M4/\yd X.K T F Q L/\MW.Dj s.fin s.item (λd Y M=>match t.put d Y with|some O=>Yq.den W O M|none=>.bad) m (i+1) Q M4=.ok (fl,O) M',
     λL F ⟨T,Q,M4,h4⟩=>⟨m,j4 _,by omega,by omega,T,Q,M4,h4⟩,λv H3 yv=>?_⟩
    obtain⟨u,S3,r3⟩:=g2 v H3 yv;split at e3
    .rename_i qq qk
     refine⟨B,P,G,d,qq,S3,R2.mono u,r3,qk,λq1 R5 _ _=>⟨B,qq,G,y,V,M3,S3,R5,e3,λT F L qv S4 R4=>?_⟩⟩;have E:=(Bc.trans u).trans qv;cases y with
     |next=>exact⟨T,V,M3,E,S4,R4,N⟩|cont=>exact⟨T,V,M3,E,S4,R4,N⟩|brk=>cases N;exact q T F L (W8.trans E) S4 R4|ret d=>cases N;exact q T F L (W8.trans E) S4 R4
    .cases e3
section
variable{nm:Nm}{W:Jy}{X:Cx}{a b c:Expr}{a' b' c':Ex}{pos pos':Pos}{ι:Io}{H:Hp}{σ:St}{ρ:En}{M M1 M2:dz}{x y:Dv}{es:Ya}{es':Ez}{tg iter elt:Expr}
def PI.weak(h:PI X tg iter Z)(w:∀σ H R,wi' σ H R->Z σ H R):PI X tg iter wi':=λY s σ H R I q=>h Y s σ H R I (w σ H R q)
def PI.of(h:PI X tg iter wi)(w:∀σ H U ι ρ M s M',m9 nm X.K ι H M->yd X.K ι H ρ σ->it.den W ρ M=.ok s M'->(∀Z H' J,Le ι H Z H'->m9 nm X.K Z H' M'->aqq nm X.K Z H' s J->U J H')->wi σ H U):PI X tg iter (tI nm W X.K it):=
 PI.weak h fun σ H U z_=>by obtain⟨ι,ρ,M,s,M',S,R,e,q⟩:=z_;exact w σ H U ι ρ M s M' S R e q
def a4m(N:PE X l tl):PI X tg l (fun σ H R=>tl σ H λx Z=>∃a,x=.ref a/\((∃U,J2 X.K Z a U)/\R (Itl X.K a) Z\/(∃U,Gd X.K Z a U)/\R (Itt X.K a) Z)):=by
 intro T s σ H R I h;refine Qu (N T s σ H _ I h) λv Y x Z I1 B L=>?_
 obtain⟨a,e,⟨⟨U,J⟩,q⟩|⟨⟨U,J⟩,q⟩⟩:=L
 .subst e
  cases B;obtain⟨O,E,p,C⟩:=I1.list J;refine wpAny_pyIter_list p.isList ?_;refine⟨Y.heap.objs.size,[Y.heap.objs.size],_,_,Z,rfl,I1.kept (t':=Y.toks) λb o e=>au _ e,alh a _,⟨_,cu _ rfl,rfl,rfl⟩,λb G=>?_,q⟩;have e:b=Y.heap.objs.size:=by simpa using G
  subst e;exact I1.apr (bz _) (I1.Bq.fresh (bz _))
 .subst e
  cases B;obtain⟨O,E,p,C⟩:=I1.tuple J;refine wpAny_pyIter_tuple (show Y.heap.IsTuple a O.toArray from p) ?_;refine⟨Y.heap.objs.size,[Y.heap.objs.size],_,_,Z,rfl,I1.kept (t':=Y.toks) λb o e=>au _ e,ahe a _,⟨_,cu _ rfl,rfl,rfl⟩,λb G=>?_,q⟩;have e:b=Y.heap.objs.size:=by simpa using G
  subst e;exact I1.apr (bz _) (I1.Bq.fresh (bz _))
def aa0{p:Addr}{ds:List Dv}{s:Src}(B:∀Z H1 M1,LeX ι H Z H1->m9 nm X.K Z H1 M1->(∀i d,s.item i M1=some d->∃U v,H1 p=some (.lst U)/\U[i]?=some v/\Rep X.K Z H1 d v)/\(s.fin M1=true->∃U,H1 p=some (.lst U)/\U.length<=s.len)) :
 aqq nm X.K ι H s (Itl X.K p):=λZ H1 M1 le G=>by
 obtain⟨a,b⟩:=B Z H1 M1 le G;refine⟨λi d N C=>?_,λJ=>?_⟩
 .obtain⟨U,v,T,Y,O⟩:=a i d C
  refine⟨⟨U,v,J2.of T,Y⟩,λu L ⟨e,y⟩=>?_⟩;subst e;have:=y U (J2.of T);rw[Y]at this;cases this;exact⟨Le.refl _ _,G,O⟩
 .obtain⟨U,T,Y⟩:=b J
  exact⟨U,J2.of T,Y⟩
set_option tactic.hygienic true in
def bbk(ha:PE X a (tE nm W X.K a')):PI X tg a (tI nm W X.K (.val a')):=
 PI.of (a4m ha) fun σ H R' ι ρ M s M' S R e q=>by
  rw[MW.J9]at e;obtain⟨x,M1,e1,e⟩:=gw e;obtain⟨e,rfl⟩:=yz e;refine one S R e1 λE Y v le I R1 r=>?_
  cases r with
  |@tup p T N h1 r1 =>
   simp only[MW.srcOf]at e;cases e;refine⟨p,rfl,.inr ⟨⟨N,Gd.of h1⟩,q E Y _ le I λF U M2 O V=>⟨λi d hi B=>?_,λ_=>⟨N,Gd.of (O.tup _ _ h1),by rw[<-r1.length];exact bz _⟩⟩⟩⟩;have B:T[i]?=some d:=B;obtain⟨v,P,A⟩:=(r1.Mj O).get B;refine⟨⟨N,v,Gd.of (O.tup _ _ h1),P⟩,λu H3 ⟨ee,yy⟩=>?_⟩;subst ee;have:=yy N (Gd.of (O.tup _ _ h1));rw[P]at this;cases this;exact⟨Le.refl _ _,V,A⟩
  |@vl p T N h1 n1 r1 =>
   simp only[MW.srcOf]at e;cases e;refine⟨p,rfl,.inl ⟨⟨N,J2.of h1⟩,q E Y _ le I (aa0 (ds:=T) λF U M2 O V=>⟨λi d B=>?_,λ_=>⟨N,O.lst _ _ n1.1 h1,by rw[<-r1.length];exact bz _⟩⟩)⟩⟩;have B:T[i]?=some d:=B;obtain⟨v,P,A⟩:=(r1.Mj O).get B;exact⟨N,v,O.lst _ _ n1.1 h1,P,A⟩
  |@ref n p h1 =>
   simp only[MW.srcOf]at e;obtain⟨T,Z,rfl⟩:∃T,M'[n]?=some (.lst T)/\s=.live n T.length:=by
    split at e
    .rename_i T Z;cases e;exact⟨T,Z,rfl⟩
    .cases e
   obtain⟨N,P,A⟩:=I.obj n _ p Z h1;refine⟨p,rfl,.inl ⟨⟨N,J2.of P⟩,q E Y _ le I (aa0 (ds:=T) λF U M2 O V=>⟨λi d B=>?_,λD=>?_⟩)⟩⟩
   .simp only[Src.item]at B
    split at B
    .rename_i Q J
     split at B
     .obtain⟨L,G,k2⟩:=V.obj n _ p J (O.get h1)
      obtain⟨v,k3,C⟩:=k2.get B;exact⟨L,v,G,k3,C⟩
     .cases B
    .cases B
   .simp only[Src.fin]at D
    split at D
    .rename_i Q J
     obtain⟨L,G,k2⟩:=V.obj n _ p J (O.get h1);refine⟨L,G,?_⟩;rw[<-k2.length];have:Q.length=T.length:=by simpa using D
     rw[this];exact bz _
    .cases D
  |_=>simp[MW.srcOf]at e
def bbl(C:Gl X "range")(B:X.mg "range"= none)(F:PE X a (tE nm W X.K a'))(G:noStar a=true):PI X tg (.Call (.Name "range" pr) [a] [] pos) (tI nm W X.K (.U4 a')):=
 PI.of (ali C B (Qi F Wi (ph G _ _)) (ph G _ _)) fun σ H R' ι ρ M s M' S R e q=>by
  rw[MW.Qo]at e;obtain⟨x,M1,N,e⟩:=gw e;refine Z3 (es':=.cons a' .nil) (ds:=[x]) (M1:=M1) S R (by rw[MW.Ik,N];simp) λT O vs le L U r=>?_
  obtain⟨i,E⟩:∃i,x=.int i:=by cases x<;>first|exact⟨_,rfl⟩|cases e
  subst E;have e:(if i.natAbs<=100000 then Res.ok (Src.con ((List.range i.toNat).map λ(k:Nat)=>MW.D.int (k:Int))) M1 else .bad)=.ok s M':=e;split at e<;>cases e;rename_i Z;cases r with
  |cons P Q =>
   cases P;cases Q;refine⟨i,rfl,by lia,by omega,q T O _ le L λI H2 M2 Bc V=>⟨λj d A Y=>?_,λ_=>?_⟩⟩
   .have J:j<i.toNat:=by simpa[Src.len]using A
    have Y:((List.range i.toNat).map λ(k:Nat)=>MW.D.int (k:Int))[j]?=some d:=Y;rw[ig,wy J]at Y;have Y:MW.D.int (j:Int)=d:=by simpa using Y
    subst Y;refine⟨J,λu H3 ⟨ee,yy⟩=>?_⟩;subst ee yy;exact⟨Le.refl _ _,V,by rw[Int.zero_add];exact .int _⟩
   .show i.toNat<=_
    simp[Src.len]
def al2(R:yd K ι H ρ σ):yd K ι H (ρ++List.replicate k none) (σ++List.replicate k none):=R.append (yd.az8 k (by simp))
def aqr{Y:St}(J:σ.length=n)(G:∀i∈Df t,n<=i)(h:∀j,j∉Df t->Y[j]?=(σ++List.replicate k none)[j]?):∀(j:Nat) v,(σ++List.replicate k none)[j]?=some (some v)->Y[j]?=some (some v):=λj v e=>by
 by_cases T:j∈Df t
 .have:=G j T
  rw[ji (a_ (f_ J) this),List.getElem?_replicate]at e;split at e<;>simp at e
 .rw[h j T];exact e
noncomputable def a0d(o:Option Dv):List Dv:=match o with|some x=>[x]|none=>[]
set_option tactic.hygienic true in
def afb(h:MW.Eg fin item body (k+1) i M=.ok ds Z) :
 ∃d o M1 rest,item i M=some d/\body d M=.ok o M1/\MW.Eg fin item body k (i+1) M1=.ok rest Z/\ds=a0d o++rest:=by
 simp only[MW.Eg]at h;split at h
 .cases h
 .rename_i d B
  obtain⟨o,M1,T,h⟩:=gw h;obtain⟨rest,M2,O,h⟩:=gw h;cases h;exact⟨d,o,M1,rest,B,T,O,by cases o<;>rfl⟩
def qy.snoc(r:qy K ι H ds Z)(h:Rep K ι H d v):qy K ι H (ds++[d]) (Z++[v]):=r.append (.cons h .nil)
def W9(e:MW.Az s body M1=.ok ds M2):s.len<=100000/\MW.Eg s.fin s.item body s.len 0 M1=.ok ds M2:=by
 unfold MW.Az at e;split at e
 .rename_i Y
  exact⟨Y,e⟩
 .cases e
def keptAs(v:Bool)(Y:List Dv)(M:dz):Res Dv:=if v=true then .ok (.vl Y) M else MW.new (.lst Y) M
def al3(h:(Ex.comp v k t it e').den W ρ M=.ok d M'):∃s M1 Z M2,it.den W ρ M=.ok s M1/\s.len<=100000 /\
 MW.Eg s.fin s.item (λd M=>match t.put d (ρ++List.replicate k none)with|some U=>(e'.den W U M).bind λx M'=>.ok (some x) M'|none=>.bad) s.len 0 M1=.ok Z M2/\keptAs v Z M2=.ok d M':=by
 rw[MW.Oz]at h;obtain⟨s,M1,T,h⟩:=gw h;obtain⟨Z,M2,Y,h⟩:=gw h;exact⟨s,M1,Z,M2,T,(W9 Y).1,(W9 Y).2,h⟩
def Io.adopt(ι:Io)(H:Hp)(D:Addr):Tr K (ι.hide D) H (ι.add D) H:=⟨λ_ _ e=>e,λ_ _ e n=>⟨e,λm=>(dw.mp m).elim n.1 λz=>n.2 (by rw[ie.mp z];exact fc),λm=>n.2 (bw _ m)⟩,λ_ _ e=>e,λn a e=>by
 have e:ι.l[n]?=some a:=e;show(ι.l++[D])[n]?=_;rw[gn (ao.mp e).1];exact e,λ_ _=>rfl⟩
theorem Rep.adopt(r:Rep K (ι.hide D) H d v):Rep K (ι.add D) H d v:=r.tr (ι.adopt H D)
theorem qy.adopt(r:qy K (ι.hide D) H d v):qy K (ι.add D) H d v:=r.tr (ι.adopt H D)
theorem m9.adopt(S:m9 nm K (ι.hide D) H M)(O:H D=some (.lst Z))(r:qy K (ι.hide D) H ds Z)(T:ι.off D):m9 nm K (ι.add D) H (M++[.lst ds]):=by
 refine⟨by have:=S.len;simp only[Io.hide]at this;simp[Io.add,this],?_,λa Y=>?_,λn o a B Y=>?_⟩
 .exact Aa.mpr ⟨S.nd,by simp,by
   intro x G y N;have:y=D:=by simpa using N
   subst this;intro e;subst e;exact T.1 G⟩
 .obtain⟨C,Z,J⟩:=S.del a (bw _ Y)
  exact⟨λm=>(dw.mp m).elim C λz=>T.2 (by rw[<-ie.mp z];exact Y),Z,J⟩
 .rcases Du B with q|⟨q,rfl⟩
  .rcases Du Y with z|⟨z,_⟩
   .exact(S.obj n o a q z).tr (ι.adopt H D) rfl
   .exact absurd (MW.xm q) (by rw[z,<-S.len];exact uc _)
  .rcases Du Y with z|⟨_,rfl⟩
   .exact absurd (ao.mp z).1 (by rw[q,<-S.len];exact uc _)
   .exact⟨Z,O,r.adopt⟩
def aqs(S:m9 nm K (ι.hide D) H M)(G:H D=some (.lst vs))(r:qy K (ι.hide D) H ds vs)(T:ι.off D)(le:Le U H0 ι H)(O:H0 D=none)(h:keptAs v ds M=.ok d M') :
 ∃Z,Le U H0 Z H/\m9 nm K Z H M'/\Rep K Z H d (.ref D):=by
 unfold keptAs at h;split at h
 .cases h
  exact⟨ι,le,S.show,.vl G T r.show⟩
 .cases h
  refine⟨ι.add D,⟨?_,le.del,le.tup,le.Qt,le.lst,le.dom,le.sy⟩,S.adopt G r T,.ref ?_⟩
  .obtain⟨Y,e,B⟩:=le.ext
   exact⟨Y++[D],by show ι.l++[D]=_;rw[e,wj],λa J=>(dw.mp J).elim (B a) λz=>by rw[ie.mp z];exact O⟩
  .show(ι.l++[D])[M.length]?=some D
   rw[<-S.len];simp[Io.hide]
def BodyOk(nm:Nm)(K:Fg)(T:St)(L:TT)(C:TE)(J:En)(M:dz)(o:Option Dv)(O:dz):Prop:=∀ι H (G1:V->Hp->Prop) (G0:Hp->Prop),m9 nm K ι H M->yd K ι H J T ->
 (∀Y G v,Le ι H Y G->m9 nm K Y G O->(match o with|some x=>Rep K Y G x v->G1 v G|none=>G0 G))->L T H λb B=>if b=true then C T B λv N=>G1 v N else G0 B
def aa1{N:Yf}(hk:N.length-X.N.length=k)(ho:∀i∈Df t,X.N.length<=i)(q8:σ.length=X.N.length)(S:m9 nm X.K ι H M)(R:yd X.K ι H ρ σ)(e1:it.den W ρ M=.ok s M1)(q0:s.len<=100000)(e2:MW.Eg s.fin s.item body s.len 0 M1=.ok ds M')(ek:keptAs v0 ds M'=.ok d0 M0)(q:∀U H' v,Le ι H U H'->m9 nm X.K U H' M0->Rep X.K U H' d0 v->Q v H')(hb:∀d M2 o M3,body d M2=.ok o M3->∃Z,t.put d (ρ++List.replicate k none)=some Z/\∀qq,BodyOk nm X.K qq tc te Z M2 o M3):ae7 (N.length-X.N.length) (tI nm W X.K it) (tGt nm X.K t) tc te σ H Q:=by
 refine⟨ι,ρ,M,s,M1,S,R,e1,λL H1 J W8 S1 sj D A=>?_⟩;rw[hk];refine⟨λi m H2=>m=s.len-i/\i<=s.len/\∃Y M2 G vs C,LeD D L H1 (Io.hide Y D) H2/\m9 nm X.K (Io.hide Y D) H2 M2/\H2 D=some (.lst vs)/\qy X.K (Io.hide Y D) H2 G vs/\G.length<=i /\
  MW.Eg s.fin s.item body m i M2=.ok C M'/\ds=G++C,?_,?_⟩
 .exact⟨s.len,rfl,jd _,L,M1,[],[],ds,LeD.start A _,S1.hide A,yg,.nil,bz _,e2,rfl⟩
 .rintro i m H2 ⟨hm,q6,Y,M2,G,vs,C,Bc,S2,qv,I,Gi,e3,V⟩
  have qk:Le L H1 Y H2:=LeD.done Bc;have q5:Y.δ=L.δ:=qk.del;have zu:Y.off D:=⟨(S2.del D fc).1,λz=>by rw[q5]at z;exact(S1.fresh A).2 z⟩;obtain⟨go,q1⟩:=sj (Io.hide Y D) H2 M2 (Bc.toX A) S2;cases m with
  |zero =>
   simp only[MW.Eg]at e3;split at e3<;>cases e3;rename_i Sx;refine hG λ_ _k=>?_
   have hi:i=s.len:=by lia
   subst hi;rw[Be]at V;subst V;obtain⟨zq,q7,S9,r9⟩:=aqs S2 qv I zu qk A ek;apply _k;exact .inl ⟨q1 Sx,q zq H2 _ (W8.trans q7) S9 r9⟩
  |succ m =>
   refine hG λ_ _k=>?_
   obtain⟨d,o,M3,O,h1,h2,h3,h4⟩:=afb e3;obtain⟨g1,g2⟩:=go i d (by lia) h1;apply _k;refine .inr ⟨g1,λv H3 yv=>?_⟩;refine hG λ_ _k=>?_
   obtain⟨E,S3,r3⟩:=g2 v H3 yv;obtain⟨Z,q3,q4⟩:=hb d M2 o M3 h2;have R3:yd X.K (Io.hide Y D) H3 ρ σ:=((R.mono W8).Mj (Bc.toX A)).mono E;apply _k;refine⟨Io.hide Y D,ρ++List.replicate k none,M2,d,Z,S3,al2 R3,r3,q3,λqq R5 l5 k5=>⟨l5,aqr q8 ho k5,?_⟩⟩;have zz:=E.lst D vs (S2.del D fc).1 qv;refine q4 qq (Io.hide Y D) H3 _ _ S3 R5 (λT H6 u P S6=>by
    have B:=P.lst D vs (S2.del D fc).1 zz;have F:LeD D L H1 T H6:=(Bc.go E).go P;have ei:T=Io.hide ⟨T.l,Y.δ,T.s⟩ D:=by have:=P.del;obtain⟨l6,zk,_⟩:=T;simp only[Io.hide]at this⊢;rw[this]
    rw[ei]at F S6;have q2:qy X.K (Io.hide ⟨T.l,Y.δ,T.s⟩ D) H6 G vs:=by rw[<-ei];exact(I.mono E).mono P
    cases o with
    |none =>
     refine⟨m,j4 _,by lia,by lia,⟨T.l,Y.δ,T.s⟩,M3,G,vs,O,F,S6,B,q2,a_ Gi x_,h3,?_⟩;rw[V,h4];rfl
    |some x =>
     intro r6;rw[ei]at r6;have J0:D∈(Io.hide ⟨T.l,Y.δ,T.s⟩ D).δ:=fc;refine⟨vs,m,B,?_,j4 _,by lia,by lia,⟨T.l,Y.δ,T.s⟩,M3,G++[x],vs++[u],O,F.grow A B,S6.grow B J0,yg,(q2.snoc r6).tr (ajh B J0),by simp;exact Gi,h3,?_⟩
     .rw[<-I.length]
      exact Cq (gf Gi (gf q6 q0)) (by decide)
     .rw[V,h4];simp[a0d])
set_option tactic.hygienic true in
def aa2{N:Yf}(A:N.length-X.N.length=k)(ho:∀i∈Df t,X.N.length<=i):∀σ H Q,σ.length=X.N.length->tE nm W X.K (.comp v0 k t it G) σ H Q ->
 ae7 (N.length-X.N.length) (tI nm W X.K it) (tGt nm X.K t) (λ_ H Q=>Q true H) (tE nm W X.K G) σ H Q:=fun σ H Q E U=>by
 obtain⟨ι,ρ,M,d,M',S,R,e,q⟩:=U;obtain⟨s,M1,ds,M2,D,B,e2,J⟩:=al3 e;refine aa1 A ho E S R D B e2 J q λd M2 o M3 T=>?_
 split at T
 .rename_i P O
  obtain⟨x,M4,e5,T⟩:=gw T;cases T;refine⟨P,O,λqq C H5 G1 G0 F Z g=>?_⟩;show if true=true then _ else _
  rw[dj rfl];exact one (X:=X) F Z e5 λV Y u L I R6 r6=>g V Y u L I r6
 .cases T
def afc(h:(Ex.Ef v k t it c' e').den W ρ M=.ok d M'):∃s M1 U M2,it.den W ρ M=.ok s M1/\s.len<=100000 /\
 MW.Eg s.fin s.item (λd M=>match t.put d (ρ++List.replicate k none)with|some Z=>(c'.den W Z M).bind λb M'=>(match b with|.bl true=>(e'.den W Z M').bind λx qq=>.ok (some x) qq|.bl false=>.ok none M'|_=>.bad)|none=>.bad) s.len 0 M1=.ok U M2/\keptAs v U M2=.ok d M':=by
 rw[MW.Xv]at h;obtain⟨s,M1,T,h⟩:=gw h;obtain⟨U,M2,Y,h⟩:=gw h;exact⟨s,M1,U,M2,T,(W9 Y).1,(W9 Y).2,h⟩
set_option tactic.hygienic true in
def Wk{N:Yf}(C:N.length-X.N.length=k)(ho:∀i∈Df t,X.N.length<=i):∀σ H Q,σ.length=X.N.length->tE nm W X.K (.Ef v0 k t it c' e') σ H Q ->
 ae7 (N.length-X.N.length) (tI nm W X.K it) (tGt nm X.K t) (tQ nm W X.K c') (tE nm W X.K e') σ H Q:=fun σ H Q P hh=>by
 obtain⟨ι,ρ,M,d,M',S,R,e,q⟩:=hh;obtain⟨s,M1,ds,M2,e1,O,e2,ek⟩:=afc e;refine aa1 C ho P S R e1 O e2 ek q λd M2 o M3 T=>?_
 split at T
 .rename_i F E
  obtain⟨x,M4,J,T⟩:=gw T;refine⟨F,E,λqk qq H5 G1 G0 D Z g=>?_⟩;split at T
  .obtain⟨y,M6,e6,T⟩:=gw T
   cases T;refine Z0 (X:=X) D Z J λL Y B V G=>?_
   rw[dj rfl];exact one (X:=X) V G e6 λI H7 u A U R7 r7=>g I H7 u (B.trans A) U r7
  .cases T
   refine Z0 (X:=X) D Z J λL Y B V G=>?_
   rw[cj (by simp)];exact g L Y .non B V
  .cases T
 .cases T
def PE.afd(h:PE X e t)(w:∀σ H Q,σ.length=X.N.length->t' σ H Q->t σ H Q):PE X e t':=λY s σ H Q I q=>h Y s σ H Q I (w σ H Q I.len q)
def PS.afd(h:PS X st t)(w:∀D σ H,σ.length=X.N.length->t' D σ H->t D σ H):PS X st t':=λY s σ H D I q=>h Y s σ H D I (w D σ H I.len q)
def a4p(B:Hz X N scope)(O:X.calm=true)(T:PI X tg iter (tI nm W X.K it))(L:∀C Z s H,PG (Ov X N scope C Z s H) tg (tGt nm X.K t))(J:∀C Z s H,PE (Ov X N scope C Z s H) elt (tE nm W X.K U))(Y:Hw iter=true)(E:N.length-X.N.length=k)(G:∀i∈Df t,X.N.length<=i):PE X (.ListComp elt [⟨tg,iter,[],0⟩] scope pos) (tE nm W X.K (.comp v0 k t it U)):=
 PE.afd (ajf B O T L (λ_ _ _ _=>.inl ⟨rfl,rfl⟩) J (Fv Y X.env)) (aa2 E G)
def aqt(B:Hz X N scope)(O:X.calm=true)(T:PI X tg iter (tI nm W X.K it))(L:∀C Z s H,PG (Ov X N scope C Z s H) tg (tGt nm X.K t))(P:∀C Z s H,PT (Ov X N scope C Z s H) c (tQ nm W X.K c'))(J:∀C Z s H,PE (Ov X N scope C Z s H) elt (tE nm W X.K U))(Y:Hw iter=true)(E:N.length-X.N.length=k)(G:∀i∈Df t,X.N.length<=i):PE X (.ListComp elt [⟨tg,iter,[c],0⟩] scope pos) (tE nm W X.K (.Ef v0 k t it c' U)):=
 PE.afd (ajf B O T L (λ_ _ _ _=>.inr ⟨c,rfl,P _ _ _ _⟩) J (Fv Y X.env)) (Wk E G)
def afe(h:∀σ H Q,σ.length=X.N.length->tE nm W X.K Z σ H Q->tt σ H Q):∀D σ H,σ.length=X.N.length->tS nm W X.K (.asg (.tg (.name i)) Z) D σ H->a2y tt (ai6 i) D σ H:=λD σ H Y F=>by obtain⟨ι,ρ,M,I,L,A,S,R,e,q⟩:=F;rw[MW.abo]at e;obtain⟨x,M1,O,e⟩:=gw e;obtain⟨J,M2,G,e⟩:=gw e;cases e;rw[MW.aoo]at G;obtain⟨P,C⟩:=yz G;subst C;cases P;exact h σ H _ Y (one S R O λT V v le B E r=>q T V _ le B (E.set r i))
def al4{y:Str}(B:Hz X N scope)(E:X.calm=true)(J:PI X tg iter (tI nm W X.K it))(R:∀C Z s H,PG (Ov X N scope C Z s H) tg (tGt nm X.K t))(L:∀C Z s H,PE (Ov X N scope C Z s H) elt (tE nm W X.K U))(T:Hw iter=true)(S:N.length-X.N.length=k)(O:∀i∈Df t,X.N.length<=i)(G:X.N.Nodup)(Q:X.N[i]?=some y)(P:X.env.scope.names.lookup y=some .local)(Y:swapsWith (.ListComp elt [⟨tg,iter,[],0⟩] scope pos) (some (.Name y py)) aqm.line X.env=pure true):PS X (.Assign [.Name y py] (.ListComp elt [⟨tg,iter,[],0⟩] scope pos) aqm) (tS nm W X.K (.asg (.tg (.name i)) (.comp v0 k t it U))):=
 PS.afd (ajg B E J R (λ_ _ _ _=>.inl ⟨rfl,rfl⟩) L (Fv T X.env) G Q P Y) (afe (aa2 S O))
def afg{y:Str}(B:Hz X N scope)(E:X.calm=true)(J:PI X tg iter (tI nm W X.K it))(R:∀C Z s H,PG (Ov X N scope C Z s H) tg (tGt nm X.K t))(V:∀C Z s H,PT (Ov X N scope C Z s H) c (tQ nm W X.K c'))(L:∀C Z s H,PE (Ov X N scope C Z s H) elt (tE nm W X.K U))(T:Hw iter=true)(S:N.length-X.N.length=k)(O:∀i∈Df t,X.N.length<=i)(G:X.N.Nodup)(Q:X.N[i]?=some y)(P:X.env.scope.names.lookup y=some .local)(Y:swapsWith (.ListComp elt [⟨tg,iter,[c],0⟩] scope pos) (some (.Name y py)) aqm.line X.env=pure true):PS X (.Assign [.Name y py] (.ListComp elt [⟨tg,iter,[c],0⟩] scope pos) aqm) (tS nm W X.K (.asg (.tg (.name i)) (.Ef v0 k t it c' U))):=
 PS.afd (ajg B E J R (λ_ _ _ _=>.inr ⟨c,rfl,V _ _ _ _⟩) L (Fv T X.env) G Q P Y) (afe (Wk S O))
end
def spF(O:Nm)(W:Jy)(K:Fg)(n f:Nat):Sp:=λC H Q _=>∃J M G d B,m9 O K J H M/\qy K J H G C/\G.length=n/\W.call f G M=.ok d B/\∀Y T v,Le J H Y T->m9 O K Y T B->Rep K Y T d v->Q v T
def s_call(F:Hs X.prog X.w X.K X.mg X.base CX0 k fa fd ps (spF nm W X.K n f))(y:Bj k X.A)(I:Gl X x)(N:X.mg x=some (.ref fa))(V:PySem.W.keepIn X.K (.ref fa)=true)(C:Binds X.K fd ps [])(Y:Ez.len Z=n)(u:PA X (a::U) (Zm nm W X.K Z))(l:(x==("__debug__": Str))=false)(L:starEach (a::U) X.env=(false,eval a X.env)::starEach U X.env)(z:(backTo pos (starEach U X.env)).any (·.1)=false) :
 PE X (.Call (.Name x p) (a::U) [] pos) (tE nm W X.K (.call f Z)):=
 PE.of (awg (E:=E0) F y I N V C .nil aqj u l L z) fun σ H Q i s M d g S R e q=>by
  rw[MW.T3]at e;obtain⟨P,c,B,e⟩:=gw e;refine Z3 S R B λJ o b le D m r=>?_
  rw[Be];exact⟨J,c,P,d,g,D,r,(Jv B).trans Y,e,λT t v G j O=>q T t v (le.trans G) j O⟩
def a4q(V:Mk X.K C fa)(F:Hs X.prog X.w X.K X.mg X.base CX0 k fa fd ps (spF nm W X.K (n+1) f))(hr:Bj (k+1) X.A)(hg:Gl X x)(hm:X.mg x=some (.ref C))(hb:Binds X.K fd ps [])(D:W.cls[U]?=some cl)(Zr:cl.init=f)(L:nm.cls U=some C)(G:Ez.len Z=n)(ha:PA X (a::es) (Zm nm W X.K Z))(Tn:(x==("__debug__": Str))=false)(he:starEach (a::es) X.env=(false,eval a X.env)::starEach es X.env)(J6:(backTo pos (starEach es X.env)).any (·.1)=false) :
 PE X (.Call (.Name x p) (a::es) [] pos) (tE nm W X.K (.make U Z)):=
 PE.of (awh (E:=E0) V F hr hg hm hb .nil aqj ha Tn he J6) fun σ H Q ι ρ M d M' S R e q=>by
  rw[MW.ad6]at e;obtain⟨ds,Y,e1,e⟩:=gw e;rw[D]at e;have e:((W.call cl.init (.ref Y.length::ds) (Y++[.ins U []])).bind λr P=>match r with|.non=>.ok (.ref Y.length) P|_=>.bad)=.ok d M':=e;obtain⟨r0,P,e2,e⟩:=gw e;refine Z3 S R e1 λT N vs le S1 R1 r=>λp B hp O Wx=>?_
  rw[Be];have keep:∀a u,N a=some u->upd (upd N B (.own p)) p (.ins C B []) a=some u:=λa u e=>by rw[o7 (o8 e hp),o7 (o8 e O)];exact e
  obtain⟨S2,Bc⟩:=S1.new (o:=.ins U []) hp keep λ_=>⟨C,B,[],L,yg,.nil⟩
  have rp:Rep X.K (T.add p) (upd (upd N B (.own p)) p (.ins C B [])) (.ref Y.length) (.ref p):=.ref (by show(T.l++[p])[Y.length]?=some p;rw[<-S1.len];simp);refine⟨T.add p,Y++[.ins U []],.ref Y.length::ds,r0,P,S2,.cons rp (r.mono Bc),by rw[iw,Jv e1,G],by rw[<-Zr];exact e2,λI H' v J S' r'=>?_⟩;cases r'<;>try cases e
  exact⟨rfl,q I H' _ (le.trans (Bc.trans J)) S' (rp.mono J)⟩
def aqu{Y:Nm}{G:Io}{H:Hp}{m:Str}{K:Fg}(T:∀i,Y.fld i≠m){fs:List (Nat×Dv)}{l:List (Str×V)}(h:xf K G H (λk Z=>Z=Y.fld k) fs l):l.lookup m=none:=by
 induction h with
 |nil=>rfl
 |@cons q _ _ _ _ _ hk h t ih =>
  subst hk;rw[qu];have z:(m==Y.fld q)=false:=by
   cases z:m==Y.fld q with
   |false=>rfl|true=>exact absurd (eq_of_beq z).symm (T q)
  rw[z];exact ih
def a4r:PE X (.Dict [] [] pos) (tE nm W X.K .agy):=PE.of aqb λC H Q J O M d B S R e q=>by
 rw[MW.aoi]at e;cases e;intro p Y;obtain⟨T,G⟩:=S.new (o:=.dT []) (H':=upd H p (.dT [])) Y (λa u e=>by rw[o7 (o8 e Y)];exact e) λ_=>⟨[],yg,.nil⟩
 exact q _ _ _ G T (.ref (by show(J.l++[p])[M.length]?=some p;rw[<-S.len];simp))
def a4s:PE X (.Dict [] [] pos) (tE nm W X.K .agz):=PE.of aqa λC H Q J O M d B S R e q=>by
 rw[MW.aoj]at e;cases e;intro p Y;obtain⟨T,G⟩:=S.new (o:=.dK []) (H':=upd H p (.dK [])) Y (λa u e=>by rw[o7 (o8 e Y)];exact e) λ_=>⟨[],yg,.nil⟩
 exact q _ _ _ G T (.ref (by show(J.l++[p])[M.length]?=some p;rw[<-S.len];simp))
def bgz(J:Nm)(K:Fg):a2u:=λo i v H Q=>∃Y M x y d G,m9 J K Y H M/\Rep K Y H x o/\Rep K Y H y i/\Rep K Y H d v/\MW.setOp x y d M=some G/\∀T,Le Y H Y T->m9 J K Y T G->Q T
def Yr(h:n<100000):n<sizeLine:=iz h Ym
set_option tactic.hygienic true in
def aw3(hu:X.A.units+1<cLine):a2v X (bgz nm X.K):=by
 intro L s σ H o i v ov iv u Q I G W Y hh;obtain⟨ι,M,x,y,d,M',S,rx,U,F,e,q⟩:=hh;obtain⟨j,hx⟩:∃j,x=.ref j:=by cases x<;>first|exact⟨_,rfl⟩|cases e
 subst hx;obtain⟨p,rfl,O⟩:∃p,o=.ref p/\ι.l[j]?=some p:=by cases rx with|ref z=>exact⟨_,rfl,z⟩
 simp only[MW.setOp]at e;split at e
 .rename_i xs T
  split at e
  .rename_i k
   obtain⟨V,N,e2⟩:=dg.mp e;subst e2;cases U;obtain⟨C,P,B⟩:=S.obj j _ p T O;refine set_list L s σ H _ _ v ov iv u Q I G W Y ⟨p,C,k,V,rfl,rfl,P,by rw[<-B.length];exact N,?_⟩;obtain⟨E,R⟩:=S.put (u:=.lst (C.set V v)) (o:=.lst (xs.set V d)) T O λle=>⟨_,yg,(B.mono le).set (F.mono le) V⟩
   exact q _ R E
  .cases e
 .rename_i Z T
  obtain⟨k,N,e⟩:=ik.mp e;split at e<;>cases e;rename_i J;obtain⟨l,P,B⟩:=S.obj j _ p T O;obtain⟨b,rfl,hb⟩:=Yp U N;cases G;refine aat (H':=upd H p (.dT (putK l k v))) (y:=.ref b) (v:=v) hu I (ahp.t P hb (by rw[<-B.length];exact Yr J)) W Y λs' D=>⟨_,D,?_⟩
  obtain⟨E,R⟩:=S.put (u:=.dT (putK l k v)) (o:=.dT (MW.Dz Z k d)) T O λle=>⟨_,yg,(B.mono le).put (F.mono le)⟩
  exact q _ R E
 .rename_i Z T
  obtain⟨k,N,e⟩:=ik.mp e;split at e<;>cases e;rename_i J;obtain⟨l,P,B⟩:=S.obj j _ p T O;have hy:=acp U N;subst hy;cases G;refine aat (H':=upd H p (.dK (putK l k v))) (y:=kV k) (v:=v) hu I (ahp.k P (by rw[<-B.length];exact Yr J)) W Y λs' D=>⟨_,D,?_⟩
  obtain⟨E,R⟩:=S.put (u:=.dK (putK l k v)) (o:=.dK (MW.Dz Z k d)) T O λle=>⟨_,yg,(B.mono le).put (F.mono le)⟩
  exact q _ R E
 .cases e
def Ys(h:Vk e=true)(t:Expr)(l:Nat)(Y:Env):swapsWithSole [t] e l Y=pure false:=by unfold swapsWithSole;exact Qj h _ _ _
def aqv(e o b:Expr)(p:Pos)(l:Nat)(Y:Env):swapsWithSole [.Subscript o b p] e l Y=pure false:=by cases e<;>rfl
def aqw(hu:X.A.units+1<cLine)(N:PE X a (tE nm W X.K a'))(ho:PE X o (tE nm W X.K o'))(O:PE X b (tE nm W X.K b'))(ha:∀v,assign (.Subscript o b pos') X.env v=(do
 let Z<-holding [v] (eval o X.env)
 let U<-holding [v,Z] (eval b X.env)
 standAt pos'
 holding [v,Z,U] (setItem Z U v)
 release [v,Z,U] [])):PS X (.Assign [.Subscript o b pos'] a pos) (tS nm W X.K (.asg (.sub o' b') a')):=
 PS.of (apo N (a2x ho O (aw3 (nm:=nm) hu) ha) (aqv _ _ _ _ _ _) (by rfl) (by rfl)) λD σ H ι ρ M fl qv M' S R e q=>by
  rw[MW.abo]at e;obtain⟨x,M1,V,e⟩:=gw e;obtain⟨qk,M2,T,e⟩:=gw e;cases e;rw[MW.avi]at T;obtain⟨y,M3,e3,T⟩:=gw T;obtain⟨z,M4,e4,T⟩:=gw T;obtain⟨M5,M6,e5,F⟩:=gw T;obtain⟨L,E⟩:=yz e5;subst E;cases F;refine one S R V λq0 H1 v le Q C r=>?_
  refine one Q C e3 λqq H2 v2 B I R2 r2=>one I R2 e4 λG H3 v3 Y S3 R3 P=>?_
  exact⟨G,_,y,z,x,_,S3,r2.mono Y,P,(r.mono B).mono Y,L,λH' J S'=>q G H' σ (((le.trans B).trans Y).trans J) S' (R3.mono J)⟩
set_option tactic.hygienic true in
def aqx(G:n=nm.fld f)(E:∀c C,nm.cls c=some C->Cls X.K C/\K8 X.K C n)(U:PE X a (tE nm W X.K a'))(ho:PE X o (tE nm W X.K o'))(J6:Vk a=true) :
 PS X (.Assign [.Attribute o n pos'] a pos) (tS nm W X.K (.asg (.fld o' f) a')):=
 PS.of (a3l ho U (Qj J6 _ _ _)) λD σ H ι ρ M fl qk M' S R e q=>by
  rw[MW.abo]at e;obtain⟨x,M1,e1,e⟩:=gw e;obtain⟨qq,M2,L,e⟩:=gw e;cases e;rw[MW.avj]at L;obtain⟨y,M3,e3,L⟩:=gw L;obtain⟨M5,M6,e5,e6⟩:=gw L;obtain⟨T,e8⟩:=yz e5;subst e8;cases e6;refine one S R e1 λqv H1 v le S1 J r=>one S1 J e3 λN H2 v2 Z V R2 r2=>?_
  obtain⟨j,hx⟩:∃j,y=.ref j:=by cases y<;>first|exact⟨_,rfl⟩|cases T
  subst hx;obtain⟨p,rfl,I⟩:∃p,v2=.ref p/\N.l[j]?=some p:=by cases r2 with|ref z=>exact⟨_,rfl,z⟩
  simp only[MW.Tz]at T;split at T
  .rename_i c fs Q
   have F:fs.length<1000:=by
    by_cases z:fs.length<1000
    .exact z
    .rw[cj z]at T;cases T
   rw[dj F]at T;cases T;obtain⟨C,P,l,A,h2,Y⟩:=V.obj j _ p Q I;subst G;obtain⟨g1,g2⟩:=E c C A;refine⟨p,C,P,l,rfl,h2,g1,g2,by rw[<-Y.length];exact F,?_⟩;obtain⟨S3,B⟩:=V.put (u:=.ins C P (J5 (nm.fld f) v l)) (o:=.ins c (MW.Vs f x fs)) Q I λO=>⟨C,P,_,A,yg,(Y.mono O).J5 ((r.mono Z).mono O)⟩
   exact q N _ σ ((le.trans Z).trans B) S3 (R2.mono B)
  .cases T
def Dh.weak(h:Dh X f r)(w:∀Z H Q,r' Z H Q->r Z H Q):Dh X f r':=λY s J H Z T Q I G q=>h Y s J H Z T Q I G (w Z H Q q)
def rB(B:Nm)(K:Fg)(b:Blt):List V->Hp->VK->Prop:=λC H Q=>∃G M O d J,m9 B K G H M/\qy K G H O C/\MW.qm b O M=.ok d J/\∀Y T v,Le G H Y T->m9 B K Y T J->Rep K Y T d v->Q v T
def Dh.of(h:Dh X f r)(w:∀vs H Q U M ds d M',m9 nm X.K U H M->qy X.K U H ds vs->MW.qm bb ds M=.ok d M'->(∀Z H' v,Le U H Z H'->m9 nm X.K Z H' M'->Rep X.K Z H' d v->Q v H')->r vs H Q):Dh X f (rB nm X.K bb):=
 Dh.weak h λvs H Q z_=>by obtain⟨U,M,ds,d,M',S,r,e,q⟩:=z_;exact w vs H Q U M ds d M' S r e q
def afh{X:Cx}:∀U H Q,tE nm W X.K (.blt t Z) U H Q->tCB (rB nm X.K t) (Zm nm W X.K Z) U H Q:=λU H Q E=>by obtain⟨D,I,M,d,N,S,R,e,q⟩:=E;rw[MW.W3]at e;obtain⟨B,P,O,e⟩:=gw e;exact Z3 S R O λG A z le C F r=>⟨G,P,B,d,N,C,r,e,λY V v T L J=>q Y V v (le.trans T) L J⟩
def afi{id:String}(N:Dh X (.builtin id) (rB nm X.K t))(C:Gl X x)(T:X.mg x=none)(L:bootBuiltins x=some (.builtin id))(Y:PA X (a::Z) (Zm nm W X.K U))(G:x≠"__name__")(O:(x==("__debug__": Str))=false)(B:starEach (a::Z) X.env=(false,eval a X.env)::starEach Z X.env)(J:(backTo pos (starEach Z X.env)).any (·.1)=false):PE X (.Call (.Name x p) (a::Z) [] pos) (tE nm W X.K (.blt t U)):=PE.weak (ap5 N C T L Y G O B J) afh
def ahu(L:Dh X (.type T) (rB nm X.K t))(N:Gl X x)(G:X.mg x=none)(E:bootBuiltins x=some (.type T))(Y:PA X (a::Z) (Zm nm W X.K U))(J:x≠"__name__")(C:(x==("__debug__": Str))=false)(O:starEach (a::Z) X.env=(false,eval a X.env)::starEach Z X.env)(B:(backTo pos (starEach Z X.env)).any (·.1)=false):PE X (.Call (.Name x p) (a::Z) [] pos) (tE nm W X.K (.blt t U)):=PE.weak (alq L N G E Y J C O B) afh
def Kp(r:qy K Z H ds U)(h:ds=[d]):∃v,U=[v]/\Rep K Z H d v:=by subst h;cases r with|cons h t=>cases t;exact⟨_,rfl,h⟩
def aw4:Dh X (.type "tuple") (rB nm X.K .tuple):=Dh.of Zz λV H Q G M W d M' S r e q=>by
 cases r with
 |nil=>simp[MW.qm]at e
 |@cons x v _ _ h t =>
  cases t with
  |cons R t2=>simp[MW.qm]at e
  |nil =>
   have e:Res.v9 ((MW.Dd M x).map MW.D.tup) M=.ok d M':=e;obtain⟨B,N⟩:=yz e;subst N;obtain⟨F,C,rfl⟩:=dg.mp B;obtain⟨p,T,rfl,Y,J⟩:=Qv S h C;rcases Y with Y|Y
   .refine⟨p,T,rfl,.inl ⟨J2.of Y,λl O=>?_⟩⟩
    obtain⟨E,L,P⟩:=Nj S O J;exact q G _ _ L E P
   .exact⟨p,T,rfl,.inr ⟨Gd.of Y,q G H _ (Le.refl _ _) S (.tup Y J)⟩⟩
def a4t:Dh X (.type "list") (rB nm X.K .list):=Dh.of acj λE H Q R M Y d M' S r e q=>by
 cases r with
 |nil=>simp[MW.qm]at e
 |@cons x v _ _ h t =>
  cases t with
  |cons L t2=>simp[MW.qm]at e
  |nil =>
   have e:(match MW.Dd M x with|some Y=>MW.new (.lst Y) M|none=>.bad)=Res.ok d M':=e;cases e3:MW.Dd M x with
   |none=>rw[e3]at e;cases e
   |some P =>
    rw[e3]at e;cases e;obtain⟨p,G,rfl,T,N⟩:=Qv S h e3;refine⟨p,G,rfl,T.imp J2.of Gd.of,λl J=>?_⟩;obtain⟨C,B,O⟩:=acn S J N;exact q _ _ _ B C O
set_option tactic.hygienic true in
def bbn:Dh X (.builtin "len") (rB nm X.K .len):=Dh.of aci λY H Q E M B d M' S r e q=>by
 cases r with
 |nil=>simp[MW.qm]at e
 |@cons x v _ _ h t =>
  cases t with
  |cons Z t2=>simp[MW.qm]at e
  |nil =>
   have fin:∀L,(MW.Dd M x=some L)->d=.int L.length->M'=M->∃p N,[v]=[V.ref p]/\(J2 X.K H p N\/Gd X.K H p N)/\Q (.int N.length) H:=λL W T A=>by subst T A;obtain⟨p,R,rfl,P,I⟩:=Qv S h W;exact⟨p,R,rfl,P.imp J2.of Gd.of,by rw[<-I.length];exact q E H _ (Le.refl _ _) S (.int _)⟩
   cases h with
   |fz T O =>
    cases e;exact⟨_,_,rfl,.inl T.sq,by rw[<-O.length];exact q E H _ (Le.refl _ _) S (.int _)⟩
   |@ref n p T =>
    have e:(match M[n]? with|some (.lst B)=>Res.ok (MW.D.int B.length) M|_=>.bad)=Res.ok d M':=e;split at e
    .rename_i B F
     cases e;exact fin B (by simp[MW.Dd,MW.gr,F]) rfl rfl
    .cases e
   |tup T O=>cases e;exact fin _ rfl rfl rfl|vl T G O=>cases e;exact fin _ rfl rfl rfl|_=>cases e
open MW
def Fw(f:Dv->Dv->Option Bool)(as bs:List Dv)(j:Nat):Bool:=match as[j]?,bs[j]? with
 |some a,some b=>(f a b).getD false|_,_=>false
set_option tactic.hygienic true in
theorem Ei{f:Dv->Dv->Option Bool}:∀{as bs:List Dv}{r:Bool},MW.Tp f as bs=some r->(∀(j:Nat) a b,as[j]?=some a->bs[j]?=some b->∃c,f a b=some c) /\
 r=((List.range (min as.length bs.length)).all (Fw f as bs)&&as.length==bs.length)
 |[],[],r,h=>by cases h;exact⟨λj a b e=>by simp at e,by simp⟩
 |[],b::bs,r,h=>by cases h;exact⟨λj a b e=>by simp at e,by simp⟩
 |a::as,[],r,h=>by cases h;exact⟨λj a b _ e=>by simp at e,by simp⟩
 |a::as,b::bs,r,h=>by
  simp only[MW.Tp]at h;split at h
  .rename_i x y O N
   cases h;obtain⟨L,R⟩:=Ei N;refine⟨λj E Q T B=>?_,?_⟩
   .cases j with
    |zero=>simp at T B;subst T B;exact⟨x,O⟩|succ j=>exact L j E Q (by simpa using T) (by simpa using B)
   .rw[iw,iw,Nat.succ_min_succ,List.range_succ_eq_map,List.all_cons,List.all_map]
    have z:Fw f (a::as) (b::bs) 0=x:=by simp[Fw,O]
    have H:(Fw f (a::as) (b::bs) ∘ Nat.succ)=Fw f as bs:=by funext j;simp[Fw]
    rw[z,H,R];have P:(as.length+1==bs.length+1)=(as.length==bs.length):=by
     by_cases q:as.length=bs.length
     .simp[q]
     .have:¬(as.length+1=bs.length+1):=by lia
      simp[q,this]
    rw[P,Bool.and_assoc]
  .cases h
def Uh{Y:Io}{H:Hp}{K:Fg}{f:Dv->Dv->Option Bool}(G:∀x y v r,Rep K Y H x v->Rep K Y H y v->f x y=some r->r=true){as bs:List Dv}{T:List V}{r:Bool}(a:qy K Y H as T)(b:qy K Y H bs T)(h:MW.Tp f as bs=some r):r=true:=by
 induction as generalizing bs T r with
 |nil=>cases a;cases b;cases h;rfl
 |cons x as J =>
  cases a with
  |cons L B =>
   cases b with
   |cons O t2 =>
    simp only[MW.Tp]at h;split at h
    .rename_i C N
     cases h;rw[G _ _ _ _ L O C,J B t2 N];rfl
    .cases h
inductive EqI(M:dz)(f:Dv->Dv->Option Bool):Dv->Dv->Bool->Prop
 |bl (a b:Bool):EqI M f (.bl a) (.bl b) (a==b)
 |int (a b:Int):EqI M f (.int a) (.int b) (decide (a=b))
 |sy (a b c d:Nat):EqI M f (.sy a b c d) (.sy a b c d) true
 |tup {as bs:List Dv} {r:Bool} (h:MW.Tp f as bs=some r):EqI M f (.tup as) (.tup bs) r
 |lst {x y:Dv} {as bs:List Dv} {r:Bool} (h1:MW.gr M x=some as) (h2:MW.gr M y=some bs) (h:(if as.length=bs.length then MW.Tp f as bs else some false)=some r):EqI M f x y r
def Ii(h:MW.Kr M (k+1) x y=some r):EqI M (MW.Kr M k) x y r:=by
 unfold MW.Kr at h;split at h
 .cases h;exact .int _ _
 .cases h;exact .bl _ _
 .split at h
  .rename_i q
   obtain⟨rfl,rfl,rfl,rfl⟩:=q;cases h;exact .sy _ _ _ _
  .cases h
 .exact .tup h
 .split at h
  .rename_i Y T;exact .lst Y T h
  .cases h
def Wl{X:Cx}(S:m9 nm X.K Z H M)(G:Rep X.K Z H x v)(L:Rep X.K Z H y v)(B:MW.gr M x=some ds)(T:MW.gr M y=some U):∃vs,qy X.K Z H ds vs/\qy X.K Z H U vs:=by obtain⟨p,vs,rfl,J,C⟩:=uz S G B;obtain⟨E,P,N,Y,O⟩:=uz S L T;cases N;rw[J]at Y;cases Y;exact⟨vs,C,O⟩
theorem acr{L:Nm}{G:Io}{H:Hp}{M:dz}{X:Cx}(S:m9 L X.K G H M):∀(k:Nat)(x y:Dv)(v:V)(r:Bool),Rep X.K G H x v->Rep X.K G H y v->MW.Kr M k x y=some r->r=true
 |0,_,_,_,_,_,_,h=>by cases h
 |k+1,x,y,v,r,rx,ry,h=>by
  have J:=acr S k;cases Ii h with
  |bl a b=>cases rx;cases ry;simp|int a b=>cases rx;cases ry;simp|sy=>rfl
  |tup h=>cases rx with
   |tup C Y=>cases ry with
    |tup B T=>rw[C]at B;cases B;exact Uh J Y T h
  |lst E N O =>
   obtain⟨P,Y,T⟩:=Wl S rx ry E N;rw[dj (Y.length.trans T.length.symm)]at O;exact Uh J Y T O
def Vals.afj{j:Nat}(r:Vals U Z)(J:U[j]?=some v)(T:Z[j]?=some u):RelV v u:=by obtain⟨B,Y,G⟩:=L2.Vals.get r J;rw[T]at Y;cases Y;exact G
def Yt{T:Io}{H:Hp}{K:Fg}{l:List (List Kx×Dv)}{Y:List (List Key×V)}(h:xf K T H (λk Z=>k=Z) l Y):Y.map (·.1)=l.map (·.1):=by
 induction h with
 |nil=>rfl|cons k h t G=>simp[G,k]
def ajk(r:KT H l Z):Z.map (·.1)=l.map (·.1)/\∀x∈Z,H x.2.1=some (.tup (x.1.map kV)):=by
 induction r with
 |nil=>exact⟨rfl,by simp⟩
 |@cons p q ps qs hq t ih =>
  refine⟨by simp[ih.1,hq.1],λx Y=>?_⟩;rcases dh.mp Y with rfl|Y
  .rw[<-hq.1];exact hq.2.1
  .exact ih.2 x Y
theorem Yu{nm:Nm}{X:Cx}{P:Io}{H:Hp}{σ:St}{M:dz}{qq:Zp}{s:Shared}(I:Inv X qq σ H s)(S:m9 nm X.K P H M):∀(k:Nat)(A:Around)(x y:Dv)(v u:V)(v' u':Value)(r:Bool),Bj k A->Rep X.K P H x v->Rep X.K P H y u->RelV v v'->RelV u u'->MW.Kr M k x y=some r->SeqAt.EqAt A s v' u' r
 |0,_,_,_,_,_,_,_,_,_,_,_,_,_,h=>by cases h
 |k+1,A,x,y,v,u,v',u',r,hr,rx,ry,rv,ru,h=>by
  have ih:=Yu I S k A.in1;have q0:=hr.in1;have elems:∀(Y T:List Dv)(R D:List V)(is J:Zl)(rr:Bool),qy X.K P H Y R->qy X.K P H T D->Vals R is->Vals D J->MW.Tp (MW.Kr M k) Y T=some rr ->
   ∀j (W:j<is.toArray.size) (F:j<J.toArray.size),SeqAt.EqAt A.in1 s is.toArray[j] J.toArray[j] (Fw (MW.Kr M k) Y T j):=λY T R D is J rr rd re Wm qk he j W F=>by
   have l1:j<Y.length:=by rw[rd.length,Wm.length];simpa using W
   have l2:j<T.length:=by rw[re.length,qk.length];simpa using F
   have C:Y[j]?=some Y[j]:=by simp[l1]
   have G:T[j]?=some T[j]:=by simp[l2]
   obtain⟨c,hc⟩:=(Ei he).1 j _ _ C G;obtain⟨va,a1,a2⟩:=rd.get C;obtain⟨wa,b1,b2⟩:=re.get G;have q1:is[j]?=some is.toArray[j]:=by simp
   have q2:J[j]?=some J.toArray[j]:=by simp
   have:=ih _ _ va wa _ _ c q0 a2 b2 (Vals.afj Wm a1 q1) (Vals.afj qk b1 q2) hc;have z:Fw (MW.Kr M k) Y T j=c:=by simp[Fw,C,G,hc]
   rw[z];exact this
  have Z:∀(p L:Addr)(Y T:List Dv),v=.ref p->u=.ref L->MW.gr M x=some Y->MW.gr M y=some T->(if Y.length=T.length then MW.Tp (MW.Kr M k) Y T else some false)=some r->SeqAt.EqAt A s v' u' r:=λp L Y T hv hu W F N=>by
   subst hv hu;cases rv;cases ru;obtain⟨_,R,hv,C,G⟩:=uz S rx W;cases hv;obtain⟨_,D,hw,g3,g4⟩:=uz S ry F;cases hw
   by_cases B:p=L
   .subst B
    have:r=true:=by rw[C]at g3;cases g3;rw[dj (G.length.trans g4.length.symm)]at N;exact Uh (λx y v r a b c=>acr S k x y v r a b c) G g4 N
    rw[this];exact SeqAt.EqAt.same _
   .refine SeqAt.EqAt.of_refs B ?_
    obtain⟨is,E,O,_⟩:=I.list (J2.of C);obtain⟨J,Q,Er,_⟩:=I.list (J2.of g3)
    by_cases hl:Y.length=T.length
    .rw[dj hl]at N
     have qv:is.toArray.size=J.toArray.size:=by simp[<-E.length,<-Q.length,<-G.length,<-g4.length,hl]
     have:=SeqAt.RcAt.lists (e:=Fw (MW.Kr M k) Y T) O.isList Er.isList qv hr.Ye (elems Y T R D is J r G g4 E Q N);rw[(Ei N).2];have U:is.toArray.size=min Y.length T.length:=by simp[<-E.length,<-G.length,hl]
     rw[U]at this;simpa[hl]using this
    .rw[cj hl]at N
     cases N;exact SeqAt.RcAt.lists_lengths O.isList Er.isList (by simp[<-E.length,<-Q.length,<-G.length,<-g4.length,hl]) hr.Ye
  cases Ii h with
  |bl a b=>cases rx;cases ry;cases rv;cases ru;exact SeqAt.EqAt.bool_bool _ _
  |int a b =>
   cases rx;cases ry;obtain⟨t,rfl⟩:=rv;obtain⟨t2,rfl⟩:=ru;rw[<-Bool.beq_eq_decide_eq];exact SeqAt.EqAt.int_int _ _ _ _
  |sy a b c d =>
   cases rx;cases ry;obtain⟨t,rfl⟩:=rv;obtain⟨t2,rfl⟩:=ru;rw[show true=(P.s a b c d==P.s a b c d)by simp];exact SeqAt.EqAt.int_int _ _ _ _
  |@tup Y T _ h=>cases rx with
   |@tup p _ R U E=>cases ry with
    |@tup L _ D e2 Q =>
     cases rv;cases ru
     by_cases B:p=L
     .subst B
      have:r=true:=by rw[U]at e2;cases e2;exact Uh (λx y v r a b c=>acr S k x y v r a b c) E Q h
      rw[this];exact SeqAt.EqAt.same _
     .refine SeqAt.EqAt.of_refs B ?_
      obtain⟨is,C,O,_⟩:=I.tuple (Gd.of U);obtain⟨J,G,Er,_⟩:=I.tuple (Gd.of e2);have:=SeqAt.RcAt.tuples (e:=Fw (MW.Kr M k) Y T) (show s.heap.IsTuple p is.toArray from O) (show s.heap.IsTuple L J.toArray from Er) hr.Ye (elems Y T R D is J r E Q C G h);rw[(Ei h).2];have z1:is.toArray.size=Y.length:=by simp[<-C.length,<-E.length]
      have z2:J.toArray.size=T.length:=by simp[<-G.length,<-Q.length]
      rw[z1,z2]at this;exact this
  |lst W F N =>
   obtain⟨p,_,U,_⟩:=uz S rx W;obtain⟨L,_,e2,_⟩:=uz S ry F;exact Z p L _ _ U e2 W F N
inductive acs(A:Around)(s:Shared):Value->Value->Bool->Prop
 |Yd {p p2:Addr} {is js:U1} (e:Nat->Bool) (h1:s.heap.IsTuple p is) (h2:s.heap.IsTuple p2 js) (he:∀j (h1:j<is.size) (h2:j<js.size),SeqAt.EqAt A.in1 s is[j] js[j] (e j)):acs A s (.ref p) (.ref p2) ((List.range (min is.size js.size)).all e&&is.size==js.size)
 |bbp {p p2:Addr} {is js:U1} (e:Nat->Bool) (h1:s.heap.IsList p is) (h2:s.heap.IsList p2 js) (hz:is.size=js.size) (he:∀j (h1:j<is.size) (h2:j<js.size),SeqAt.EqAt A.in1 s is[j] js[j] (e j)):acs A s (.ref p) (.ref p2) ((List.range is.size).all e)
 |lens {p p2:Addr} {is js:U1} (h1:s.heap.IsList p is) (h2:s.heap.IsList p2 js) (hz:(is.size != js.size)=true):acs A s (.ref p) (.ref p2) false
def aa3{A:Around}(I:Inv X pins σ H s)(S:m9 nm X.K ι H M)(W:Bj k A.in1)(J:qy X.K ι H ds vs)(O:qy X.K ι H Z ws)(B:Vals vs is)(Y:Vals ws U)(E:MW.Tp (MW.Kr M k) ds Z=some rr) :
 ∀j (N:j<is.toArray.size) (L:j<U.toArray.size),SeqAt.EqAt A.in1 s is.toArray[j] U.toArray[j] (Fw (MW.Kr M k) ds Z j):=λj N L=>by
 have V:j<ds.length:=by rw[J.length,B.length];simpa using N
 have F:j<Z.length:=by rw[O.length,Y.length];simpa using L
 have G:ds[j]?=some ds[j]:=by simp[V]
 have T:Z[j]?=some Z[j]:=by simp[F]
 obtain⟨c,C⟩:=(Ei E).1 j _ _ G T;obtain⟨Q,q,u⟩:=J.get G;obtain⟨P,g,D⟩:=O.get T;have y:is[j]?=some is.toArray[j]:=by simp
 have R:U[j]?=some U.toArray[j]:=by simp
 have:=Yu I S k A.in1 _ _ Q P _ _ c W u D (Vals.afj B q y) (Vals.afj Y g R) C;have z:Fw (MW.Kr M k) ds Z j=c:=by simp[Fw,G,T,C]
 rw[z];exact this
def ahv(I:Inv X pins σ H s)(S:m9 nm X.K U H M)(R:Bj k A.in1)(rx:Rep X.K U H x v)(W:Rep X.K U H y u)(L:RelV v v')(F:RelV u u')(V:MW.gr M x=some ds)(D:MW.gr M y=some Z)(G:(if ds.length=Z.length then MW.Tp (MW.Kr M k) ds Z else some false)=some r):acs A s v' u' r:=by
 obtain⟨p,vs,rfl,Q,J⟩:=uz S rx V;obtain⟨p2,ws,rfl,g3,C⟩:=uz S W D;cases L;cases F;obtain⟨is,B,T,_⟩:=I.list (J2.of Q);obtain⟨P,N,Er,_⟩:=I.list (J2.of g3)
 by_cases Y:ds.length=Z.length
 .rw[dj Y]at G
  have O:is.toArray.size=P.toArray.size:=by simp[<-B.length,<-N.length,<-J.length,<-C.length,Y]
  have z:=acs.bbp (A:=A) (Fw (MW.Kr M k) ds Z) T.isList Er.isList O (aa3 I S R J C B N G);rw[(Ei G).2];have E:is.toArray.size=min ds.length Z.length:=by simp[<-B.length,<-J.length,Y]
  rw[E]at z;simpa[Y]using z
 .rw[cj Y]at G
  cases G;exact .lens T.isList Er.isList (by simp[<-B.length,<-N.length,<-J.length,<-C.length,Y])
def afk(I:Inv X pins σ H s)(S:m9 nm X.K Z H M)(C:Bj k A.in1)(Y:Rep X.K Z H x v)(T:Rep X.K Z H y u)(L:RelV v v')(B:RelV u U)(h:MW.Kr M (k+1) x y=some r) :
 acs A s v' U r\/(a3j v u=true/\r=decide (v=u)):=by
 cases Ii h with
 |bl a b=>cases Y;cases T;exact .inr ⟨rfl,by by_cases z:a=b<;>simp[z]⟩|int a b=>cases Y;cases T;exact .inr ⟨rfl,by by_cases z:a=b<;>simp[z]⟩|sy=>cases Y;cases T;exact .inr ⟨rfl,by simp⟩
 |@tup ds es _ h=>cases Y with
  |@tup p _ vs e1 r1=>cases T with
   |@tup p2 _ ws e2 r2 =>
    cases L;cases B;obtain⟨is,O,G,_⟩:=I.tuple (Gd.of e1);obtain⟨J,N,Er,_⟩:=I.tuple (Gd.of e2);have z:=acs.Yd (A:=A) (Fw (MW.Kr M k) ds es) (show s.heap.IsTuple p is.toArray from G) (show s.heap.IsTuple p2 J.toArray from Er) (aa3 I S C r1 r2 O N h);rw[(Ei h).2];have R:is.toArray.size=ds.length:=by simp[<-O.length,<-r1.length]
    have P:J.toArray.size=es.length:=by simp[<-N.length,<-r2.length]
    rw[R,P]at z;exact .inl z
 |lst Q E V=>exact .inl (ahv I S C Y T L B Q E V)
def acs.rc(h:acs A s v u r)(G:A.units<cLine):SeqAt.RcAt A s v u r/\SeqAt.RcNeAt A s v u (!r):=by
 cases h with
 |Yd e T Y B=>exact⟨SeqAt.RcAt.tuples T Y G B,SeqAt.RcNeAt.tuples T Y G B⟩|bbp e T Y J B=>exact⟨SeqAt.RcAt.lists T Y J G B,SeqAt.RcNeAt.lists T Y J G B⟩|lens T Y J=>exact⟨SeqAt.RcAt.lists_lengths T Y J G,SeqAt.RcNeAt.lists_lengths T Y J G⟩
def bg0(G:Bj 6 X.A):Ej X (compareOp .Eq) (Yn nm X.K .eq):=λY s L H v u E N Q I J T C=>by
 obtain⟨P,M,x,y,b,S,B,O,e,q⟩:=C;have e:MW.Kr M 6 x y=some b:=e;rcases afk (A:=X.A) I S G.in1 B O J T e with h|⟨h1,h2⟩
 .exact(h.rc G.Ye).1 X.prog X.w X.xe _ ⟨.bl b,H,I,rfl,q⟩
 .subst h2
  exact a9r Y s L H v u E N Q I J T ⟨h1,q⟩
def bg1(G:Bj 6 X.A):Ej X (compareOp .NotEq) (Yn nm X.K .ne):=λY s O H v u V P Q I J T E=>by
 obtain⟨W,M,x,y,b,S,C,L,e,q⟩:=E;obtain⟨R,B,N⟩:=dg.mp (show(MW.zy M x y).map not=some b from e);subst N;rcases afk (A:=X.A) I S G.in1 C L J T (show MW.Kr M 6 x y=_ from B)with h|⟨h1,h2⟩
 .exact(h.rc G.Ye).2 X.prog X.w X.xe _ ⟨.bl !R,H,I,rfl,q⟩
 .subst h2
  exact a9s Y s O H v u V P Q I J T ⟨h1,q⟩
section
variable{nm:Nm}{W:Jy}{X:Cx}{a b c o:Expr}{a' b' c' o':Ex}{pos pos' apos:Pos}{ι:Io}{H:Hp}{σ:St}{ρ:En}{M M1 M2:dz}{x y:Dv}{es:Ya}{es':Ez}
set_option tactic.hygienic true in
theorem Qw:∀{T:List Dv}{bs:List Bool},MW.Q4 M x T=some bs->bs.length=T.length/\∀(j:Nat) d,T[j]?=some d->∃b,bs[j]?=some b/\MW.zy M d x=some b
 |[],bs,h=>by cases h;exact⟨rfl,λj d e=>by simp at e⟩
 |y::ys,bs,h=>by
  simp only[MW.Q4]at h;split at h
  .rename_i a b N B
   cases h;obtain⟨O,L⟩:=Qw B;refine⟨by simp[O],λj d e=>?_⟩;cases j with
   |zero=>simp at e;subst e;exact⟨a,rfl,N⟩|succ j=>simpa using L j d (by simpa using e)
  .cases h
def aw5(S:m9 nm X.K ι H M)(k:Nat):∀{x y z:Dv}{v:V}{r r':Bool},Rep X.K ι H x v->Rep X.K ι H y v->MW.Kr M k x z=some r->MW.Kr M k y z=some r'->r=r':=by
 induction k with
 |zero=>intro _ _ _ _ _ _ _ _ h;cases h
 |succ k ih =>
  intro x y z v r r' R P h J;have D:∀{as bs Y:List Dv}{E:List V}{r r':Bool},qy X.K ι H as E->qy X.K ι H bs E->MW.Tp (MW.Kr M k) as Y=some r->MW.Tp (MW.Kr M k) bs Y=some r'->r=r':=fun{as bs Y E r r'} B O h J=>by
   have hl:as.length=bs.length:=B.length.trans O.length.symm;rw[(Ei h).2,(Ei J).2,hl]
   congr 1
   rw[zr,jf,jf];have:∀j∈List.range (min bs.length Y.length),Fw (MW.Kr M k) as Y j=Fw (MW.Kr M k) bs Y j:=λj G=>by have G:=jk.mp G;have F:bs[j]?=some bs[j]:=bx (by lia);have Q:Y[j]?=some Y[j]:=bx (by lia);have A:as[j]?=some as[j]:=bx (by lia);obtain⟨c1,L⟩:=(Ei h).1 j _ _ A Q;obtain⟨c2,N⟩:=(Ei J).1 j _ _ F Q;obtain⟨v1,p1,U⟩:=B.get A;obtain⟨v2,I,Z⟩:=O.get F;rw[p1]at I;cases I;simp only[Fw,F,Q,A,L,N,zf];exact ih U Z L N
   exact⟨λq j G=>by rw[<-this j G];exact q j G,λq j G=>by rw[this j G];exact q j G⟩
  cases Ii h with
  |bl a b=>cases Ii J with
   |bl=>cases R;cases P;rfl|lst _ T=>cases T
  |int a b=>cases Ii J with
   |int=>cases R;cases P;rfl|lst _ T=>cases T
  |sy=>cases Ii J with
   |sy=>rfl|lst _ T=>cases T
  |tup e=>cases Ii J with
   |tup C=>cases R with
    |tup L B=>cases P with
     |tup N O=>rw[L]at N;cases N;exact D B O e C
   |lst _ T=>cases T
  |@lst _ _ as Y _ h1 T e=>cases Ii J with
   |@lst _ _ bs _ _ h3 h4 C =>
    rw[T]at h4;cases h4;obtain⟨E,B,O⟩:=Wl S R P h1 h3;rw[show as.length=bs.length from B.length.trans O.length.symm]at e
    by_cases q:bs.length=Y.length
    .rw[dj q]at e C;exact D B O e C
    .rw[cj q]at e C;rw[e]at C;cases C;rfl
   |_=>cases T
def acu(I:Inv X pins σ H s)(S:m9 nm X.K ι H M)(hr:Bj 6 A)(J:qy X.K ι H ds U)(B:Vals U is)(rx:Rep X.K ι H x u)(ru:RelV u Z)(h:MW.Q4 M x ds=some bs):∃e:Value->Bool,(∀w,w∈is.toArray->SeqAt.EqAt A s w Z (e w))/\∀(j:Nat)(w:Value),is[j]?=some w->bs[j]?=some (e w):=by
 obtain⟨g1,N⟩:=Qw h;have G:∀(j:Nat)(w:Value),is[j]?=some w->∃b,bs[j]?=some b/\SeqAt.EqAt A s w Z b:=λj w T=>by
  have L:j<ds.length:=by rw[J.length,B.length];exact(ao.mp T).1
  have gd:ds[j]?=some ds[j]:=by simp[L]
  obtain⟨b,O,C⟩:=N j _ gd;obtain⟨v,a1,a2⟩:=J.get gd;exact⟨b,O,Yu I S 6 A _ _ v u w Z b hr a2 rx (Vals.afj B a1 T) ru C⟩
 classical
 refine⟨λw=>if T:∃j:Nat,is[j]?=some w then(bs[T.choose]?).getD false else false,λw T=>?_,λj w T=>?_⟩
 .obtain⟨j,hj,e⟩:=p8 (by simpa using T:w∈is)
  have Y:∃j:Nat,is[j]?=some w:=⟨j,by simp[hj,e]⟩;obtain⟨b,O,C⟩:=G Y.choose w Y.choose_spec;simp only[dif_pos Y,O,zf];exact C
 .have Y:∃j:Nat,is[j]?=some w:=⟨j,T⟩
  obtain⟨b,O,C⟩:=G j w T;obtain⟨b',P,e4⟩:=G Y.choose w Y.choose_spec;simp only[dif_pos Y,P,zf];rw[O]
  congr 1
  have L:j<ds.length:=by rw[J.length,B.length];exact(ao.mp T).1
  have F:Y.choose<ds.length:=by rw[J.length,B.length];exact(ao.mp Y.choose_spec).1
  have gd:ds[j]?=some ds[j]:=by simp[L]
  have R:ds[Y.choose]?=some ds[Y.choose]:=by simp[F]
  obtain⟨c1,Q,D⟩:=N j _ gd;obtain⟨c2,E,q4⟩:=N Y.choose _ R;obtain⟨v1,p1,p2⟩:=J.get gd;obtain⟨v2,p3,V⟩:=J.get R;have hv:v1=v2:=RelV.inj (Vals.afj B p1 T) (Vals.afj B p3 Y.choose_spec);subst hv;rw[O]at Q;rw[P]at E;cases Q;cases E;exact aw5 S 6 p2 V D q4
def aw6{is:Zl}{bs:List Bool}(Y:bs.length=is.length)(h:∀(j:Nat) (w:Value),is[j]?=some w->bs[j]?=some (e w)):bs=is.map e:=by
 apply t7;intro j;rw[ig];cases q:is[j]? with
 |none=>rw[pq (by rw[Y];exact List.getElem?_eq_none_iff.mp q)];rfl|some w=>rw[h j w q];rfl
def a0f{b:Bool}(n:Bool)(R:Bj 8 X.A)(S:m9 nm X.K ι H M)(I:Inv X pins σ H s)(P:RelV v Z)(ru:RelV u U)(rx:Rep X.K ι H x v)(ry:Rep X.K ι H y u)(e:MW.R9 M x y=some b)(q:Q (.bl (cond n (!b) b)) H):wpAny (model X.prog X.w) X.A (compareOp (cond n .NotIn .In) Z U) (EP X pins σ Q) X.xe s:=by
 have D:∀G,MW.Dd M y=some G->MW.memD M x G=some b->wpAny (model X.prog X.w) X.A (compareOp (cond n .NotIn .In) Z U) (EP X pins σ Q) X.xe s:=λG J B=>by
  obtain⟨bs,C,V⟩:=dg.mp (show(MW.Q4 M x G).map (·.any id)=some b from B);obtain⟨p,vs,rfl,E,r⟩:=Qv S ry J;cases ru;have fin:∀{is:Zl}{f:Value->Bool},Vals vs is->(∀(j:Nat)(w:Value),is[j]?=some w->bs[j]?=some (f w))->is.toArray.any f=b:=fun{is f} T O=>by have:=aw6 (by rw[(Qw C).1,r.length,T.length]) O;rw[this]at V;rw[<-V];simp[List.any_map]
  rcases E with E|E
  .obtain⟨is,T,N,_⟩:=I.list (J2.of E)
   obtain⟨f,L,O⟩:=acu (A:=X.A.in1) I S ((R.mono (by decide:7<=8)).in1) r T rx P C;have a:=fin T O;subst a;cases n with
   |false=>exact SeqAt.in_listAt f N.isList L ⟨.bl _,H,I,rfl,q⟩|true=>exact SeqAt.notIn_listAt f N.isList L ⟨.bl _,H,I,rfl,q⟩
  .obtain⟨is,T,N,_⟩:=I.tuple (Gd.of E)
   obtain⟨f,L,O⟩:=acu (A:=X.A.in1) I S ((R.mono (by decide:7<=8)).in1) r T rx P C;have a:=fin T O;subst a;cases n with
   |false=>exact SeqAt.in_tupleAt f (show s.heap.IsTuple p is.toArray from N) L ⟨.bl _,H,I,rfl,q⟩
   |true=>exact SeqAt.notIn_tupleAt f (show s.heap.IsTuple p is.toArray from N) L ⟨.bl _,H,I,rfl,q⟩
 have Y:(MW.Dd M y).bind (MW.memD M x)=some b->wpAny (model X.prog X.w) X.A (compareOp (cond n .NotIn .In) Z U) (EP X pins σ Q) X.xe s:=λe=>by obtain⟨G,J,B⟩:=ik.mp e;exact D G J B
 cases y with
 |ref m =>
  cases hM:M[m]? with
  |none=>simp only[MW.R9,hM]at e;exact Y e
  |some o=>cases o with
   |dT je =>
    simp only[MW.R9,hM]at e;obtain⟨k,V,e3⟩:=dg.mp e;cases ry with
    |ref C =>
     obtain⟨l,J,B⟩:=S.obj m _ _ hM C;obtain⟨bb,rfl,hb⟩:=Yp rx V;cases ru;have a:b=(S8 l k).isSome:=by
      rw[<-e3];cases hk:MW.Af je k with
      |none=>rw[(B.look (k:=k)).2 hk];rfl|some d=>obtain⟨z,h3,_⟩:=(B.look (k:=k)).1 d hk;rw[h3];rfl
     subst a;cases n with
     |false=>exact bge (aaw R) I (Q6.t J hb) P λs' F=>⟨.bl _,H,F,rfl,q⟩
     |true=>exact awi (aaw R) I (Q6.t J hb) P λs' F=>⟨.bl _,H,F,rfl,q⟩
   |_=>simp only[MW.R9,hM]at e;exact Y e
 |_=>exact Y e
def bg2(J:Bj 8 X.A):Ej X (compareOp .In) (Yn nm X.K .inn):=λY s σ H v u L N Q I C T B=>by obtain⟨ι,M,x,y,b,S,G,O,e,q⟩:=B;exact a0f false J S I C T G O e q
def aw7(B:Bj 8 X.A):Ej X (compareOp .NotIn) (Yn nm X.K .Tu):=λY s σ H v u E L Q I N T O=>by obtain⟨ι,M,x,y,c,S,J,C,e,q⟩:=O;obtain⟨b,G,rfl⟩:=dg.mp (show(MW.R9 M x y).map not=some c from e);exact a0f true B S I N T J C G q
end
open Xe (Eo Uz)
def KH(H:Hp)(x:List Key×Addr):Prop:=H x.2=some (.tup (x.1.map kV))/\∀k∈x.1,∃i,k=.inl i
def afl(P:Program)(w:World)(H:Hp):Xe.Uy (qg P w) (KH H):=λx T k Y v n G=>by
 obtain⟨i,rfl⟩:=T.2 k Y;rcases Ce (show Yb (Sum.inl i) v=true from G)with⟨j,t,e,rfl⟩|⟨y,t,e,_⟩
 .unfold hashByValue;rfl
 .cases e
def Vd:∀ks:List Kx,MW.Q3 (MW.aoe ks)=some ks:=λks=>by
 show MW.abm (ks.map MW.aod)=some ks
 induction ks with
 |nil=>rfl|cons k ks Y=>cases k<;>simp[MW.abm,MW.aod,MW.Xq,Y]
theorem Yv:∀{l:List (List Kx×Dv)},MW.Fe (l.map λp=>MW.aoe p.1)=some (l.map (·.1))
 |[]=>rfl|p::l=>by simp[MW.Fe,Vd,Yv]
def aw8{E:Io}{H:Hp}{K:Fg}{G:List Dv}{J:List V}{T:List (List Kx)}(a:qy K E H G J)(h:MW.Fe G=some T):∃bs:List Addr,J=bs.map V.ref/\bs.length=T.length/\∀x∈T.zip bs,H x.2=some (.tup (x.1.map kV)):=by
 induction G generalizing J T with
 |nil=>cases a;simp[MW.Fe]at h;subst h;exact⟨[],rfl,rfl,by simp⟩
 |cons d G B =>
  cases a with
  |cons r t =>
   simp only[MW.Fe]at h;split at h
   .rename_i L O
    cases h;obtain⟨b,rfl,e⟩:=Yp r L;obtain⟨bs,rfl,N,C⟩:=B t O;refine⟨b::bs,rfl,by simp[N],λx Y=>?_⟩;simp only[List.zip_cons_cons,dh]at Y;rcases Y with rfl|Y
    .exact e
    .exact C x Y
   .cases h
def al5(h:MW.Ff Z=true):Z.length<=30/\∀k∈Z,∀x∈k,∃i,x=Sum.inl i:=by
 simp only[MW.Ff,az,f9,jf]at h;refine⟨h.1,λk Y x T=>?_⟩;have:=h.2 k Y x T;cases x with
 |inl i=>exact⟨i,rfl⟩|inr s=>cases this
set_option tactic.hygienic true in
def aqz(hr:Bj 8 X.A)(I:Inv X pins σ H s)(S:m9 nm X.K ι H M)(rx:Rep X.K ι H x v)(ru:RelV v u)(T:MW.keysOf M x=some ds)(hd:MW.Fe ds=some Y)(pl:MW.Ff Y=true)(h:∀p o n Z,Inv X ((p,o)::pins) σ H Z->Eo (qg X.prog X.w) (KH H) Z.heap p (λk=>k∈Y) n->Z.heap.get? p=some o->Q (.ref p) Z) :
 wpAny (model X.prog X.w) X.A (call (.type "set") [u]) Q X.xe s:=by
 obtain⟨U,O⟩:=al5 pl;have hu:X.A.in1.in1.in1.units+1<cLine:=by have:=hr.un;show X.A.units+1+1+1+1<cLine;lia
 have kept:∀b o,s.heap.get? b=some o->(s.heap.push (Xe.Bw X.w)).get? b=some o:=λb o e=>au _ e
 have I1:Inv X pins σ H { s with heap:=s.heap.push (Xe.Bw X.w) }:=I.kept (t':=s.toks) kept;have fr:Eo (qg X.prog X.w) (KH H) (s.heap.push (Xe.Bw X.w)) s.heap.objs.size (λ_=>False) 0:=Xe.auq (cu _ rfl);have fin:∀(B:Heap)(C N:Nat),(∀b o,b≠s.heap.objs.size->(s.heap.push (Xe.Bw X.w)).get? b=some o->B.get? b=some o)->Eo (qg X.prog X.w) (KH H) B s.heap.objs.size (λk=>k∈Y) N->Q (.ref s.heap.objs.size) { s with heap:=B,toks:=C }:=λB C N F D=>by
  have I2:Inv X pins σ H { s with heap:=B,toks:=C }:=I.kept λb o e=>F b o (gh (bu e)) (kept b o e)
  obtain⟨o,es,ep,t,hg,hc,q2,_⟩:=D.get;refine h _ o N _ (I2.Uc λq hq=>?_) D hg;rcases dh.mp hq with rfl|hq
  .refine⟨hg,I.Bq.fresh (bz _),yr I.lt,I.a2f (bz _),λv hv=>?_⟩
   rw[show o.data=_ from q2]at hv;cases hv
  .exact I2.pin q (jn _ hq)
 have lst:∀p W,v=.ref p->H p=some (.lst W)->qy X.K ι H ds W->wpAny (model X.prog X.w) X.A (call (.type "set") [u]) Q X.xe s:=λp W ev hp r=>by
  subst ev;cases ru;obtain⟨is,rv,qv,_⟩:=I1.list (J2.of hp);obtain⟨bs,rfl,J,hz⟩:=aw8 r hd;have q0:is=(Y.zip bs).map λx=>Value.ref x.2:=by
   apply t7;intro j;rw[ig]
   by_cases y:j<bs.length
   .have E:(bs.map V.ref)[j]?=some (.ref bs[j]):=by simp[y]
    have L:j<is.length:=by have:=rv.length;simp at this;exact b_ y (f_ this)
    have G:is[j]?=some is[j]:=by simp[L]
    have:=Vals.afj rv E G;rw[G,show is[j]=Value.ref bs[j]from this];have q3:j<Y.length:=b_ y (f_ J)
    have q1:(Y.zip bs)[j]?=some (Y[j],bs[j]):=by rw[bx (by simp;lia)];simp
    rw[q1];rfl
   .have L:¬j<is.length:=by have:=rv.length;simp at this;exact j_ (a_ (g_ this) (s_ y))
    rw[pq (s_ L),pq (by simp;lia)];rfl
  refine Xe.Ox (R:=λZ=>Q (.ref s.heap.objs.size) Z) ?_ λZ h=>h
  refine Xe.an5 (afl _ _ H) (ks:=Y.zip bs) (items:=is.toArray) (by have:=hr.hd;exact this) hu fr qv.isList (by simpa using q0) (λx P=>Qf I1.Bq (hz x P)) (λx P=>⟨hz x P,λk T=>O x.1 (Bf (a:=x.1) (b:=x.2) P).1 k T⟩) (by simp;lia) λB C N F D=>?_
  refine fin B C N F (D.congr λk=>?_);rw[List.map_fst_zip (g_ J)]
 unfold MW.keysOf at T;split at T
 .rename_i n
  split at T
  .rename_i je hM
   cases T;rw[Yv]at hd;cases hd;cases rx with
   |@ref n p E =>
    obtain⟨l,h1,h2⟩:=S.obj n _ p hM E;cases ru;obtain⟨_,qq,xs,qk,dd⟩:=ap6 I1.Bq h1;obtain⟨k1,k2⟩:=ajk qk;have k3:xs.map (·.1)=je.map (·.1):=k1.trans (Yt h2);have hl:xs.length=je.length:=by have:=qt List.length k3;simpa using this
    refine Xe.Ox (R:=λZ=>Q (.ref s.heap.objs.size) Z) ?_ λZ h=>h
    refine Xe.an1 (afl _ _ H) (by have:=hr.un;show X.A.units+1+1<cLine;lia) fr dd qq (λx P=>⟨k2 x P,λk T=>?_⟩) (by simp at U;lia) λB N sb D=>?_
    .have:x.1∈je.map (·.1):=by rw[<-k3];exact bf.mpr ⟨x,P,rfl⟩
     exact O x.1 this k T
    .refine fin B s.toks N (λb o hb e=>(sb.2 b hb).trans e) (D.congr λk=>?_)
     rw[k3];simp
  .obtain⟨p,W,E,G,r⟩:=uz S rx T
   exact lst p W E G r
 .obtain⟨p,W,E,G,r⟩:=uz S rx T
  exact lst p W E G r
def bbq(O:Eo (qg P w) (KH H) h p T n)(C:h.get? p=some o)(E:U.get? p=some o)(le:∀a Z,H a=some (.tup Z)->H' a=some (.tup Z))(ok:Ru P w H' U):Eo (qg P w) (KH H') U p T n:=by obtain⟨L,G,N,J,t,D,r⟩:=O;have e:G=o:=lg (D.get.symm.trans C);subst e;refine⟨L,G,N,J,t,⟨E,D.exa,D.dat,D.tab,D.ent,λx B=>?_,D.nod,D.led,D.pla⟩,r⟩;obtain⟨_,Y,k2⟩:=D.keys x B;exact⟨Qf ok (le _ _ Y),le _ _ Y,k2⟩
def afm:MW.J8 xs ys=true↔∀k,k∈xs↔k∈ys:=by
 simp only[MW.J8,az,jf,Am,f9];constructor
 .rintro⟨T,G⟩ k
  exact⟨λh=>by obtain⟨y,Y,e⟩:=T k h;rw[<-e];exact Y,λh=>by obtain⟨y,Y,e⟩:=G k h;rw[<-e];exact Y⟩
 .exact λh=>⟨λx J=>⟨x,(h x).mp J,rfl⟩,λy Y=>⟨y,(h y).mpr Y,rfl⟩⟩
def aw9(E:Bj 8 X.A)(hg:Gl X Z)(hm:X.mg Z=none)(hv:bootBuiltins Z=some (.type "set"))(hn:Z≠"__name__")(Tn:(Z==("__debug__": Str))=false)(ha:PA X [a] (Zm nm W X.K (.cons a' .nil)))(hb:PA X [b] (Zm nm W X.K (.cons b' .nil)))(he:starEach [a] X.env=(false,eval a X.env)::starEach [] X.env)(qv:starEach [b] X.env=(false,eval b X.env)::starEach [] X.env)(J6:(backTo q1 (starEach [] X.env)).any (·.1)=false)(q3:(backTo q2 (starEach [] X.env)).any (·.1)=false) :
 PC X .NotEq (.Call (.Name Z p1) [a] [] q1) (.Call (.Name Z p2) [b] [] q2) (tE nm W X.K (.Xp a' b')):=by
 intro C s σ H Q I hh;obtain⟨ι,ρ,M,d,M',S,R,e,q⟩:=hh;rw[MW.aac]at e;obtain⟨x,P,e1,e⟩:=gw e;cases hk1:(MW.keysOf P x).bind MW.Fe with
 |none=>rw[hk1]at e;cases e
 |some ks =>
  rw[hk1]at e;simp only at e;split at e
  .rename_i qk
   obtain⟨y,M2,e2,e⟩:=gw e;cases hk2:(MW.keysOf M2 y).bind MW.Fe with
   |none=>rw[hk2]at e;cases e
   |some ls =>
    rw[hk2]at e;simp only at e;split at e
    .rename_i Er
     cases e;obtain⟨q8,g1,q4⟩:=ik.mp hk1;obtain⟨q6,g2,F⟩:=ik.mp hk2;refine jm (Dy I hg hm hv ?_ hn Tn);refine jx (Lb (ha q1 C s σ H (λB J=>∃Y v,B=[v]/\Le ι H Y J/\m9 nm X.K Y J P/\Rep X.K Y J x v) I ⟨ι,ρ,M,[x],P,S,R,by simp[e1,Res.bind],λY J B le N r=>?_⟩) λus s1 z=>?_) he J6
     .obtain⟨v,U,O⟩:=Kp r rfl
      exact⟨Y,v,U,le,N,O⟩
     obtain⟨B,J,I1,r1,Y,v,rfl,W8,N,rx⟩:=z;cases r1 with
     |cons O rn =>
      cases rn;refine aqz E I1 N rx O g1 q4 qk λp o n s2 I2 hS q0=>?_
      refine jm (Dy I2 hg hm hv ?_ hn Tn);refine jx (Lb (hb q2 _ s2 σ J (λB G=>∃T v,B=[v]/\Le Y J T G/\m9 nm X.K T G M'/\Rep X.K T G y v) I2 ⟨Y,ρ,P,[y],M',N,R.mono W8,by simp[e2,Res.bind],λT G B le L r=>?_⟩) λus s3 z=>?_) qv q3
      .obtain⟨v,U,O⟩:=Kp r rfl
       exact⟨T,v,U,le,L,O⟩
      obtain⟨B,G,I3,r2,T,v2,rfl,Bc,L,ry⟩:=z;cases r2 with
      |cons qq D =>
       cases D;refine aqz E I3 L ry qq g2 F Er λp' o' n' s4 V Xk q7=>?_
       have hp:s4.heap.get? p=some o:=(V.pin (p,o) (jn _ (bw _ fc))).1;have q5:=bbq (H':=G) hS q0 hp Bc.tup V.Bq;refine Xe.a8h (by have:=E.un;show X.A.units+1<cLine;lia) (by have:=E.un;lia) q5 Xk λc hc=>?_
       have ec:c=!MW.J8 ks ls:=by have:=afm (xs:=ks) (ys:=ls);cases c<;>cases h:MW.J8 ks ls<;>simp_all
       refine⟨.bl c,G,(V.Uc λz hz=>V.pin z (jn _ (bw _ (bw _ hz)))),rfl,?_⟩;rw[ec];exact q T G _ (W8.trans Bc) L (.bl _)
    .cases e
  .cases e
def rM(B:Nm)(K:Fg)(m:Bm):V->List V->Hp->VK->Prop:=λv C H Q=>∃G M x O d J,m9 B K G H M/\Rep K G H x v/\qy K G H O C/\MW.Ks m x O M=.ok d J /\
 ∀Y T w,Le G H Y T->m9 B K Y T J->Rep K Y T d w->Q w T
theorem axb{id:String}(hT:∀ι H M x v,m9 nm X.K ι H M->Rep X.K ι H x v->MW.Oq m x M=true->tyV X.K T v H)(pa:PlainAttrs T)(Y:Slot T name id)(C:typeOf (.builtin id)=pure (.type "method_descriptor"))(hm:MtR X id (rM nm X.K m))(ho:PE X o (tE nm W X.K o'))(ha:PA X (e::Z) (Zm nm W X.K qq))(J:attributeBase o name X.env (eval o X.env)=eval o X.env)(B:((backTo U (starEach (e::Z) X.env)).all (λx=>!x.1)&&(backToKw U (keywordEach [] X.env)).all (λx=>x.1.isSome)
&&decide ((e::Z).length+([]:List Keyword).length+(if([]:List Keyword).isEmpty then 0 else 1)<30))=true)(P:(apos.endLine==U.line)=true)(hs:starEach (e::Z) X.env=(false,eval e X.env)::starEach Z X.env)(N:(backTo U (starEach Z X.env)).any (·.1)=false) :
 PE X (.Call (.Attribute o name apos) (e::Z) [] U) (tE nm W X.K (.bm m o' qq)):=
 PE.of (baf pa Y C hm ho ha J B P hs N) fun σ H Q ι ρ M d M' S R e q=>by
  rw[MW.a1e]at e;obtain⟨x,I,e1,e⟩:=gw e;split at e
  .rename_i ht
   obtain⟨V,F,e2,e⟩:=gw e;exact one S R e1 λG H1 v le A R1 r=>⟨hT G H1 I x v A r ht,G,ρ,I,V,F,A,R1,e2,λE H2 vs D S2 rs=>⟨E,F,x,V,d,M',S2,r.mono D,rs,e,λO H' w L S' r'=>q O H' w ((le.trans D).trans L) S' r'⟩⟩
  .cases e
def ajl(h:MW.onL o M f=.ok d M'):∃n Z,o=.ref n/\M[n]?=some (.lst Z)/\f n Z=.ok d M':=by
 cases o with
 |ref n =>
  simp only[MW.onL]at h;cases e:M[n]? with
  |none=>rw[e]at h;cases h
  |some o=>cases o with
   |lst Z=>rw[e]at h;exact⟨n,Z,rfl,e,h⟩|_=>rw[e]at h;cases h
 |_=>cases h
def acv{Y:List Dv}(h:MW.Oo Y g=.ok d M'):∃x,Y=[x]/\g x=.ok d M':=by
 match Y,h with
 |[x],h=>exact⟨x,rfl,h⟩|[],h=>cases h|_::_::_,h=>cases h
def acw{c:Prop}[Decidable c]{r:Res α}(h:(if c then r else .bad)=.ok d M'):c/\r=.ok d M':=by
 by_cases z:c
 .rw[dj z]at h;exact⟨z,h⟩
 .rw[cj z]at h;cases h
def ty_list{X:Cx}(S:m9 nm X.K Z H M)(r:Rep X.K Z H x v)(h:(MW.gr M x).isSome=true):tyV X.K "list" v H:=by obtain⟨J,G⟩:=qp.mp h;obtain⟨p,Y,rfl,T,_⟩:=uz S r G;exact .inl ⟨rfl,Y,J2.of T⟩
def axc(e:MW.Ks .index x ds M=.ok d M'):∃Z U j,ds=[Z]/\MW.gr M x=some U/\MW.ad1 M Z U=some j/\d=.int ((j:Nat):Int)/\M'=M:=by obtain⟨Z,rfl,C⟩:=acv e;obtain⟨Y,B⟩:=yz C;obtain⟨j,J,T⟩:=dg.mp Y;obtain⟨U,O,G⟩:=ik.mp J;exact⟨Z,U,j,rfl,O,G,T.symm,B⟩
def aq0:MtR X "list.append" (rM nm X.K .append):=λY s F H v vs u D Q I A C W=>by
 obtain⟨ι,M,x,ds,d,M',S,r,E,e,q⟩:=W;obtain⟨n,xs,rfl,G,N⟩:=ajl e;obtain⟨d0,rfl,Z⟩:=acv N;obtain⟨P,R⟩:=acw Z;cases R;cases r with
 |ref J =>
  obtain⟨T,h3,B⟩:=S.obj n _ _ G J;cases E with
  |cons O V =>
   cases V;refine aau Y s F H _ _ u D Q I A C ⟨_,T,_,rfl,rfl,h3,by rw[<-B.length];exact iz P (by decide),?_⟩;obtain⟨L,U⟩:=S.put (u:=.lst (T++[_])) (o:=.lst (xs++[_])) G J λle=>⟨_,yg,(B.mono le).append (.cons (O.mono le) .nil)⟩
   exact q _ _ _ U L .non
def aq1:MtR X "list.extend" (rM nm X.K .extend):=λY s U H v vs u us Q I ru L Z=>by
 obtain⟨ι,M,x,ds,d,M',S,r,V,e,q⟩:=Z;obtain⟨n,xs,rfl,J,E⟩:=ajl e;obtain⟨y,rfl,C⟩:=acv E;cases y with
 |vl R =>
  obtain⟨F,A⟩:=acw C;cases A;cases r with
  |ref B =>
   obtain⟨T,h3,O⟩:=S.obj n _ _ J B;cases V with
   |cons N D =>
    cases D;cases N with
    |vl W _ G =>
     refine alv Y s U H _ _ u _ Q I ru L ⟨_,_,T,_,rfl,rfl,h3,W,by rw[<-O.length,<-G.length];exact yq (Yr F),?_⟩;obtain⟨P,Bc⟩:=S.put (u:=.lst (T++_)) (o:=.lst (xs++R)) J B λle=>⟨_,yg,(O.mono le).append (G.mono le)⟩
     exact q _ _ _ Bc P .non
 |_=>cases C
def acx:∀{bs:List Bool}{j:Nat},bs.findIdx? id=some j->bs[j]?=some true/\∀m,m<j->bs[m]?=some false:=fun{bs j} h=>by obtain⟨Y,G,J⟩:=q9.mp h;refine⟨by rw[bx Y];simpa using G,λm T=>?_⟩;have:=J m T;rw[bx (d_ T Y)];simpa using this
def axd(hr:Bj 8 X.A):MtR X "list.index" (rM nm X.K .index):=λC s σ H v vs u us Q I ru U hh=>by
 obtain⟨ι,M,x,ds,d,M',S,r,rs,e,q⟩:=hh;obtain⟨d0,xs,j,rfl,e1,e2,rfl,rfl⟩:=axc e;cases rs with
 |cons D ht =>
  cases ht;cases U with
  |cons hu B =>
   cases B;obtain⟨bs,E,e4⟩:=ik.mp (show(MW.Q4 M' d0 xs).bind (·.findIdx? id)=some j from e2);obtain⟨p,ys,rfl,hp,N⟩:=uz S r e1;cases ru;obtain⟨z,is,n,rv,P,O⟩:=I.alu hp;obtain⟨f,g1,Z⟩:=acu (A:=X.A.in1) I S ((hr.mono (by decide:7<=8)).in1) N rv D hu E;obtain⟨f1,f2⟩:=acx e4;have W:=(Qw E).1;have T:is.length=bs.length:=by rw[W,N.length,P]
   have L:j<is.length:=by rw[T];exact(ao.mp f1).1
   have V:∀m (Y:m<is.length),bs[m]?=some (f is[m]):=λm Y=>Z m _ (bx Y)
   have hT:s.TypeIs (.ref p) "list":= ⟨_,O,rfl⟩;have G:is.length<=sizeLine:=by rw[<-P];exact z
   rw[t8]at G;refine call_meetsIn F.slot_list_index hT F.entry_list_index (F.args_list_index_2 _ _) (λA R s h=>SeqAt.list_indexAt p is.toArray n none #[] _ f j (by simpa using L) (by lia) ?_ ?_ _ _ A R s h) ⟨O,g1,?_⟩
   .have:=V j L;rw[f1]at this;simpa using(lg this).symm
   .intro m Y J
    have Y:m<is.length:=by simpa using Y
    have:=V m Y;rw[f2 m J]at this;simpa using(lg this).symm
   .exact⟨.int j,H,I.tok _,⟨_,rfl⟩,q ι H _ (Le.refl _ _) S (.int _)⟩
end Sm
namespace Xe
open PySem L2
def SmK(k:List Key):Prop:=∃i j:Int,-1<=i/\i<9/\-1<=j/\j<9/\k=[.inl i,.inl j]
noncomputable def ajm(i j:Int):Int:=reduceHash (Builtin.Tuple.tupleHashOf [hashInt i,hashInt j])
noncomputable def rgI:List Int:=[-1,0,1,2,3,4,5,6,7,8]
def aq2:(rgI.all λi=>rgI.all λj=>rgI.all λU=>rgI.all λZ=>(ajm i j != ajm U Z)||(i==U&&j==Z))=true:=by decide+kernel
def acy(Y:-1<=i)(T:i<9):i∈rgI:=by
 have:i=-1\/i=0\/i=1\/i=2\/i=3\/i=4\/i=5\/i=6\/i=7\/i=8:=by lia
 unfold rgI;simp only[dh,vq,or_false];exact this
def aq3{P:Program}(h:SmK k)(E:SmK k')(e:tupleKeyHash (qg P w) k=tupleKeyHash (qg P w) k'):k=k':=by obtain⟨i,j,J,T,L,B,rfl⟩:=h;obtain⟨Y,j',C,G,N,O,rfl⟩:=E;have e:ajm i j=ajm Y j':=e;have:=jf.mp (jf.mp (jf.mp (jf.mp aq2 i (acy J T)) j (acy L B)) Y (acy C G)) j' (acy N O);rw[e]at this;simp at this;rw[this.1,this.2]
def ahx(Y:IsTupleKey (qg prog w) s.heap Z a)(h:Q false s):wpAny (model prog w) A (Builtin.Dict.quietEq (.ref a)) Q E s:=by
 unfold Builtin.Dict.quietEq;refine aa (wpAny_specialOf Y.typeIs F.slot_tuple_eq.lookup ?_);refine aj ?_;have:(some (Value.builtin "tuple.__eq__")==some (Value.builtin "object.__eq__"))=false:=by decide
 rw[this];exact h
def aq4{G:List (List Key×Addr×Value)}(C:(G.map (·.1)).Nodup)(Y:∀x∈G,SmK x.1)(T:x∈G) :
 ((G.map (entryOfKey (tupleKind (qg prog w)))).filter (·.hash==tupleKeyHash (qg prog w) x.1)).length<=1:=by
 induction G with
 |nil=>simp
 |cons y P E =>
  rw[gq,uf]at C;rw[gq]
  by_cases L:tupleKeyHash (qg prog w) y.1=tupleKeyHash (qg prog w) x.1
  .have e:=aq3 (Y y fc) (Y x T) L
   have none:(P.map (entryOfKey (tupleKind (qg prog w)))).filter (·.hash==tupleKeyHash (qg prog w) x.1)=[]:=by rw[List.filter_eq_nil_iff];intro z O N;obtain⟨B,J,rfl⟩:=bf.mp O;have N:tupleKeyHash (qg prog w) B.1=tupleKeyHash (qg prog w) x.1:=eq_of_beq (show(tupleKeyHash (qg prog w) B.1==tupleKeyHash (qg prog w) x.1)=true from N);have:=aq3 (Y B (bw _ J)) (Y x T) N;exact C.1 (bf.mpr ⟨B,J,this.trans e.symm⟩)
   rw[An,none];split<;>simp
  .rw[An,cj (by show ¬((tupleKeyHash (qg prog w) y.1==tupleKeyHash (qg prog w) x.1)=true);simpa using L)]
   rcases dh.mp T with rfl|T
   .exact absurd rfl L
   .exact E C.2 (λz O=>Y z (bw _ O)) T
def afn{id:String}{T:List (List Key×Addr×Value)}(P:s.heap.get? d=some o)(S:o.data=.dict Z U)(J:Z.toList=T.map (entryOfKey (tupleKind (qg prog w))))(H:∀x∈T,IsTupleKey (qg prog w) s.heap x.1 x.2.1)(L:(T.map (·.1)).Nodup)(N:∀x∈T,SmK x.1)(h:Q Z s) :
 wpAny (model prog w) A (Builtin.Dict.entriesForEmpty id d) Q E s:=by
 unfold Builtin.Dict.entriesForEmpty;refine aa (uo P S ?_);refine aa ?_;rw[<-Array.forIn_toList];refine qj _ (λY _ B=>B=s/\∀e∈Y,∃x∈T,e=entryOfKey (tupleKind (qg prog w)) x) _ ?_ ?_ _ _ ⟨rfl,λe O=>?_⟩
 .rintro e Y r B ⟨rfl,C⟩
  obtain⟨x,G,rfl⟩:=C e fc;show wpAny _ _ (Builtin.Dict.quietEq (.ref x.2.1)>>=_) _ _ _;refine aa (ahx (H x G) ?_);simp only[Ag,lz];have R:=aq4 (prog:=prog) (w:=w) L N G;rw[cj (by
   intro V;have:(Z.filter (·.hash==(entryOfKey (tupleKind (qg prog w)) x).hash)).size=((T.map (entryOfKey (tupleKind (qg prog w)))).filter (·.hash==tupleKeyHash (qg prog w) x.1)).length:=by rw[<-J,<-u9,Array.toList_filter];rfl
   exact l_ V (a_ (f_ this) R))]
  exact aj ⟨rfl,λe J=>C e (bw _ J)⟩
 .rintro b B ⟨rfl,_⟩
  exact aj h
 .rw[J]at O
  obtain⟨x,G,rfl⟩:=bf.mp O;exact⟨x,G,rfl⟩
def bbr{prog:Program}{w:World}{h Y:Heap}{T:List Key}{p a:Addr}(x:IsTupleKey (qg prog w) h T p)(G:∀b o,h.get? b=some o->Y.get? b=some o):IsTupleKey (qg prog w) Y T p:=
 let ⟨o,items,n,ho,r⟩:=x;⟨o,items,n,G p o ho,r⟩
def bbs(D:(d==sysModules)=false)(hd:s.heap.DictOfH (tupleKind (qg prog w)) d Z)(hs:∀x∈Z,SmK x.1)(K:Z.length<=sizeLine)(h:∀U,U.DictOfH (tupleKind (qg prog w)) s.heap.objs.size Z->(∀b o,s.heap.get? b=some o->U.get? b=some o)->Q (.ref s.heap.objs.size) { s with heap:=U }) :
 wpAny (model prog w) A (call (.type "dict") [.ref d]) Q E s:=by
 refine callType_codes (Q₁:=λH N=>H=.ref s.heap.objs.size/\N={ s with heap:=s.heap.push { cls:=.type "dict",data:=.dict #[] } }) F.kt_called_dict (F.kt_typeCall_dict_1 _) F.entry_dict_init (kt_code_dict_new _ ⟨rfl,rfl⟩) ?_;rintro H N ⟨rfl,rfl⟩;have qv:=hd.typeIs;obtain⟨od,T,q0,L,I,O,C,qk,P⟩:=hd;have keep:∀b o,s.heap.get? b=some o->(s.heap.push { cls:=.type "dict",data:=.dict #[] }).get? b=some o:=λb o e=>au _ e
 have J:(s.heap.push { cls:=.type "dict",data:=.dict #[] }).get? s.heap.objs.size=some { cls:=.type "dict",data:=.dict #[] }:=cu _ rfl;have V:Shared.TypeIs { s with heap:=s.heap.push { cls:=.type "dict",data:=.dict #[] } } (.ref s.heap.objs.size) "dict":= ⟨_,J,rfl⟩;have R:Shared.TypeIs { s with heap:=s.heap.push { cls:=.type "dict",data:=.dict #[] } } (.ref d) "dict":= ⟨od,keep _ _ L,I.1⟩;have B:=keep _ _ L;have M:s.heap.objs.size≠d:=λe=>absurd (bu L) (by rw[e];exact uc _)
 have G:T.size=Z.length:=size_of_entries C;refine⟨V,F.args_dict_init_2 _ _,?_⟩;unfold Builtin.«dict.__init__»;refine aa ?_;unfold Builtin.Dict.selfAndRest;refine aa (wpAny_notOrdered_dict V ?_);show wpAny _ _ (pure (s.heap.objs.size,[Value.ref d])) _ _ _;refine aj ?_;show wpAny _ _ (Builtin.Dict.updateFrom "dict.__init__" s.heap.objs.size (.ref d) [] .none) _ _ _;unfold Builtin.Dict.updateFrom;refine aa (vo R ?_);rw[cj (by decide)];refine aa ?_;unfold Builtin.Dict.merge;refine aa ?_;unfold Builtin.Dict.readDirectly;refine aa (o5 R isSubtype_dict_dict ?_);simp only[qz,du,jq];refine aa (wpAny_specialOf R F.slot_dict_iter.lookup (aj ?_));simp only[Aq,lz];refine aa (aj ?_);unfold Builtin.Dict.mergeDict;rw[cj (by simpa using M)];unfold Builtin.Dict.showsAll;rw[cj (by rw[D];exact jo)];refine aa (aj ?_);refine aa (uo B O ?_);have kk:∀{U:Heap},(∀b o,s.heap.get? b=some o->U.get? b=some o)->∀x∈Z,(tupleKind (qg prog w)).is U x.1 x.2.1:=λhk x X=>bbr (a:=d) (qk x X) hk
 have S:T=#[]->∀s',s'={ s with heap:=s.heap.push { cls:=.type "dict",data:=.dict #[] } }->wpAny (model prog w) A.in1.in1 (Builtin.Dict.addKeywords s.heap.objs.size []>>=λ_=>ret Value.none) (λfin s'=>match fin with|.done f=>wants (λr Y=>r=Value.none/\Q (.ref s.heap.objs.size) Y) E (.ok f) s'|.again c'=>c'.quiet=true/\codeAny (model prog w) A.in1 c' (wants (λr Y=>r=Value.none/\Q (.ref s.heap.objs.size) Y) E) s') (λe s'=>wants (λr Y=>r=Value.none/\Q (.ref s.heap.objs.size) Y) E (.error e) s') s':=λW s' Qs=>by have qq:Z=[]:=ue.mp (by rw[<-G,W];rfl);subst Qs;refine aa (aj (aj ⟨rfl,h _ ⟨_,#[],0,J,⟨rfl,rfl,rfl⟩,rfl,?_,kk keep,P⟩ keep⟩));rw[qq];rfl
 dsimp only;split
 .refine aa (uo J rfl ?_)
  rw[dj (show(#[]:Array DictEntry).isEmpty=true from rfl)];refine aa (afn B O C (kk keep) P hs ?_);split
  .refine aa (wpAny_updateDictKeysTo J rfl (aj ?_) (by show T.size<=_;exact a_ (f_ G) (a_ K x_)))
   have Yw:∀b o,s.heap.get? b=some o->((s.heap.push { cls:=.type "dict",data:=.dict #[] }).update s.heap.objs.size (Obj.mapDictKeys λ_=>T)).get? b=some o:=λb o e=>by rw[vh _ _ (km (gh (bu e)))];exact keep b o e
   refine aa (aj (aj ⟨rfl,h _ ⟨_,T,0+1,o6 _ J (Obj.isFreed_of_dict (Obj.data_mapDictKeys rfl _)),⟨rfl,rfl,rfl⟩,Obj.data_mapDictKeys rfl _,C,kk Yw,P⟩ Yw⟩))
  .rename_i Wx
   exact aj (S (Array.isEmpty_iff.mp (by simpa using Wx)) _ rfl)
 .rename_i hf
  have W:T=#[]:=by
   apply xg;intro Wx;have X:Z≠[]:=λe=>Wx (Array.eq_empty_of_size_eq_zero (by rw[G,e];rfl))
   obtain⟨x,ys,rfl⟩:=List.exists_cons_of_ne_nil X;have G7:(T.all λe=>(keyPart e.key).isSome)=true:=by simp only[Bool.not_eq_true',Bool.not_eq_false,az]at hf;exact hf.2
   rw[<-Array.all_toList,C,gq,List.all_cons,az]at G7;exact Bool.noConfusion (G7.1:(keyPart (.ref x.2.1)).isSome=true)
  refine aa (wpAny_dictEpoch B O ?_);refine aa (uo B O ?_);refine aa ?_;rw[W,Std.Legacy.Range.forIn_eq_forIn_range'];simp only[Std.Legacy.Range.size,gm,List.length_nil,Nat.sub_zero,u5,Nat.sub_self,Nat.div_one,List.range'_zero,List.forIn_nil];exact aj (aj (S W _ rfl))
end Xe
namespace Sm
open PySem L2
open MW (Ex Ez OEx Q8 De ql Lv Tg Res dz MO Jy Cp Op2 Blt Bm Kx Src)
set_option tactic.hygienic true in
def axe(h:MW.U5 l=true):∀k∈l.map (·.1),Xe.SmK k:=λk T=>by
 obtain⟨p,B,rfl⟩:=bf.mp T;simp only[MW.U5,jf]at h;have:=h p B;split at this
 .rename_i i j e
  simp only[az,f9]at this;exact⟨i,j,this.1.1.1,this.1.1.2,this.1.2,this.2,e⟩
 .cases this
def a4u{X:Cx}(S:m9 nm X.K Z H M)(Y:H p=none)(r:xf X.K Z H (λk k'=>k=k') U l) :
 m9 nm X.K (Z.add p) (upd H p (.dT l)) (M++[.dT U])/\Le Z H (Z.add p) (upd H p (.dT l))/\Rep X.K (Z.add p) (upd H p (.dT l)) (.ref M.length) (.ref p):=by
 obtain⟨T,le⟩:=S.new (H':=upd H p (.dT l)) (o:=.dT U) Y (λa u e=>by rw[o7 (o8 e Y)];exact e) λle=>⟨l,yg,r.mono le⟩
 exact⟨T,le,.ref (by show(Z.l++[p])[M.length]?=some p;rw[<-S.len];simp)⟩
def a4v:Dh X (.type "dict") (rB nm X.K .dict):=λO s σ H vs us Q I R hh=>by
 obtain⟨ι,M,ds,d,M',S,r,e,q⟩:=hh;cases r with
 |nil=>simp[MW.qm]at e
 |@cons x v _ _ h t =>
  cases t with
  |cons J t2=>cases x<;>simp[MW.qm]at e
  |nil =>
   cases R with
   |cons ru U =>
    cases U;cases h with
    |@ref n p hp =>
     cases ru;have e:(match M[n]? with|some (.dT T)=>if MW.U5 T then MW.new (.dT T) M else .bad|_=>.bad)=.ok d M':=e;split at e
     .rename_i T F
      split at e
      .rename_i hs
       cases e;obtain⟨l,h1,J⟩:=S.obj n _ p F hp;obtain⟨z,G,L,Y,dd⟩:=ap6 I.Bq h1;obtain⟨N,k2⟩:=ajk Y;have hl:L.length=l.length:=by have:=qt List.length N;simpa using this
       refine Xe.bbs G dd (λx W=>?_) (by rw[hl];exact z) λh' B keep=>?_
       .refine axe hs x.1 ?_
        rw[<-Yt J,<-N];exact bf.mpr ⟨x,W,rfl⟩
       .have C:H s.heap.objs.size=none:=I.Bq.fresh (bz _)
        obtain⟨A,Bc,D⟩:=a4u (X:=X) S C J;refine⟨.ref s.heap.objs.size,upd H s.heap.objs.size (.dT l),I.laid (a:=s.heap.objs.size) (o:=.dT l) (t':=s.toks) keep (bz _) ?_,rfl,q _ _ _ Bc A D⟩;obtain⟨o,es,V,g1,P,g3,E,g5,Z⟩:=B;exact⟨z,w6.mpr (km (gh I.big)),L,Y.keeps (λb ys e=>by rw[o7 (o8 e C)];exact e),o,es,V,g1,P,g3,E,Z⟩
      .cases e
     .cases e
    |_=>cases e
def ints_rep{R:Io}{H:Hp}{K:Fg}{Y:List Dv}{T:List V}{is:Zl}{ns:Xs}(a:qy K R H Y T)(b:Vals T is)(h:MW.Wz Y=some ns):∃Z:Array (Int×Tok),is.toArray=intItems Z/\Z.toList.map (·.1)=ns:=by
 induction Y generalizing T is ns with
 |nil=>cases a;cases b;cases h;exact⟨#[],by simp[intItems],rfl⟩
 |cons d Y O =>
  cases a with
  |cons r t =>
   cases b with
   |cons S J =>
    cases r<;>simp only[MW.Wz]at h<;>try cases h
    obtain⟨C,B,N⟩:=dg.mp h;obtain⟨Z,L,P⟩:=O t J B;obtain⟨E,rfl⟩:=S;refine⟨#[(i,E)]++Z,?_,by simp[P,N]⟩;have G:=qt Array.toList L;apply Array.toList_inj.mp;simp[intItems]at G⊢;exact G
theorem afo:∀(l:Xs)(z m:Int),(m=z\/m∈l)->z<=m->(∀a∈l,a<=m)->l.foldl (λm x=>if m<x then x else m) z=m
 |[],z,m,h,_,_=>by rcases h with h|h;exact h.symm;cases h
 |a::l,z,m,h,hz,G7=>by
  rw[List.foldl_cons];have G:=G7 a fc;refine afo l _ m ?_ (by split<;>lia) (λb T=>G7 b (bw _ T));rcases h with h|h
  .subst h;left;split<;>lia
  .rcases dh.mp h with h|h
   .subst h
    by_cases Y:z<m
    .left;rw[dj Y]
    .left;rw[cj Y];lia
   .exact .inr h
def ajn(e:MW.two ds f g M=.ok d Z):Z=M/\((∃i j,ds=[.int i,.int j]/\d=.int (f i j))\/∃x m,ds=[x]/\g x=some m/\d=.int m):=by
 cases ds with
 |nil=>cases e
 |cons x r=>cases r with
  |nil =>
   obtain⟨Y,J⟩:=yz (show Res.v9 ((g x).map MW.D.int) M=.ok d Z from e);obtain⟨m,G,T⟩:=dg.mp Y;exact⟨J,.inr ⟨x,m,rfl,G,T.symm⟩⟩
  |cons y r=>cases r with
   |nil =>
    cases x<;>try cases e
    cases y<;>cases e;exact⟨rfl,.inl ⟨_,_,rfl,rfl⟩⟩
   |cons _ _=>cases e
def aq6{h:List Int->Option Int}(e:MW.two ds f (λd=>((MW.gr M d).bind MW.Wz).bind h) M=.ok d M'):M'=M/\((∃i j,ds=[.int i,.int j]/\d=.int (f i j))\/∃x U n Z m,ds=[x]/\MW.gr M x=some U/\MW.Wz U=some (n::Z)/\h (n::Z)=some m/\d=.int m\/h []=some m):=by
 obtain⟨a,b|⟨x,m,C,T,G⟩⟩:=ajn e
 .exact⟨a,.inl b⟩
 .obtain⟨Z,B,Y⟩:=ik.mp T
  obtain⟨U,J,O⟩:=ik.mp B;cases Z with
  |nil=>exact⟨a,.inr ⟨x,U,0,[],m,.inr Y⟩⟩|cons n Z=>exact⟨a,.inr ⟨x,U,n,Z,m,.inl ⟨C,J,O,Y,G⟩⟩⟩
def Vl(h:Vals [v] Z):∃u,Z=[u]/\RelV v u:=L2.Vals.one h
def aa4(h:i<Z.size):(Z.toList.map (·.1))[i]?=some (numAt Z i):=by simp[numAt,h]
def best{Y:Array (Int×Tok)}{R:Int->Int->Prop}(J:Y.toList.map (·.1)=n::l)(h:b<Y.size)(O:∀i,i<Y.size->R (numAt Y i) (numAt Y b)):(numAt Y b=n\/numAt Y b∈l)/\∀a∈n::l,R a (numAt Y b):=by
 constructor
 .have:=bh (aa4 h)
  rw[J]at this;exact dh.mp this
 .intro a G
  rw[<-J]at G;obtain⟨i,T⟩:=vf.mp G;have B:i<Y.size:=by have:=(ao.mp T).1;simpa using this
  rw[aa4 B]at T;cases T;exact O i B
def ajo(r:qy K U H [.int i,.int j] Z):Z=[.int i,.int j]:=by
 cases r with
 |cons G Y=>cases Y with
  |cons T t2=>cases t2;cases G;cases T;rfl
def axf(I:Inv X pins σ H s)(S:m9 nm X.K ι H M)(r:qy X.K ι H [x] vs)(E:Vals vs U)(J:MW.gr M x=some xs)(N:MW.Wz xs=some (n::ns)):∃a Z,U=[.ref a]/\s.heap.IsList a (intItems Z)/\Z.toList.map (·.1)=n::ns/\0<Z.size:=by obtain⟨v,rfl,P⟩:=Kp r rfl;obtain⟨u,rfl,B⟩:=Vl E;obtain⟨p,R,rfl,G,C⟩:=uz S P J;cases B;obtain⟨is,Y,O,_⟩:=I.list (J2.of G);obtain⟨Z,L,T⟩:=ints_rep C Y N;refine⟨_,Z,rfl,by rw[<-L];exact O.isList,T,?_⟩;have:=qt List.length T;simp at this;lia
def bbt(O:X.calm=true):Dh X (.builtin "max") (rB nm X.K .max):=λY s D H vs Z Q I G A=>by
 obtain⟨J,M,ds,d,M',S,r,e,q⟩:=A;obtain⟨rfl,⟨i,j,rfl,rfl⟩|⟨x,xs,n,l,m,⟨rfl,E,U,T,rfl⟩|T⟩⟩:=aq6 (h:=MW.a1b) e
 .cases ajo r
  exact alk O Y s D H _ Z Q I G ⟨i,j,rfl,q J H _ (Le.refl _ _) S (.int _)⟩
 .obtain⟨a,C,rfl,P,N,V⟩:=axf I S r G E U
  refine max_intList (I.ok.hd O) P V λw h' tk L keep=>?_
  obtain⟨t,rfl⟩:=intItems_at L;obtain⟨b1,F⟩:=argBest_gt (numAt C) (C.size-1);obtain⟨W,B⟩:=best (R:=(·<=·)) N (by omega) λi hi=>F i (by lia)
  cases T;rw[afo l n _ W (B n fc) λa h=>B a (bw _ h)]at q;exact⟨.int _,H,I.kept keep,⟨t,rfl⟩,q J H _ (Le.refl _ _) S (.int _)⟩
 .cases T
def afp(n d:Nat)(o:Option Int):HT.sIx n d o=MW.clip n d o:=by
 cases o with
 |none=>rfl
 |some i =>
  show(if i<0 then(i+(n:Int)).toNat else min i.toNat n)=(if 0<=i then min i.toNat n else(i+(n:Int)).toNat)
  by_cases h:i<0
  .rw[dj h,cj (by lia)]
  .rw[cj h,dj (by lia)]
def tO(B:Nm)(W:Jy)(K:Fg)(o:OEx):TO:=λC H Q=>∃G O M d J,m9 B K G H M/\yd K G H O C/\o.den W O M=.ok d J/\∀Y T,Le G H Y T->m9 B K Y T J->Q d T
def PO.weak(h:PO X e t)(w:∀Z H Q,t' Z H Q->t Z H Q):PO X e t':=λY s Z H Q I q=>h Y s Z H Q I (w Z H Q q)
def PO.of(h:PO X e t)(w:∀σ H Q U ρ M d M',m9 nm X.K U H M->yd X.K U H ρ σ->o'.den W ρ M=.ok d M'->(∀Z H',Le U H Z H'->m9 nm X.K Z H' M'->Q d H')->t σ H Q):PO X e (tO nm W X.K o'):=PO.weak h fun σ H Q z_=>by obtain⟨U,ρ,M,d,M',S,R,e,q⟩:=z_;exact w σ H Q U ρ M d M' S R e q
def axg:PO X none (tO nm W X.K .none):=PO.of awl λJ H Q Y G M d T S R e q=>by rw[MW.ak4]at e;cases e;exact q Y H (Le.refl _ _) S
set_option tactic.hygienic true in
def axh(L:PE X a (tE nm W X.K Z)):PO X (some a) (tO nm W X.K (.some Z)):=PO.of (awm L) λA H Q I F M d E S R e q=>by rw[MW.ak5]at e;obtain⟨x,P,B,e⟩:=gw e;split at e<;>cases e;rename_i i;exact one S R B λT N v le O V r=>by cases r;exact⟨i,rfl,q T N le O⟩
def bbu(f:PE X a (tE nm W X.K a'))(b:PO X lo (tO nm W X.K Z))(hh:PO X U (tO nm W X.K Zq)):PE X (.Subscript a (.Slice lo U none p2) pos) (tE nm W X.K (.cut a' Z Zq)):=
 PE.of (aqd awo f b hh) fun σ H Q ι A M d u S R e q=>by
  rw[MW.avb]at e;obtain⟨x,M1,m,e⟩:=gw e;obtain⟨l,I,e2,e⟩:=gw e;obtain⟨h,M3,e3,e⟩:=gw e;obtain⟨i,e5⟩:=yz e;subst e5;refine one S R m λV H1 v le o F r=>⟨V,A,M1,l,I,o,F,e2,λE H2 P s=>⟨E,A,I,h,_,s,F.mono P,e3,λO j T g=>?_⟩⟩
  have k:=(r.mono P).mono T;have fin:=λC H' w L n c=>q C H' w (((le.trans P).trans T).trans L) n c
  have lst:∀Y,MW.gr u x=some Y->d=.vl (MW.ag2 Y l h)->bac X.K v l h j Q:=λY J G=>by
   obtain⟨p,z,rfl,hp,y⟩:=uz g k J;refine⟨p,z,rfl,J2.of hp,λp' B=>?_⟩;have:qy X.K O j (MW.ag2 Y l h) (als z l h):=by unfold MW.ag2 als;rw[afp,afp,<-y.length];exact(y.drop _).take _
   obtain⟨S4,N,t⟩:=ack (X:=X) g B this;subst G;exact fin _ _ _ N S4 t
  obtain⟨Y,J,G⟩:=dg.mp (show(MW.gr u x).map (λY=>MW.D.vl (MW.ag2 Y l h))=some d from i);exact lst Y J G.symm
def afq(K:Fg)(T:String):PySem.W.kitOne K (.type T) (.type T)=some true:=by unfold PySem.W.kitOne;rw[dj (by simp)]
def bbv{bt bi:Option Bool}(ht:∀b,bt=some b->PySem.W.kitOne X.K (.type "tuple") (.type T)=some b)(D:∀b,bi=some b->PySem.W.kitOne X.K (.type "int") (.type T)=some b)(hb:∀d M,MW.qm t [d] M=MW.isR bt bi M d)(hg:Gl X n)(hm:X.mg n=none)(hv:bootBuiltins n=some (.builtin "isinstance"))(hn:n≠"__name__")(Tn:(n==("__debug__": Str))=false)(E:Gl X Z)(N:X.mg Z=none)(F:bootBuiltins Z=some (.type T))(Wy:Z≠"__name__")(V:(Z==("__debug__": Str))=false)(ha:PE X a (tE nm W X.K a'))(he:starEach [a,.Name Z U] X.env=(false,eval a X.env)::starEach [.Name Z U] X.env)(L:starEach [.Name Z U] X.env=(false,eval (.Name Z U) X.env)::starEach [] X.env)(J6:(backTo pos (starEach [.Name Z U] X.env)).any (·.1)=false):PE X (.Call (.Name n p) [a,.Name Z U] [] pos) (tE nm W X.K (.blt t (.cons a' .nil))):=by
 intro J s σ H Q I hh;obtain⟨ι,ρ,M,d,M',S,R,e,q⟩:=hh;rw[MW.W3]at e;obtain⟨ds,A,O,e⟩:=gw e;rw[MW.Ik]at O;obtain⟨x,M2,e2,O⟩:=gw O;rw[MW.T4]at O;cases O;refine jm (Dy I hg hm hv ?_ hn Tn);refine xq (Q:=EP X J σ Q) ?_ he J6;rw[he];show wpAny _ _ (spliced ((false,eval a X.env)::backTo pos (starEach [.Name Z U] X.env))) _ _ s;refine mq (Qu (ha J s σ H (λv G=>∃Y,Le ι H Y G/\m9 nm X.K Y G A/\Rep X.K Y G x v) I ⟨ι,ρ,M,x,A,S,R,e2,λY G v le B r=>⟨Y,le,B,r⟩⟩) λu s1 v G I1 P z_=>?_);obtain⟨Y,le,B,r⟩:=z_;rw[L];show wpAny _ _ (spliced ((false,eval (.Name Z U) X.env)::backTo pos (starEach [] X.env))) _ _ s1;refine mq (Dy I1 E N F ?_ Wy V);refine uh ?_;have e:MW.qm t [x] A=.ok d M':=e;rw[hb]at e;obtain⟨e4,rfl⟩:=yz e;obtain⟨b,C,rfl⟩:=dg.mp e4;cases r with
 |tup h r=>exact Vi I1 P (.tup h) (ht b C) λtk=>⟨.bl b,G,I1.tok _,rfl,q Y G _ le B (.bl b)⟩
 |int i=>exact Vi I1 P (.int i) (D b C) λtk=>⟨.bl b,G,I1.tok _,rfl,q Y G _ le B (.bl b)⟩
 |sy h=>exact Vi I1 P (.int _) (D b C) λtk=>⟨.bl b,G,I1.tok _,rfl,q Y G _ le B (.bl b)⟩
 |_=>cases C
def bbw(C:X.calm=true):Dh X (.builtin "min") (rB nm X.K .min):=λY s G H E T Q I O B=>by
 obtain⟨N,M,P,d,L,S,r,e,q⟩:=B;obtain⟨rfl,⟨i,j,rfl,rfl⟩|⟨x,m,_,J,_⟩⟩:=ajn e
 .cases ajo r
  exact alm C Y s G H _ T Q I O ⟨i,j,rfl,q N H _ (Le.refl _ _) S (.int _)⟩
 .cases J
def Z4{n:Nat}(hh:A.handled=none)(I:IsRange s.heap r a b c t u v)(Yx:Builtin.Range.small a b c=true)(H:Builtin.Range.rangeSize a b c=n)(B:n<=2^24)(K:∀(U:Heap) (tk:Nat) (Z:U1),(∀b o,s.heap.get? b=some o->U.get? b=some o)->ItemsOf (λi v=>∃t,v=.int (a+i*c) t) Z n->Q Z.toList { s with heap:=U,toks:=tk }):wpAny (model prog w) A (collect (.ref r)) Q E s:=by
 unfold collect;refine aa (wpAny_runValue (p7 F.entry_proto_collect ?_));rw[m5 F.plain_proto_collect _];show wpAny _ A.in1 (newList []>>=λl=>again (.builtin "list.__iadd__" ⟨[l,.ref r],[]⟩)) _ _ s;refine aa (uq ?_);refine aj ⟨plainId_quiet F.plain_list_iadd _,p7 F.entry_list_iadd ?_⟩;rw[m5 F.plain_list_iadd _];show wpAny _ A.in1 (Builtin.List.listExtendWith (.ref s.heap.objs.size) (.ref r) (.ref s.heap.objs.size)) _ _ _;have keep:∀b o,s.heap.get? b=some o->(s.heap.push { cls:=.type "list",data:=.seq ([]:Zl).toArray }).get? b=some o:=λb o e=>au _ e
 have P:(s.heap.push { cls:=.type "list",data:=.seq ([]:Zl).toArray }).get? s.heap.objs.size=some { cls:=.type "list",data:=.seq #[] 0 }:=cu _ rfl;have ext:=wpAny_extend_range (prog:=prog) (w:=w) (A:=A) (R:=λJ s'=>∃(U:Heap)(tk:Nat)(Z:U1)(Y:Nat),J=.ok (.ret (.ref s.heap.objs.size))/\s'={ s with heap:=U,toks:=tk }/\(∀b o,s.heap.get? b=some o->U.get? b=some o)
 /\U.get? s.heap.objs.size=some { cls:=.type "list",dict:=none,data:=.seq Z Y,slots:=#[] }/\ItemsOf (λi v=>∃t,v=.int (a+i*c) t) Z n)
  (s:={ s with heap:=s.heap.push { cls:=.type "list",data:=.seq ([]:Zl).toArray } }) hh (keep _ _ I) Yx H B s.heap.objs.size (.ref s.heap.objs.size) 0 P
  λU tk Z Y M W Gi=>⟨U,tk,Z,Y,rfl,rfl,λb o e=>M b o (gh (bu e)) (keep b o e),W,Gi⟩
 have T:∀{J:Result}{s':Shared},(∃(U:Heap)(tk:Nat)(Z:U1)(Y:Nat),J=.ok (.ret (.ref s.heap.objs.size))/\s'={ s with heap:=U,toks:=tk }/\(∀b o,s.heap.get? b=some o->U.get? b=some o)
 /\U.get? s.heap.objs.size=some { cls:=.type "list",dict:=none,data:=.seq Z Y,slots:=#[] }/\ItemsOf (λi v=>∃t,v=.int (a+i*c) t) Z n)->∃(U:Heap)(tk:Nat)(Z:U1)(Y:Nat),J=.ok (.ret (.ref s.heap.objs.size))/\s'={ s with heap:=U,toks:=tk }/\U.get? s.heap.objs.size=some { cls:=.type "list",dict:=none,data:=.seq Z Y,slots:=#[] }/\Q Z.toList s':=λz=>by obtain⟨U,tk,Z,Y,G,S,X,O,C⟩:=z;exact⟨U,tk,Z,Y,G,S,O,by rw[S];exact K U tk Z X C⟩
 refine j9 ext (λfin s' L=>?_) (λe s' V=>?_)
 .cases fin with
  |done f =>
   obtain⟨U,tk,Z,Y,G,rfl,O,C⟩:=T L;cases G;exact aa (wpAny_load O (aj C))
  |again Y =>
   refine⟨L.1,yc L.2 λJ D N=>?_⟩;obtain⟨U,tk,Z,Y,G,rfl,O,C⟩:=T N;subst G;exact aa (wpAny_load O (aj C))
 .obtain⟨_,_,_,_,G,_⟩:=T V
  cases G
def Vm{n:Nat}(B:A.handled=none)(G:IsRange s.heap r a b c t u v)(L:Builtin.Range.small a b c=true)(C:Builtin.Range.rangeSize a b c=n)(Y:n<=2^24)(h:∀(U:Heap) (tk:Nat) (acc:U1),(∀b o,s.heap.get? b=some o->U.get? b=some o)->ItemsOf (λi v=>∃t,v=.int (a+i*c) t) acc n->Z (.ref U.objs.size) { s with heap:=U.push { cls:=.type "tuple",data:=.seq acc },toks:=tk }) :
 codeAny (model prog w) A (.call (.builtin "tuple.__new__") ⟨[.type "tuple",.ref r],[]⟩) (wants Z E) s:=by
 refine codeAny_of_tree ?_;show wpAny _ A.in1 (do checkBuiltinCall "tuple.__new__" ⟨[.type "tuple",.ref r],[]⟩;again (.builtin "tuple.__new__" ⟨[.type "tuple",.ref r],[]⟩)) _ _ s;refine aa (wpAny_of_eq (F.newCall_tuple_1 _) (aj ⟨plainId_quiet F.plain_tuple_new _,p7 F.entry_tuple_new ?_⟩));rw[m5 F.plain_tuple_new _];have N:=sub_tuple_self;have O:=init_tuple_lookup;have P:=madeHere_tuple;have T:s.TypeIs (.ref r) "range":= ⟨_,G,rfl⟩
 wp_walk using vo T,Z4 (A:=A.in1) B G L C Y
 intro U tk acc R J;show wpAny _ _ (Builtin.Tuple.tupleExact acc.toList.toArray>>=λv=>ret v) _ _ _;unfold Builtin.Tuple.tupleExact;refine aa (uq ?_ (by show acc.toList.toArray.size<=sizeLine;simp only[Array.toArray_toList];rw[J.1,t8];exact Y));refine aj ?_;have e:acc.toList.toArray=acc:=by simp
 rw[e];exact h U tk acc R J
def Vn{n:Nat}(B:A.handled=none)(C:IsRange s.heap r a b c t u v)(N:Builtin.Range.small a b c=true)(O:Builtin.Range.rangeSize a b c=n)(J:n<=2^24)(L:∀(U:Heap) (tk:Nat) (Z:U1),(∀b o,s.heap.get? b=some o->U.get? b=some o)->ItemsOf (λi v=>∃t,v=.int (a+i*c) t) Z n->Q (.ref U.objs.size) { s with heap:=U.push { cls:=.type "tuple",data:=.seq Z },toks:=tk }) :
 wpAny (model prog w) A (call (.type "tuple") [.ref r]) Q E s:=by
 refine callType_codes (Q₁:=λG Y=>Y.TypeIs G "tuple"/\Q G Y) F.called_tuple (F.typeCall_tuple_1 _) F.entry_object_init
  (Vm (A:=A.in1) B C N O J λU tk Z P R=>⟨⟨_,cu _ rfl,rfl⟩,L U tk Z P R⟩) λG Y T=>?_
 exact⟨T.1,F.args_object_init_2 G _,object_init_meets F.called_tuple.init.lookup F.called_tuple.made (by decide) prog w A.in1 _ Y ⟨T.1,rfl,T.2⟩⟩
def Yy(h:ItemsOf (λi v=>∃t,v=.int (0+(i:Int)*1) t) acc n):Vals ((List.range n).map λ(k:Nat)=>V.int (k:Int)) acc.toList:=by
 have go:∀(l:Zl)(k:Nat),(∀(j:Nat)(v:Value),l[j]?=some v->∃t,v=Value.int ((k+j:Nat):Int) t)->Vals ((List.range' k l.length).map λ(k:Nat)=>V.int (k:Int)) l:=by
  intro l
  induction l with
  |nil=>intro k _;exact .nil
  |cons v l G =>
   intro k T;rw[iw,List.range'_succ,gq];refine .cons ?_ (G (k+1) λj v Y=>?_)
   .exact T 0 v rfl
   .obtain⟨t,e⟩:=T (j+1) v (by simpa using Y)
    exact⟨t,by rw[e];congr 1;lia⟩
 have:=go acc.toList 0 (λj v Y=>by
  obtain⟨t,e⟩:=h.2 j v (by simpa using Y);exact⟨t,by rw[e];congr 1;lia⟩)
 rw[u9,h.1,<-List.range_eq_range']at this;exact this
def Yz(n:Nat):qy K Z H ((List.range n).map λ(k:Nat)=>MW.D.int (k:Int)) ((List.range n).map λ(k:Nat)=>V.int (k:Int)):=by
 generalize List.range n=l
 induction l with
 |nil=>exact .nil|cons k l Y=>exact .cons (.int _) Y
set_option tactic.hygienic true in
def a4w(hr:Bj 8 X.A)(hg:Gl X n)(hm:X.mg n=none)(hv:bootBuiltins n=some (.type "tuple"))(hn:n≠"__name__")(Tn:(n==("__debug__": Str))=false)(y:Gl X Z)(F:X.mg Z=none)(qv:bootBuiltins Z=some (.type "range"))(Wy:Z≠"__name__")(qk:(Z==("__debug__": Str))=false)(ha:PA X [a] (Zm nm W X.K (.cons a' .nil)))(he:starEach [.Call (.Name Z p') [a] [] Y] X.env=(false,eval (.Call (.Name Z p') [a] [] Y) X.env)::starEach [] X.env)(J6:(backTo q1 (starEach [] X.env)).any (·.1)=false)(U:starEach [a] X.env=(false,eval a X.env)::starEach [] X.env)(qq:(backTo Y (starEach [] X.env)).any (·.1)=false) :
 PE X (.Call (.Name n p) [.Call (.Name Z p') [a] [] Y] [] q1) (tE nm W X.K (.Zu a')):=by
 intro T s P H Q I hh;obtain⟨ι,ρ,M,d,M',S,R,e,q⟩:=hh;rw[MW.ad8]at e;obtain⟨x,M1,e1,e⟩:=gw e;split at e<;>try cases e
 rename_i i;split at e<;>cases e;rename_i hi;refine jm (Dy I hg hm hv ?_ hn Tn);refine jx (Q:=EP X T P Q) ?_ he J6;rw[he];show wpAny _ _ (spliced ((false,eval (.Call (.Name Z p') [a] [] Y) X.env)::backTo q1 (starEach [] X.env))) _ _ s;refine mq ?_;refine jm (Dy I y F qv ?_ Wy qk);refine jx (Lb (ha Y T s P H (λC O=>∃B,C=[.int i]/\Le ι H B O/\m9 nm X.K B O M') I ⟨ι,ρ,M,[.int i],M',S,R,by simp[e1,Res.bind],λB O C le J r=>?_⟩) λus N ⟨C,O,I1,r1,B,D,W8,J⟩=>?_) U qq
 .obtain⟨v,D,rv⟩:=Kp r rfl
  cases rv;exact⟨B,D,le,J⟩
 subst D;obtain⟨u,rfl,ru⟩:=Vl r1;obtain⟨t,rfl⟩:=ru;refine call_range_1 ?_;show wpAny _ _ (spliced []) _ _ _;refine uh ?_;have keep:∀b o,N.heap.get? b=some o->(N.heap.push { cls:=.type "range",data:=.fields #[.int 0 N.toks,.int i t,.int 1 (N.toks+1)] }).get? b=some o:=λb o e=>au _ e
 refine Vn (n:=i.toNat) hr.hd (cu _ rfl) (small_one (by lia) (by lia) (by lia) (by omega)) (by rw[rangeSize_one];split<;>lia) (by lia) λL G E hk Gi=>?_
 have I2:Inv X T P O { N with heap:=L,toks:=G }:=I1.kept λb o e=>hk b o (keep b o e)
 have hz:((List.range i.toNat).map λ(k:Nat)=>V.int (k:Int)).length<=sizeLine:=by simp[t8];omega
 have hf:O L.objs.size=none:=I2.Bq.fresh (bz _);have I3:Inv X T P (upd O L.objs.size (.tup ((List.range i.toNat).map λ(k:Nat)=>V.int (k:Int)))) { N with heap:=L.push { cls:=.type "tuple",data:=.seq E },toks:=G }:=
  I2.laid (a:=L.objs.size) (t':=G) (λb o e=>au _ e) (bz _) (show Bt X.prog X.w _ _ _ (.tup _)from⟨hz,E.toList,Yy Gi,by simpa using L2.Yc.new _ _⟩)
 obtain⟨S2,Bc,r2⟩:=Nj (X:=X) J hf (Yz i.toNat);exact⟨.ref L.objs.size,_,I3,rfl,q B _ _ (W8.trans Bc) S2 r2⟩
end Sm
namespace EnT
open PySem PySem.Spec
open AutoSeq1 (wpAny_loadPart')
def afr(a:s.heap.IsTupleIter it t i)(b:s.heap.IsTuple t U)(e:U[i]?=some x)(q:∀Z,Z.IsTupleIter it t (i+1)->Heap.SameBut it s.heap Z->Q x { s with heap:=Z }):wpAny (model prog w) A (Builtin.SmallTypes.nextOf (.ref it)) Q E s:=by obtain⟨o,T,J,Y⟩:=id a;obtain⟨O,B,N,C,G⟩:=b;unfold Builtin.SmallTypes.nextOf;refine aa (m6 (name:=Str.ofString "__next__") a.typeIs v7 (jt v7 a.typeIs F.entry_tuple_iterator_next ?_ (F.args_tuple_iterator_next_1 _)));show wpAny _ _ (field (.ref it) 0>>=_) _ _ s;refine aa (ju T Y (x:=.ref t) rfl ?_);show wpAny _ _ (if(Value.ref t==Value.none)=true then _ else field (.ref it) 1>>=_) _ _ s;rw[cj (show ¬((Value.ref t==Value.none)=true)by exact jo)];refine aa (ju T Y (x:=.int i 0) rfl (aa (ur B G ?_)));simp only[wg,e];refine aa (wpAny_setField T Y (by simp) (aj ⟨x,rfl,aj (q _ ⟨_,o6 _ T (Obj.isFreed_of_fields (Obj.data_mapFields Y _)),(Obj.cls_mapFields ..).trans J,?_⟩ (jw ..))⟩));rw[Obj.data_mapFields Y];simp[rawInt]
def ajp(B:A.handled=none)(a:s.heap.IsTupleIter it t i)(b:s.heap.IsTuple t U)(e:U[i]?=none)(q:∀Z x,Heap.ExtBut it s.heap Z->(∃o,Z.get? x=some o/\o.cls=.type "StopIteration")->E (.ref x) { s with heap:=Z }):wpAny (model prog w) A (Builtin.SmallTypes.nextOf (.ref it)) Q E s:=by obtain⟨o,Y,N,T⟩:=id a;obtain⟨O,J,L,C,G⟩:=b;unfold Builtin.SmallTypes.nextOf;refine aa (m6 (name:=Str.ofString "__next__") a.typeIs v7 (jt v7 a.typeIs F.entry_tuple_iterator_next ?_ (F.args_tuple_iterator_next_1 _)));show wpAny _ _ (field (.ref it) 0>>=_) _ _ s;refine aa (ju Y T (x:=.ref t) rfl ?_);show wpAny _ _ (if(Value.ref t==Value.none)=true then _ else field (.ref it) 1>>=_) _ _ s;rw[cj (show ¬((Value.ref t==Value.none)=true)by exact jo)];refine aa (ju Y T (x:=.int i 0) rfl (aa (ur J G ?_)));simp only[wg,e];refine aa (o4 (aa (wpAny_setField Y T (by simp) ?_)));show wpAny _ _ (newExc (.type "StopIteration") []>>=raiseNew) _ _ _;exact Xe.aim B λZ x k e=>q Z x (λb o n z=>k b o ((jw ..).extBut b o n z)) e
def Ui{h Y:Heap}{i l k:Nat}(x:h.IsTupleIter i l k)(e:∀o,h.get? i=some o->Y.get? i=some o):Y.IsTupleIter i l k:=let ⟨o,a,b⟩:=x;⟨o,e o a,b⟩
def aq7{h:Heap}(x:h.IsTupleIter it a i):∃o,h.get? it=some o/\∀v,o.data≠.cell v:=by obtain⟨o,e,c,d⟩:=x;exact⟨o,e,λv z=>by rw[d]at z;cases z⟩
def axk{i:Nat}{Q:Y1}(R:IsEnum s.heap e it i old)(a:s.heap.IsTupleIter it t i)(c:s.heap.IsTuple t xs)(r:xs[i]?=some x)(W:e≠it)(q:∀Z,IsEnumOut Z e it ((i:Int)+1) x s.heap.objs.size->Z.IsTupleIter it t (i+1)->Z.get? s.heap.objs.size=some { cls:=.type "tuple",data:=.seq #[.int i s.toks,x] }->Z.objs.size=s.heap.objs.size+1 ->
 (∀y o,y≠e->y≠it->s.heap.get? y=some o->Z.get? y=some o)->Q (.ref s.heap.objs.size) { s with heap:=Z,toks:=s.toks+1 }) :
 wpAny (model prog w) A (Builtin.«enumerate.__next__» ⟨[.ref e],[]⟩) (λfin U=>∃v,fin=.done (.ret v)/\Q v U) E s:=by
 obtain⟨G,g,d,O,X⟩:=s;show wpAny _ _ (field (.ref e) 2>>=_) _ _ _;refine aa (ju R rfl (x:=.ref it) rfl (aa (afr a c r λh1 k J=>?_)));have J:Heap.SameBut it G h1:=J;have S:IsEnum h1 e it i old:=(J.2 e W).trans R;refine aa (ju S rfl (x:=rawInt i) rfl (aa (ju S rfl (x:=.none) rfl (aa (wpAny_mkInt ?_)))));show wpAny _ _ (setField (.ref e) 3 (rawInt ((i:Int)+1))>>=_) _ _ ⟨h1,g,d,O+1,X⟩;refine aa (jr S (by simp) λh2 I L=>?_);have L:Heap.SameBut e h1 h2:=L;have I:IsEnum h2 e it ((i:Int)+1) old:=I;refine aa (jr I (by simp) λh3 K N=>?_);have N:Heap.SameBut e h2 h3:=N;have K:IsEnum h3 e it ((i:Int)+1) old:=K;refine aa (wpAny_newTuple ?_);have D:h3.objs.size=G.objs.size:=by rw[N.1,L.1,J.1]
 obtain⟨Y,B⟩:∃Y,Y=h3.push { cls:=.type "tuple",data:=.seq #[.int i O,x] }:=⟨_,rfl⟩;have F:IsEnum Y e it ((i:Int)+1) old:=by rw[B];exact au _ K
 have j:Y.get? G.objs.size=some { cls:=.type "tuple",data:=.seq #[.int i O,x] }:=by rw[B,<-D];exact cu _ rfl
 have f:Y.objs.size=G.objs.size+1:=by rw[B,j7,D]
 have k3:∀y o,y≠e->h1.get? y=some o->Y.get? y=some o:=λy o T z=>by rw[B];exact au _ (N.extBut y o T (L.extBut y o T z))
 have m:Y.IsTupleIter it t (i+1):=Ui k λo z=>k3 it o (km W) z
 have lt:e<G.objs.size:=bu R
 show wpAny _ _ (Builtin.SmallTypes.ownedTupleIsFree (.ref e)>>=_) _ _ ⟨h3.push _,g,d,O+1,X⟩;rw[D,<-B];refine aa ?_;unfold Builtin.SmallTypes.ownedTupleIsFree;refine aa (ju F rfl (x:=.none) rfl (aj ?_));simp only[lz];refine aa (o4 (aa (ju F rfl (x:=old) rfl (aa (jr F (by simp) λh5 M P=>?_)))));have P:Heap.SameBut e Y h5:=P;have M:IsEnum h5 e it ((i:Int)+1) x:=M;refine aa ?_;unfold Builtin.SmallTypes.ownedTupleHandOut;refine aa (jr M (by simp) λh6 H C=>?_);have C:Heap.SameBut e h5 h6:=C;have H:IsEnumOut h6 e it ((i:Int)+1) x G.objs.size:=H;refine jr H (by simp) λh7 l s7=>?_
 have s7:Heap.SameBut e h6 h7:=s7;have V:∀y o,y≠e->Y.get? y=some o->h7.get? y=some o:=λy o T z=>s7.extBut y o T (C.extBut y o T (P.extBut y o T z))
 exact aa (wpAny_letGo (aj ⟨_,rfl,q h7 l (Ui m λo z=>V it o (km W) z) (V _ _ (yr lt) j) (by rw[s7.1,C.1,P.1,f]) λy o u p z=>V y o u (k3 y o u (J.extBut y o p z))⟩))
def axl{i:Nat}(Y:IsEnum s.heap e it i old)(a:s.heap.IsTupleIter it t i)(c:s.heap.IsTuple t U)(C:U[i]?=some x)(J:e≠it)(q:∀Z,IsEnumOut Z e it ((i:Int)+1) x s.heap.objs.size->Z.IsTupleIter it t (i+1)->Z.get? s.heap.objs.size=some { cls:=.type "tuple",data:=.seq #[.int i s.toks,x] }->Z.objs.size=s.heap.objs.size+1 ->
 (∀y o,y≠e->y≠it->s.heap.get? y=some o->Z.get? y=some o)->Q (some (.ref s.heap.objs.size)) { s with heap:=Z,toks:=s.toks+1 }):wpAny (model prog w) A (pyNext (.ref e)) Q E s:=by
 have T:s.TypeIs (.ref e) "enumerate":= ⟨_,Y,rfl⟩;unfold pyNext;refine aa (w5 (m6 (name:=Str.ofString "__next__") T yw (jt yw T F.entry_enumerate_next ?_ (F.args_enumerate_next_1 _))));exact axk Y a c C J λZ B L N G O=>aj (q Z B L N G O)
def axm{i:Nat}(C:A.handled=none)(Y:IsEnum s.heap e it i old)(a:s.heap.IsTupleIter it t i)(c:s.heap.IsTuple t U)(B:U[i]?=none)(q:∀Z,Heap.ExtBut it s.heap Z->Q none { s with heap:=Z }):wpAny (model prog w) A (pyNext (.ref e)) Q E s:=by have G:s.TypeIs (.ref e) "enumerate":= ⟨_,Y,rfl⟩;unfold pyNext;refine aa (w5 (m6 (name:=Str.ofString "__next__") G yw (jt yw G F.entry_enumerate_next ?_ (F.args_enumerate_next_1 _))));show wpAny _ _ (field (.ref e) 2>>=_) _ _ _;refine aa (ju Y rfl (x:=.ref it) rfl (aa (ajp C a c B λZ z k z_=>?_)));obtain⟨o,J,O⟩:=z_;exact aa (o5 (T :="StopIteration") (b:=true) ⟨o,J,O⟩ isSubtype_stop (aj (q _ k)))
set_option tactic.hygienic true in
def axn(t:Addr)(xs:U1)(n:Nat)(B:Option Addr)(E:Array (Option Value)) :
 Meets (Builtin.«enumerate.__new__» ⟨[.type "enumerate",.ref t],[]⟩) (λ_ R s=>s.heap.get? t=some { cls:=.type "tuple",dict:=B,data:=.seq xs n,slots:=E } /\
  R (.ok (.ret (.ref (s.heap.push { cls:=.type "tuple_iterator",data:=.fields #[.ref t,.int 0 0] }).objs.size)))
   { s with heap:=(s.heap.push { cls:=.type "tuple_iterator",data:=.fields #[.ref t,.int 0 0] }).push { cls:=.type "enumerate",data:=.fields #[.none,.bool false,.ref s.heap.objs.size,rawInt 0,.none,.none] } }):=
 .of_wp λprog w A R s h=>by
  obtain⟨N,g,d,Q,P⟩:=s;obtain⟨T,h⟩:=h;have L:=sub_enumerate;have O:Heap.IsTuple (Shared.heap ⟨N,g,d,Q,P⟩) t xs:=⟨_,T,rfl,n,rfl⟩
  wp_walk using wpAny_loadPart' T
  refine wpAny_stack_any λst=>aj ?_
  split
  .rename_i c _ _ _ _ _
   cases(c==Value.type "enumerate")<;>(wp_walk using wpAny_loadPart' T,wpAny_pyIter_tuple O)<;>exact⟨_,rfl,h⟩
  .wp_walk using wpAny_loadPart' T,wpAny_pyIter_tuple O
   exact⟨_,rfl,h⟩
def aq8(c:s.heap.IsTuple t U)(q:∀Z,IsEnum Z (s.heap.objs.size+1) s.heap.objs.size 0 .none->Z.IsTupleIter s.heap.objs.size t 0->Z.objs.size=s.heap.objs.size+2 ->
 (∀y o,s.heap.get? y=some o->Z.get? y=some o)->Q (.ref (s.heap.objs.size+1)) { s with heap:=Z }):wpAny (model prog w) A (call (.type "enumerate") [.ref t]) Q E s:=by
 obtain⟨⟨L,G,P,C⟩,N,B,n,J⟩:=c;have B:L=.type "tuple":= B;have J:P=.seq U n:=J;subst B J;have T:(s.heap.push { cls:=.type "tuple_iterator",data:=.fields #[.ref t,.int 0 0] }).objs.size=s.heap.objs.size+1:=j7 ..;refine callType_new F.called_enumerate (by decide) (F.typeCall_enumerate_1 _) (F.newCall_enumerate_1 _) (λY=>F.args_object_init_2 Y _) F.entry_enumerate_new (axn t U n G C) ⟨N,?_⟩;show _/\_;rw[T];have O:IsEnum ((s.heap.push { cls:=.type "tuple_iterator",data:=.fields #[.ref t,.int 0 0] }).push { cls:=.type "enumerate",data:=.fields #[.none,.bool false,.ref s.heap.objs.size,rawInt 0,.none,.none] }) (s.heap.objs.size+1) s.heap.objs.size 0 .none:=by rw[<-T];exact cu _ rfl
 exact⟨⟨_,O,rfl⟩,q _ O ⟨_,au _ (cu _ rfl),rfl,rfl⟩ (by rw[j7,T]) λy o z=>au _ (au _ z)⟩
end EnT
namespace L2
open PySem PySem.Spec EnT
def Inv.aa5{ch:X9}(I:Inv X pins σ H s)(T:∀b∈ch,Ws X pins H b)(k:∀b o,b∉ch->s.heap.get? b=some o->U.get? b=some o)(O:s.heap.objs.size<=n)(new:Bt X.prog X.w (upd H n (.tup Z)) U n (.tup Z)):Inv X pins σ (upd H n (.tup Z)) { s with heap:=U,toks:=t' }:=by
 have fr:H n=none:=I.Bq.fresh O;have G:∀b u,H b=some u->b∉ch:=λb u e z=>by rw[(T b z).1]at e;cases e
 have B:∀b o,s.heap.get? b=some o->b≠n:=λb o e=>gh (iz (bu e) O)
 refine I.step (g':=s.gens) (d':=s.drawn) (ch:=ch) (λb J=>⟨(T b J).2.2.2.1,(T b J).2.1,(T b J).2.2.2.2.1,(T b J).2.2.2.2.2⟩) (λb o _ _ Y e _=>k b o Y e) (λb o _ _ Y e _=>⟨o.slots,k b o Y e⟩) (λb o _ e E=>by rw[o7 (B b o e)];exact E)
  (λb o Y e=>⟨o,k b o Y e⟩) (λb R e=>by rw[o7 (o8 e fr)];exact e) (λb o u e=>by rw[o7 (o8 e fr)];exact e) (λb S e=>⟨#[],by rw[o7 (o8 e fr),e];simp⟩) (λm N=>?_) (λb u e=>?_) I.bare
 .obtain⟨o,P,C,L,r⟩:=N
  exact⟨o,P,C,k _ o (λz=>(T _ z).2.1 rfl) L,r⟩
 .by_cases z:b=n
  .subst z;rw[yg]at e;cases e;exact new
  .rw[o7 z]at e
   refine(I.Bq b u e).stay (λc v Y q=>k c v ?_ q) (λc q=>by rw[o7 (o8 q fr)];exact q) λc R q=>by rw[o7 (o8 q fr)];exact q
   rcases Y with y|y
   .rw[y];exact G b u e
   .exact G c _ y
def Inv.ajq{ch:X9}(I:Inv X pins σ H s)(T:∀b∈ch,Ws X pins H b)(k:∀b o,b∉ch->s.heap.get? b=some o->Z.get? b=some o):Inv X pins σ H { s with heap:=Z,toks:=t' }:=by
 have G:∀b u,H b=some u->b∉ch:=λb u e z=>by rw[(T b z).1]at e;cases e
 refine I.step (g':=s.gens) (d':=s.drawn) (ch:=ch) (λb J=>⟨(T b J).2.2.2.1,(T b J).2.1,(T b J).2.2.2.2.1,(T b J).2.2.2.2.2⟩) (λb o _ _ Y e _=>k b o Y e) (λb o _ _ Y e _=>⟨o.slots,k b o Y e⟩) (λb o _ e N=>N)
  (λb o Y e=>⟨o,k b o Y e⟩) (λb P e=>e) (λb o u e=>e) (λb E e=>⟨#[],by rw[e];simp⟩) (λm O=>?_) (λb u e=>?_) I.bare
 .obtain⟨o,L,B,C,r⟩:=O
  exact⟨o,L,B,k _ o (λz=>(T _ z).2.1 rfl) C,r⟩
 .refine(I.Bq b u e).stay (λc v Y q=>k c v ?_ q) (λ_ q=>q) λ_ _ q=>q
  rcases Y with y|y
  .rw[y];exact G b u e
  .exact G c _ y
def Ien(K:Fg)(a:Addr):It:=
 ⟨λi H=>∃Y x,Gd K H a Y/\Y[i]?=some x,λi H v T=>∃p x,v=.ref p/\H p=none/\T=upd H p (.tup [.int (i:Nat),x])/\∀Y,Gd K H a Y->Y[i]?=some x,λi H=>∃Y,Gd K H a Y/\Y.length<=i⟩
theorem axo(a e it:Addr)(M:e≠it):Turn P w K (.Tuple ts k0 pt) (Ien K a) [e,it] e (λi h=>(∃Z,IsEnum h e it ((i:Nat):Int) Z)/\h.IsTupleIter it a i)where
 mem:=by simp
 obj:=λi h st c Y=>by
  obtain⟨⟨Z,T⟩,G⟩:=st;rcases dh.mp Y with z|z
  .subst z;exact⟨_,T,λv z=>by cases z⟩
  .have z:c=it:=by simpa using z
   subst z;exact aq7 G
 keep:=λi h h' st k=>by obtain⟨⟨Z,T⟩,G⟩:=st;exact⟨⟨Z,k e (by simp) _ T⟩,Ui G λo z=>k it (by simp) o z⟩
 item:=by
  intro X W R V Y i J s σ H E I N st L;subst W R V;obtain⟨xs,x,C,O⟩:=L;obtain⟨A,S,p,_⟩:=I.tuple C;obtain⟨u,hu,ru⟩:=S.get O;obtain⟨⟨Z,T⟩,G⟩:=st;have lt:e<s.heap.objs.size:=bu T
  refine axl T G p (x:=u) (by simpa using hu) M λh1 o1 a1 t1 n1 k1=>⟨_,rfl,?_⟩
  refine wpAny_letOwnedTupleGo_enum o1 λh2 o2 B=>?_
  have B:Heap.SameBut e h1 h2:=B;have t2:h2.get? s.heap.objs.size=some { cls:=.type "tuple",data:=.seq #[.int i s.toks,u] }:=(B.2 _ (yr lt)).trans t1;refine⟨.ref s.heap.objs.size,upd H s.heap.objs.size (.tup [.int (i:Nat),x]),I.aa5 (t':=s.toks+1) N (λc o Y z=>?_) (bz _) ⟨by show 2<=sizeLine;decide,[.int i s.toks,u],.cons ⟨s.toks,rfl⟩ (.cons ru .nil),⟨_,t2,rfl,_,rfl,rfl⟩⟩,rfl,
   ⟨_,x,rfl,I.Bq.fresh (bz _),rfl,λys hy=>by rw[I.Vf hy C];exact O⟩,⟨⟨u,?_⟩,Ui a1 λo z=>B.extBut it o (km M) z⟩,λc Y=>?_⟩
  .have F:c≠e:=λz=>Y (by simp[z])
   have D:c≠it:=λz=>Y (by simp[z])
   exact B.extBut c o F (k1 c o F D z)
  .have q:((i+1:Nat):Int)=(i:Int)+1:=by push_cast;rfl
   rw[q];exact o2
  .have Q:c<s.heap.objs.size:=by
    rcases dh.mp Y with z|z
    .rw[z];exact lt
    .have z:c=it:=by simpa using z
     obtain⟨o,z2,_⟩:=aq7 G;rw[z];exact bu z2
   rw[o7 (gh Q)];exact(N c Y).1
 done:=by intro X W R V Y i J s σ H E I N st L;subst W R V;obtain⟨xs,C,O⟩:=L;obtain⟨A,S,p,_⟩:=I.tuple C;obtain⟨⟨Z,T⟩,G⟩:=st;have hl:=S.length;refine axm (I.ok.hd Y) T G p (by simp;exact a_ (g_ hl) O) λh' U=>⟨rfl,I.ajq (t':=s.toks) N λc o Y z=>U c o (λy=>Y (by simp[y])) z⟩
 self:=λ_ _ _ _ _ st h=>by obtain⟨⟨Z,T⟩,G⟩:=st;exact wpAny_pyIter_enum T h
def bby(E:Gl X "enumerate")(N:X.mg "enumerate"= none)(Q:PA X [a] ta)(F:starEach [a] X.env=[(false,eval a X.env)]) :
 PI X (.Tuple ts k0 pt) (.Call (.Name "enumerate" p) [a] [] pos) (λU H R=>ta U H λvs Z=>∃q,vs=[.ref q]/\(∃xs,Gd X.K Z q xs)/\R (Ien X.K q) Z):=by
 intro T s U H R I h;refine PyProof.Rows.Call_ (Dy I E N (show bootBuiltins "enumerate"= some (.type "enumerate")by decide+kernel) (jx (thA (Q pos T s U H _ I h) λus Y vs Z I1 P W=>?_) F rfl));obtain⟨q,rfl,⟨xs,S⟩,M⟩:=W;cases P with
 |cons r L =>
  cases L;cases r;obtain⟨D,rv,p,_⟩:=I1.tuple S;have fin:∀G,IsEnum G (Y.heap.objs.size+1) Y.heap.objs.size 0 .none->G.IsTupleIter Y.heap.objs.size q 0->(∀y o,Y.heap.get? y=some o->G.get? y=some o) ->
   wpAny (model X.prog X.w) X.A (pyIter (.ref (Y.heap.objs.size+1))) (PIE X T U (.Tuple ts k0 pt) R) X.xe { Y with heap:=G }:=λG B C O=>by
   refine wpAny_pyIter_enum B ?_;refine⟨Y.heap.objs.size+1,[Y.heap.objs.size+1,Y.heap.objs.size],_,_,Z,rfl,I1.kept (t':=Y.toks) O,axo q _ _ (Nat.succ_ne_self _),⟨⟨.none,B⟩,C⟩,λc V=>?_,M⟩;have J:Y.heap.objs.size<=c:=by
    rcases dh.mp V with z|z
    .rw[z];exact vd _
    .have z:c=Y.heap.objs.size:=by simpa using z
     rw[z];exact bz _
   exact I1.apr J (I1.Bq.fresh J)
  exact aq8 p λG B C _ O=>fin G B C O
end L2
namespace EnT
open PySem PySem.Spec
noncomputable def tpN(Y:Zl):Obj:={ cls:=.type "tuple",data:=.seq Y.toArray }
structure ZN(h0:Heap)(n:Nat)(ls:Y3)(f0:Value)(ov:Zl)(k d:Nat)(g:Heap):Prop where
 z:IsZip g (n+ls.length+2) (n+ls.length) (n+ls.length+1) f0
 o:g.get? (n+ls.length+1)=some (tpN ov)
 a:∀(j:Nat) l,ls[j]?=some l->g.IsTupleIter (n+j) l (if j<d then k+1 else k)
 low:∀c o,(c<n\/c=n+ls.length\/n+ls.length+2<c)->h0.get? c=some o->g.get? c=some o
def aq9{h Y:Heap}{a:Nat}{xs:U1}(x:h.IsTuple a xs)(e:∀o,h.get? a=some o->Y.get? a=some o):Y.IsTuple a xs:=let ⟨o,a,b⟩:=x;⟨o,e o a,b⟩
def aft{Y:Y3}{j:Nat}(h:Y[j]?=some l):j<Y.length:=(ao.mp h).1
def ZN.sz(H:ZN h0 n ls f0 Z k d g)(e:Heap.ExtBut (n+ls.length+2) g g')(z:IsZip g' (n+ls.length+2) (n+ls.length) (n+ls.length+1) f1):ZN h0 n ls f1 Z k d g':=
 ⟨z,e _ _ (by lia) H.o,λj l h=>Ui (H.a j l h) λo=>e _ o (by have:=aft h;lia),λc o Y z=>e _ _ (by lia) (H.low c o Y z)⟩
def ZN.so(H:ZN h0 n ls f0 U k d g)(e:Heap.ExtBut (n+ls.length+1) g g')(z:g'.get? (n+ls.length+1)=some (tpN Z)):ZN h0 n ls f0 Z k d g':=
 ⟨e _ _ (by lia) H.z,z,λj l h=>Ui (H.a j l h) λo=>e _ o (by have:=aft h;lia),λc o Y z=>e _ _ (by lia) (H.low c o Y z)⟩
def ZN.sa(H:ZN h0 n ls f0 Z k d g)(T:d<ls.length)(e:Heap.ExtBut (n+d) g g')(z:∀l,ls[d]?=some l->g'.IsTupleIter (n+d) l (k+1)):ZN h0 n ls f0 Z k (d+1) g':=
 ⟨e _ _ (by lia) H.z,e _ _ (by lia) H.o,λj l h=>by
  by_cases c:j=d
  .subst c;rw[dj (by lia)];exact z l h
  .have:=H.a j l h
   have i:(if j<d+1 then k+1 else k)=if j<d then k+1 else k:=by
    by_cases q:j<d
    .rw[dj q,dj (by lia)]
    .rw[cj q,cj (by lia)]
   rw[i];exact Ui this λo=>e _ o (by lia),λc o Y z=>e _ _ (by lia) (H.low c o Y z)⟩
def ZN.up(H:ZN h0 n ls f0 Z k d g)(e:∀c o,g.get? c=some o->g'.get? c=some o):ZN h0 n ls f0 Z k d g':=
 ⟨e _ _ H.z,e _ _ H.o,λj l h=>Ui (H.a j l h) (e _),λc o Y z=>e _ _ (H.low c o Y z)⟩
def ZN.nx(H:ZN h0 n ls f0 Z k ls.length g):ZN h0 n ls f0 Z (k+1) 0 g:=
 ⟨H.z,H.o,λj l h=>by have:=H.a j l h;rw[dj (aft h)]at this;exact this,H.low⟩
def axp{T:Addr}{Q:Unit->Shared->Prop}(Y:U.length<=3)(G:s.heap.get? T=some (tpN U))(h:∀Z,Z.get? T=some (tpN (U.set k x))->Heap.ExtBut T s.heap Z->Z.objs.size=s.heap.objs.size->Q () { s with heap:=Z }) :
 wpAny (model prog w) A (updateSeq T (·.setIfInBounds k x)) Q E s:=by
 have J:Heap.SameBut T s.heap (s.heap.update T (Obj.mapSeq (·.setIfInBounds k x))):=jw ..;refine wpAny_updateSeq G rfl (h _ ?_ J.extBut J.1) (hz:=gf (by simpa using Y) (show 3<=sizeLine by decide)) (_hz':=gf (by simpa using Y) (show 3<=sizeLine+1 by decide));rw[o6 _ G rfl];simp[Obj.mapSeq,tpN]
noncomputable def Gy(n m:Nat):List Value:=(List.range m).map λj=>.ref (n+j)
def ajr(n m:Nat):(Gy n m).zipIdx=(List.range' 0 m).map λj=>(Value.ref (n+j),j):=by
 apply t7;intro i;rw[z8]
 by_cases h:i<m
 .simp[Gy,h]
 .simp[Gy,h]
def At(h:Heap)(T:Y3)(k:Nat)(G:Zl):Prop:=G.length=T.length/\∀(j:Nat) l,T[j]?=some l->∃Y x,h.IsTuple l Y/\Y[k]?=some x/\G[j]?=some x
def axq{n k:Nat}{Q:Y1}(Wx:ls≠[])(h3:ls.length<=3)(H:ZN s.heap n ls .none Z k 0 s.heap)(ho:Z.length=ls.length)(B:s.heap.get? (n+ls.length)=some (tpN (Gy n ls.length)))(hl:∀l∈ls,l<n)(ha:At s.heap ls k vs)
 (hq:∀h',ZN s.heap n ls (rawInt s.heap.objs.size) vs (k+1) 0 h'->h'.get? s.heap.objs.size=some (tpN vs)->Q (.ref s.heap.objs.size) { s with heap:=h' }) :
 wpAny (model prog w) A (Builtin.«zip.__next__» ⟨[.ref (n+ls.length+2)],[]⟩) (λfin U=>∃v,fin=.done (.ret v)/\Q v U) E s:=by
 have L:=H.z;have ne:(Gy n ls.length).toArray.isEmpty=false:=by cases ls with|nil=>exact absurd rfl Wx|cons a l=>simp[Gy]
 show wpAny _ _ (field (.ref (n+ls.length+2)) 2>>=_) _ _ _;refine aa (ju L rfl (x:=.bool false) rfl (aa (ju L rfl (x:=.ref (n+ls.length)) rfl (aa (ur B rfl ?_)))));simp only[ne,du,jq];unfold Builtin.SmallTypes.ownedTupleIsFree;refine aa (aa (ju L rfl (x:=.none) rfl (aj ?_)));simp only[lz];refine aa (o4 (aa (ju L rfl (x:=.ref (n+ls.length+1)) rfl (aa (jr L (by simp) λg1 z1 I=>?_)))));have H1:=H.sz I.extBut (f1:=.ellipsis) z1;refine aa (qj _ (λT b U=>b=(none,())/\∃d Z g,T=((List.range' d (ls.length-d)).map λj=>(Value.ref (n+j),j))/\d<=ls.length/\U={ s with heap:=g }/\ZN s.heap n ls .ellipsis Z k d g/\Z.length=ls.length/\(∀i,i<d->Z[i]?=vs[i]?)/\g.objs.size=s.heap.objs.size) _ (λx T b U B=>?_) (λb U B=>?_) _ _ ⟨rfl,0,Z,g1,?_,jd _,rfl,H1,ho,λi M=>absurd M (ug _),I.1⟩)
 .obtain⟨rfl,d,Z,g,e,Y,rfl,G,V,W,R⟩:=B
  have Y:d<ls.length:=by
   rcases Av d ls.length with h|h
   .exact h
   .rw[Nat.sub_eq_zero_of_le h]at e;cases e
  obtain⟨c,S⟩:∃c,ls.length-d=c+1:=⟨ls.length-d-1,by lia⟩;rw[S,List.range'_succ,gq]at e;injection e with e1 e2
  subst e1 e2;obtain⟨l,P⟩:∃l,ls[d]?=some l:=⟨ls[d],by simp[Y]⟩;obtain⟨xs,x,t1,t2,t3⟩:=ha.2 d l P;have D:=G.a d l P;rw[cj (uc _)]at D;have ll:=hl l (bh P);refine aa (wpAny_onRaise (aa (afr (s:={ s with heap:=g }) D (aq9 t1 λo=>G.low _ o (by lia)) t2 λg2 i2 s2=>aj ?_)));have K:=G.sa Y s2.extBut λl' h=>by rw[P]at h;cases h;exact i2
  refine aa (ur K.o rfl (aa (axp (by rw[V];exact h3) K.o λg3 o3 s3 n3=>?_)));have H4:=K.so s3 o3;refine aa (wpAny_letGo (aj ⟨rfl,d+1,Z.set d x,g3,by rw[show ls.length-(d+1)=c by lia],Y,rfl,H4,by rw[List.length_set,V],λi M=>?_,by rw[n3,show g2.objs.size=g.objs.size from s2.1,R]⟩))
  by_cases z:i=d
  .subst z
   rw[Ax (by lia),t3]
  .rw[vy (km z)];exact W i (by lia)
 .obtain⟨rfl,d,Z,g,e,Y,rfl,G,V,W,R⟩:=B
  have Y:d=ls.length:=by
   rcases Av d ls.length with h|h
   .obtain⟨c,S⟩:∃c,ls.length-d=c+1:=⟨ls.length-d-1,by lia⟩
    rw[S,List.range'_succ]at e;cases e
   .exact Nat.le_antisymm Y h
  subst Y;obtain rfl:Z=vs:=by
   apply t7;intro i;rcases Av i ls.length with h|h
   .exact W i h
   .rw[pq (by lia),pq (by rw[ha.1];exact h)]
  refine aa (ur G.o rfl (aa (wpAny_newTuple ?_)));have H8:=G.nx.up (g':=g.push (tpN Z)) λc o e=>au _ e
  refine aa ?_;unfold Builtin.SmallTypes.ownedTupleHandOut;refine aa (jr H8.z (by simp) λg9 z9 s9=>?_);have X:=H8.sz s9.extBut (f1:=rawInt g.objs.size) z9;refine jr X.z (by simp) λJ F C=>?_
  have N:=X.sz C.extBut (f1:=rawInt g.objs.size) F;have zl:n+ls.length+2<g.objs.size:=bu G.z
  have O:J.get? g.objs.size=some (tpN Z):=C.extBut _ _ (yr zl) (s9.extBut _ _ (yr zl) (cu _ rfl));refine aj ⟨_,rfl,?_⟩;show Q (.ref g.objs.size) _;rw[R]at N O⊢;exact hq J N O
 .show(Gy n ls.length).zipIdx=_
  rw[ajr];rfl
def a4x{n k:Nat}{Y:Y3}(K:A.handled=none)(N:Y[0]?=some l)(H:ZN s.heap n Y .none ov k 0 s.heap)(F:s.heap.get? (n+Y.length)=some (tpN (Gy n Y.length)))(hl:l<n)(X:s.heap.IsTuple l xs)(I:xs[k]?=none)
 (U:∀Z e,(∀c o,(c<n\/n+Y.length+2<c)->s.heap.get? c=some o->Z.get? c=some o)->(∃o,Z.get? e=some o/\o.cls=.type "StopIteration")->E (.ref e) { s with heap:=Z }) :
 wpAny (model prog w) A (Builtin.«zip.__next__» ⟨[.ref (n+Y.length+2)],[]⟩) Q E s:=by
 have T:=H.z;obtain⟨c,C⟩:∃c,Y.length=c+1:=⟨Y.length-1,by have:=aft N;lia⟩;have B:(Gy n Y.length).toArray.isEmpty=false:=by rw[C];simp[Gy]
 show wpAny _ _ (field (.ref (n+Y.length+2)) 2>>=_) _ _ _;refine aa (ju T rfl (x:=.bool false) rfl (aa (ju T rfl (x:=.ref (n+Y.length)) rfl (aa (ur F rfl ?_)))));simp only[B,du,jq];unfold Builtin.SmallTypes.ownedTupleIsFree;refine aa (aa (ju T rfl (x:=.none) rfl (aj ?_)));simp only[lz];refine aa (o4 (aa (ju T rfl (x:=.ref (n+Y.length+1)) rfl (aa (jr T (by simp) λP W O=>?_)))));have G:=H.sz O.extBut (f1:=.ellipsis) W;have D:P.IsTupleIter n l k:=G.a 0 l N;have er:(Gy n Y.length).zipIdx=(Value.ref n,0)::(List.range' 1 c).map λj=>(Value.ref (n+j),j):=by rw[ajr,C];rfl
 rw[er,List.forIn_cons];refine aa (aa (aa (wpAny_onRaise (aa (ajp (s:={ s with heap:=P }) K D (aq9 X λo=>G.low _ o (by lia)) I λM x S z_=>?_)))));obtain⟨o,J,R⟩:=z_;have V:IsZip M (n+Y.length+2) (n+Y.length) (n+Y.length+1) .ellipsis:=S _ _ (by lia) G.z;have B:x≠n+Y.length+2:=λy=>by subst y;rw[V]at J;cases J;simp at R
 exact jr V (by simp) λg3 _ L=>U g3 x (λc o y1 e=>L.extBut _ _ (by lia) (S _ _ (by lia) (O.extBut _ _ (by lia) e))) ⟨o,L.extBut _ _ B J,R⟩
noncomputable def zI(a:Addr):Obj:={ cls:=.type "tuple_iterator",data:=.fields #[.ref a,.int 0 0] }
def pI(h:Heap)(Y:Y3):Heap:=Y.foldl (λh l=>h.push (zI l)) h
theorem acz:∀(Y:Y3)(h:Heap),(pI h Y).objs.size=h.objs.size+Y.length
 |[],h=>rfl
 |l::Y,h=>by
  have:=acz Y (h.push (zI l));rw[j7]at this;rw[iw,<-Nat.add_assoc,Nat.add_right_comm];exact this
theorem ajs:∀{ls:Y3}{h:Heap},h.get? c=some o->(pI h ls).get? c=some o
 |[],_,e=>e|x::ls,h,e=>ajs (ls:=ls) (h:=h.push (zI x)) (au _ e)
theorem ara:∀{ls:Y3}{h:Heap}{j:Nat},ls[j]?=some l->(pI h ls).get? (h.objs.size+j)=some (zI l)
 |x::ls,h,0,e=>by cases e;exact ajs (ls:=ls) (h:=h.push (zI l)) (cu _ rfl)
 |x::ls,h,j+1,e=>by
  have:=ara (h:=h.push (zI x)) (ls:=ls) (j:=j) e;rw[j7]at this;rw[<-Nat.add_assoc,Nat.add_right_comm];exact this
def axr{Q:List Value->Shared->Prop}(O:∀l∈ls,∃Z,s.heap.IsTuple l Z)(q:Q (Gy s.heap.objs.size ls.length) { s with heap:=pI s.heap ls }):wpAny (model prog w) A (Builtin.SmallTypes.iterAll (ls.map .ref)) Q E s:=by
 unfold Builtin.SmallTypes.iterAll;refine aa (qj _ (λT C G=>∃d,d<=ls.length/\T=(ls.drop d).map .ref/\C=(Gy s.heap.objs.size d).toArray/\G={ s with heap:=pI s.heap (ls.take d) }) _ (λx T b G J=>?_) (λb G J=>?_) _ _ ⟨0,jd _,rfl,rfl,rfl⟩)
 .obtain⟨d,Y,e,rfl,rfl⟩:=J
  have Y:d<ls.length:=by
   rcases Av d ls.length with h|h
   .exact h
   .rw[List.drop_of_length_le h]at e;cases e
  rw[zp Y,gq]at e;injection e with e1 e2
  subst e1 e2;obtain⟨Z,B⟩:=O ls[d] (my Y);refine aa (jh (wpAny_pyIter_tuple (aq9 B λo e=>ajs e) (aj ⟨d+1,Y,rfl,?_,?_⟩)))
  .rw[acz,List.length_take,Nat.min_eq_left (yq Y)]
   simp[Gy,qd]
  .have:pI s.heap (ls.take (d+1))=(pI s.heap (ls.take d)).push (zI ls[d]):=by
    rw[Ai,bx Y,pI,List.foldl_append];rfl
   rw[this];rfl
 .obtain⟨d,Y,e,rfl,rfl⟩:=J
  have Y:d=ls.length:=by
   rcases Av d ls.length with h|h
   .rw[zp h]at e;cases e
   .exact Nat.le_antisymm Y h
  subst Y;rw[Bu];exact aj (by simpa using q)
def zB(h:Heap)(Y:Y3):Heap:=(pI h Y).push (tpN (Gy h.objs.size Y.length))
def zC(h:Heap)(Y:Y3):Heap:=(zB h Y).push (tpN ((Gy h.objs.size Y.length).map λ_=>.none))
def zD(h:Heap)(Y:Y3):Heap:=(zC h Y).push { cls:=.type "zip",data:=.fields #[.none,.bool false,.bool false,.ref (pI h Y).objs.size,.ref (zB h Y).objs.size] }
def arb(J:ls.length<=3) :
 Meets (Builtin.«zip.__new__» ⟨.type "zip"::ls.map .ref,[]⟩) (λ_ R s=>(∀l∈ls,∃Z,s.heap.IsTuple l Z)/\R (.ok (.ret (.ref (zC s.heap ls).objs.size))) { s with heap:=zD s.heap ls }):=
 .of_wp λprog w A R s h=>by
  obtain⟨Y,g,d,G,T⟩:=s;obtain⟨O,h⟩:=h;have B:=sub_zip;have f1:∀{Q:List Value->Shared->Prop}{A E},Q (Gy Y.objs.size ls.length) ⟨pI Y ls,g,d,G,T⟩->wpAny (model prog w) A (Builtin.SmallTypes.iterAll (ls.map .ref)) Q E ⟨Y,g,d,G,T⟩:=λq=>axr O q
  have sz:∀(Z:Zl),Z.length<=3->Z.toArray.size<=sizeLine:=λZ h=>gf (by simpa using h) (show 3<=sizeLine by decide)
  have f2:∀{Q:Y1}{A E}{h:Heap},Q (.ref h.objs.size) ⟨h.push (tpN (Gy Y.objs.size ls.length)),g,d,G,T⟩->wpAny (model prog w) A (newTuple (Gy Y.objs.size ls.length)) Q E ⟨h,g,d,G,T⟩:=λq=>wpAny_newTuple q (sz _ (by simpa[Gy]using J))
  have C:∀{Q:Y1}{A E}{h:Heap},Q (.ref h.objs.size) ⟨h.push (tpN ((Gy Y.objs.size ls.length).map λ_=>.none)),g,d,G,T⟩->wpAny (model prog w) A (newTuple ((Gy Y.objs.size ls.length).map λ_=>.none)) Q E ⟨h,g,d,G,T⟩:=λq=>wpAny_newTuple q (sz _ (by simpa[Gy]using J))
  wp_walk using f1,f2,C
  exact⟨_,rfl,h⟩
def axs{n:Nat}(S:ls.length<=3)(Y:s.heap.objs.size=n)(R:checkTypeCall "zip" ⟨ls.map .ref,[]⟩=pure ())(P:checkBuiltinCall "zip.__new__" ⟨.type "zip"::ls.map .ref,[]⟩=pure ())(N:∀U,argsOk "object.__init__" ⟨U::ls.map .ref,[]⟩)(L:∀l∈ls,∃xs,s.heap.IsTuple l xs)
 (h:∀Z,ZN Z n ls .none ((Gy n ls.length).map λ_=>.none) 0 0 Z->Z.get? (n+ls.length)=some (tpN (Gy n ls.length))->(∀c o,s.heap.get? c=some o->Z.get? c=some o)->Q (.ref (n+ls.length+2)) { s with heap:=Z }):wpAny (model prog w) A (call (.type "zip") (ls.map .ref)) Q E s:=by
 refine callType_new F.called_zip (by decide) R P N F.entry_zip_new (arb S) ⟨L,?_⟩;have G:(pI s.heap ls).objs.size=n+ls.length:=by rw[acz,Y]
 have J:(zB s.heap ls).objs.size=n+ls.length+1:=by unfold zB;rw[j7,G]
 have O:(zC s.heap ls).objs.size=n+ls.length+2:=by unfold zC;rw[j7,J]
 have up:∀{h:Heap}{H:Obj}{c:Addr}{o:Obj},h.get? c=some o->(h.push H).get? c=some o:=λe=>au _ e
 have T:(zD s.heap ls).get? (zC s.heap ls).objs.size=some _:=cu _ rfl;have B:(zD s.heap ls).get? (zB s.heap ls).objs.size=some _:=up (cu _ rfl);have C:(zD s.heap ls).get? (pI s.heap ls).objs.size=some _:=up (up (cu _ rfl));rw[G,J,O]at T;rw[J,Y]at B;rw[G,Y]at C;show _/\_;rw[O];exact⟨⟨_,T,rfl⟩,h _ ⟨T,B,λj l e=>⟨_,up (up (up (by rw[<-Y];exact ara e))),rfl,rfl⟩,λ_ _ _ e=>e⟩ C λc o e=>up (up (up (ajs e)))⟩
def Y0(a b c:Value):checkTypeCall "zip" ⟨[a,b,c],[]⟩=pure ():=by kernel_rfl
def Z5(a b c:Value):checkBuiltinCall "zip.__new__" ⟨[.type "zip",a,b,c],[]⟩=pure ():=by kernel_rfl
def afu(a b c d:Value):argsOk "object.__init__" ⟨[a,b,c,d],[]⟩:=by unfold argsOk;rw[signature?_of (id :="object.__init__") (n :="__tini__".toList) (o :="tcejbo".toList) (by kernel_rfl) F.owner_object];kernel_rfl
theorem al6:∀U:List Value,U.length=2\/U.length=3->checkTypeCall "zip" ⟨U,[]⟩=pure ()/\checkBuiltinCall "zip.__new__" ⟨.type "zip"::U,[]⟩=pure ()/\∀Z,argsOk "object.__init__" ⟨Z::U,[]⟩
 |[a,b],_=>⟨F.typeCall_zip_2 _ _,F.newCall_zip_2 _ _,λZ=>F.args_object_init_3 Z _ _⟩
 |[a,b,c],_=>⟨Y0 _ _ _,Z5 _ _ _,λZ=>afu Z _ _ _⟩
 |[],h=>by simp at h|[_],h=>by simp at h|_::_::_::_::_,h=>by simp at h
end EnT
namespace L2
open PySem PySem.Spec EnT
def IzN(K:Fg)(as:X9):It:=
 ⟨λi H=>∃T:List V,T.length=as.length/\∀(j:Nat) a,as[j]?=some a->∃Y x,Gd K H a Y/\Y[i]?=some x/\T[j]?=some x,
  λi H v G=>∃p T,v=.ref p/\H p=none/\G=upd H p (.tup T)/\T.length=as.length/\∀(j:Nat) a Y,as[j]?=some a->Gd K H a Y->T[j]?=Y[i]?,
  λi H=>∃a Y,as[0]?=some a/\Gd K H a Y/\Y.length<=i⟩
def TN(n:Nat)(as:X9)(i:Nat)(h:Heap):Prop:=(∃Y,ZN h n as .none Y i 0 h/\Y.length=as.length)/\h.get? (n+as.length)=some (tpN (Gy n as.length))
noncomputable def FN(n m:Nat):List Addr:=List.range' n (m+3)
def FN.mem{n m c:Nat}:c∈FN n m↔n<=c/\c<n+m+3:=List.mem_range'_1
def at_of(I:Inv X pins σ H s){as:X9}{vs:List V}(l:vs.length=as.length)(h:∀(j:Nat) a,as[j]?=some a->∃Z x,Gd X.K H a Z/\Z[i]?=some x/\vs[j]?=some x):∃us,Vals vs us/\At s.heap as i us:=by
 induction as generalizing vs with
 |nil=>cases ue.mp l;exact⟨[],.nil,rfl,λj l h=>by simp at h⟩
 |cons a as J =>
  obtain⟨Z,x,L,G,E⟩:=h 0 a rfl;cases vs with
  |nil=>cases l
  |cons v vs =>
   obtain⟨us,r,e,q⟩:=J (vs:=vs) (by simpa using l) (λj a e=>h (j+1) a e);cases E;obtain⟨O,B,C,_⟩:=I.tuple L;obtain⟨T,P,N⟩:=B.get G;refine⟨T::us,.cons N r,by simp[e],λj l Y=>?_⟩;cases j with
   |zero=>cases Y;exact⟨O.toArray,T,C,by simpa using P,rfl⟩|succ j=>exact q j l Y
theorem axt{n:Nat}(h3:as.length<=3)(Wx:as≠[])(hl:∀a∈as,a<n):Turn P w K (.Tuple ts k0 pt) (IzN K as) (FN n as.length) (n+as.length+2) (TN n as)where
 mem:=FN.mem.mpr (by lia)
 obj:=λi h st e Y=>by
  obtain⟨⟨N,H,_⟩,G⟩:=st;obtain⟨c1,c2⟩:=FN.mem.mp Y
  by_cases z:e<n+as.length
  .have q:e-n<as.length:=by lia
   obtain⟨o,e1,d1,f1⟩:=H.a (e-n) as[e-n] (by simp[q]);rw[show n+(e-n)=e by lia]at e1;exact⟨_,e1,λv z=>by rw[f1]at z;cases z⟩
  .rcases(show e=n+as.length\/e=n+as.length+1\/e=n+as.length+2 by lia)with rfl|rfl|rfl
   .exact⟨_,G,λv z=>by cases z⟩
   .exact⟨_,H.o,λv z=>by cases z⟩
   .exact⟨_,H.z,λv z=>by cases z⟩
 keep:=λi h h' st k=>by
  obtain⟨⟨N,H,l⟩,G⟩:=st;have R:∀d o,n<=d->d<n+as.length+3->h.get? d=some o->h'.get? d=some o:=λd o W h2=>k d (FN.mem.mpr ⟨W,h2⟩) o
  exact⟨⟨N,⟨R _ _ (by lia) (by lia) H.z,R _ _ (by lia) (by lia) H.o,λj l h=>Ui (H.a j l h) λo=>R _ o (by lia) (by have:=aft h;lia),λ_ _ _ e=>e⟩,l⟩,R _ _ (by lia) (by lia) G⟩
 item:=by
  intro X U Q V Y i C s σ H E I L st J;subst U Q V;obtain⟨⟨N,Z,lo⟩,G⟩:=st;have lt:n+as.length+2<s.heap.objs.size:=bu Z.z
  obtain⟨vs,lv,J⟩:=J;obtain⟨A,r,ha⟩:=at_of I lv J;have O:s.TypeIs (.ref (n+as.length+2)) "zip":= ⟨_,Z.z,rfl⟩;unfold pyNext;refine aa (w5 (m6 (name:=Str.ofString "__next__") O F.slot_zip_next (jt F.slot_zip_next O F.entry_zip_next ?_ (F.args_zip_next_1 _))));refine axq Wx h3 Z lo G hl ha λW Z1 t1=>aj ⟨_,rfl,?_⟩
  refine wpAny_letOwnedTupleGo_zip Z1.z λh2 z2 S=>?_
  have S:Heap.SameBut (n+as.length+2) W h2:=S;have B:=Z1.sz S.extBut (f1:=.none) z2;have t2:h2.get? s.heap.objs.size=some (tpN A):=S.extBut _ _ (yr lt) t1;refine⟨.ref s.heap.objs.size,upd H s.heap.objs.size (.tup vs),I.aa5 (t':=s.toks) L (λc o Y D=>B.low c o (by rw[FN.mem]at Y;lia) D) (bz _) ⟨by rw[lv];exact gf h3 (show 3<=sizeLine by decide),A,r,⟨_,t2,rfl,_,rfl,rfl⟩⟩,rfl,
   ⟨_,vs,rfl,I.Bq.fresh (bz _),rfl,lv,λj a ys ja hy=>?_⟩,⟨⟨A,⟨B.z,B.o,B.a,λ_ _ _ e=>e⟩,ha.1⟩,B.low _ _ (by lia) G⟩,λc Y=>?_⟩
  .obtain⟨xs,x,M,q2,q3⟩:=J j a ja
   rw[I.Vf hy M,q2,q3]
  .rw[FN.mem]at Y
   rw[o7 (by lia)];exact(L c (FN.mem.mpr Y)).1
 done:=by
  intro X U Q V Y i C s σ H E I L st J;subst U Q V;obtain⟨⟨N,Z,lo⟩,G⟩:=st;obtain⟨a,xs,a0,M,x1⟩:=J;obtain⟨i1,r1,p1,_⟩:=I.tuple M;have qq:=r1.length;have O:s.TypeIs (.ref (n+as.length+2)) "zip":= ⟨_,Z.z,rfl⟩;unfold pyNext;refine aa (w5 (m6 (name:=Str.ofString "__next__") O F.slot_zip_next (jt F.slot_zip_next O F.entry_zip_next ?_ (F.args_zip_next_1 _))));refine a4x (I.ok.hd Y) a0 Z G (hl a (bh a0)) (xs:=i1.toArray) p1 (by simp;lia) λh' e k z_=>?_
  obtain⟨o,o1,o2⟩:=z_;exact aa (o5 (T :="StopIteration") (b:=true) ⟨o,o1,o2⟩ isSubtype_stop (aj ⟨rfl,I.ajq (t':=s.toks) L λc o Y D=>k c o (by rw[FN.mem]at Y;lia) D⟩))
 self:=λ_ _ _ _ _ st h=>by obtain⟨⟨N,Z,_⟩,_⟩:=st;exact wpAny_pyIter_zip Z.z h
theorem aa6:∀{as:X9}{Y:Zl},Vals (as.map V.ref) Y->Y=as.map Value.ref
 |[],_,h=>by cases h;rfl|_::_,_,h=>by cases h with|cons r t=>cases r;rw[aa6 t];rfl
def bbz(N:Gl X "zip")(O:X.mg "zip"= none)(W:PA X (a::es) ta)(hs:starEach (a::es) X.env=(false,eval a X.env)::starEach es X.env)(S:(backTo pos (starEach es X.env)).any (·.1)=false) :
 PI X (.Tuple ts k0 pt) (.Call (.Name "zip" p) (a::es) [] pos) (fun σ H R=>ta σ H λvs U=>∃as:List Addr,vs=as.map V.ref/\(as.length=2\/as.length=3)/\(∀q∈as,∃xs,Gd X.K U q xs)/\R (IzN X.K as) U):=by
 intro T s σ H R I h;refine PyProof.Rows.Call_ (Dy I N O (show bootBuiltins "zip"= some (.type "zip")by decide+kernel) (jx (Lb (W pos T s σ H _ I h) λus G z=>?_) hs S));obtain⟨vs,U,I1,P,as,rfl,l,A,hR⟩:=z;cases aa6 P;obtain⟨Q,L,c3⟩:=al6 (as.map Value.ref) (by simpa using l);have B:as.length<=3:=by lia
 have tp:∀q∈as,∃xs,G.heap.IsTuple q xs:=λq J=>by obtain⟨xs,E⟩:=A q J;obtain⟨i1,_,D,_⟩:=I1.tuple E;exact⟨_,D⟩
 refine axs B rfl Q L c3 tp λh' Z C M=>wpAny_pyIter_zip Z.z ?_
 refine⟨G.heap.objs.size+as.length+2,_,_,_,U,rfl,I1.kept (t':=G.toks) M,axt B (λz=>by subst z;simp at l) λq J=>by obtain⟨xs,o,e,_⟩:=tp q J;exact bu e,⟨⟨_,Z,by simp[Gy]⟩,C⟩,λc F=>?_,hR⟩;have Y:=(FN.mem.mp F).1;exact I1.apr Y (I1.Bq.fresh Y)
end L2
namespace Sm
open PySem L2
open MW (Ex Ez OEx Q8 De ql Lv Tg Res dz MO Jy Cp Op2 Blt Bm Kx Src)
def al7{i:Nat}(h:(MW.Li ds 0)[i]?=some d):∃z,ds[i]?=some z/\d=.tup [.int (i:Nat),z]:=by
 unfold MW.Li at h;rw[ig,z8]at h;cases e:ds[i]? with
 |none=>rw[e]at h;simp at h|some z=>rw[e]at h;simp at h;exact⟨z,rfl,h.symm⟩
def axu{X:Cx}(r:qy X.K ι H ds vs)(Y:∀Z U,LeX ι H Z U->Gd X.K U q vs):aqq nm X.K ι H (.con (MW.Li ds 0)) (Ien X.K q):=λZ U P le G=>by
 refine⟨λi d R L=>?_,λ_=>⟨vs,Y Z U le,?_⟩⟩
 .obtain⟨z,J,rfl⟩:=al7 (show(MW.Li ds 0)[i]?=some d from L)
  obtain⟨v,T,E⟩:=(r.Mj le).get J;refine⟨⟨vs,v,Y Z U le,T⟩,λu S ⟨p,x,e2,e3,e4,e5⟩=>?_⟩;have B:x=v:=by have:=e5 vs (Y Z U le);rw[T]at this;cases this;rfl
  subst B e2 e4;obtain⟨O,N,C⟩:=Nj (X:=X) G e3 (.cons (.int _) (.cons E .nil));exact⟨N,O,C⟩
 .show vs.length<=(MW.Li ds 0).length
  rw[<-r.length];simp[MW.Li]
def bb0(Q:Gl X "enumerate")(E:X.mg "enumerate"= none)(ha:PE X a (tE nm W X.K Z))(B:noStar a=true):PI X (.Tuple ts U pt) (.Call (.Name "enumerate" pr) [a] [] pos) (tI nm W X.K (.enm Z)):=by
 intro T s0 C H O I hh;obtain⟨ι,ρ,M,s,M',S,R,e,q⟩:=hh;rw[MW.aiq]at e;obtain⟨x,N,V,e⟩:=gw e;refine PI.weak (bby (ts:=ts) (k0:=U) (pt:=pt) (p:=pr) (pos:=pos) Q E (Qi ha Wi (ph B _ _)) (ph B _ _)) (wi':=λY J L=>Y=C/\J=H/\L=O) (λY J L ⟨z1,z2,z3⟩=>?_) T s0 C H O I ⟨rfl,rfl,rfl⟩;subst z1 z2 z3;refine Z3 (es':=.cons Z .nil) (ds:=[x]) (M1:=N) S R (by rw[MW.Ik,V];simp) λG P vs le F R1 r=>?_
 cases r with
 |cons A D =>
  cases D;cases A with
  |@tup p ds us h1 rr =>
   cases e;exact⟨p,rfl,⟨us,Gd.of h1⟩,q G P _ le F (axu rr λqq H2 Bc=>Gd.of (Bc.tup _ _ h1))⟩
  |_=>cases e
def axv{G:Nm}{W:Jy}{X:Cx}{o:Expr}{o':Ex}{pos Y:Pos}{k f:Nat}{fa C:Addr}{fd:FuncData}{I:Yf}{m:Str}{J ci:Nat}{cl:MW.Cl}{pl:Sem Bool}(ho:PE X o (tE G W X.K o'))(c0:Cls X.K C)(P:Meth X.K C m fa)(F:Hs X.prog X.w X.K X.mg X.base CX0 k fa fd I (spF G W X.K 1 f))(hr:Bj k X.A)(hb:Binds X.K fd I [])
 (L:∀U Z,W.cls[U]?=some Z->∀g,Z.meths.lookup J=some g->G.cls U=some C/\g=f) (V:∀i,G.fld i≠m)
 (ht:eval (.Call (.Attribute o m Y) [] [] pos) X.env=(do
  let ov<-eval o X.env
  standAt Y.atName
  let (f,first) <-holding [ov] (getMethod ov m pl)
  callWith pos f first (backTo pos (starEach [] X.env)) (backToKw pos (keywordEach [] X.env)))) :
 PE X (.Call (.Attribute o m Y) [] [] pos) (tE G W X.K (.meth o' J)):=
 PE.of (ap1 (E:=E0) ho c0 P F hr hb .nil aqj ht) fun σ H Q ι ρ M d M' S R e q=>by
  rw[MW.ad7]at e;obtain⟨x,T,e1,e⟩:=gw e;refine one S R e1 λB H1 v le D R1 r=>?_
  obtain⟨j,hx⟩:∃j,x=.ref j:=by cases x<;>first|exact⟨_,rfl⟩|cases e
  subst hx;obtain⟨p,rfl,hp⟩:∃p,v=.ref p/\B.l[j]?=some p:=by cases r with|ref z=>exact⟨_,rfl,z⟩
  have e:(match T[j]? with
   | some (.ins c _)=>(match(W.cls[c]?).bind λC=>C.meths.lookup J with
    | some f=>W.call f [.ref j] T|none=>.bad)
   | _=>.bad)=Res.ok d M':=e
  cases hM:T[j]? with
  |none=>rw[hM]at e;cases e
  |some ob =>
   rw[hM]at e;cases ob with
   |ins ci fs =>
    have e:(match(W.cls[ci]?).bind λC=>C.meths.lookup J with|some f=>W.call f [.ref j] T|none=>.bad)=Res.ok d M':=e;cases hL:(W.cls[ci]?).bind λC=>C.meths.lookup J with
    |none=>rw[hL]at e;cases e
    |some g =>
     rw[hL]at e;have e:W.call g [.ref j] T=.ok d M':=e;obtain⟨Z,h1,h2⟩:=ik.mp hL;obtain⟨h3,rfl⟩:=L ci Z h1 g h2;obtain⟨C',dx,l,g1,g2,g3⟩:=D.obj j _ p hM hp;rw[h3]at g1;cases g1;exact⟨p,dx,l,rfl,g2,aqu V g3,B,T,[.ref j],d,M',D,.cons r .nil,rfl,e,λO H' v N S' r'=>q O H' v (le.trans N) S' r'⟩
   |_=>cases e
def axw:PS X st (tS nm W X.K .raise):=λY s C H D I G=>by obtain⟨N,O,M,B,T,J,S,R,e,q⟩:=G;rw[MW.aol]at e;cases e
def a0i(h:PE X a t):PE X (.BoolOp op [a] pos) t:=λY s T H Q I q=>PyProof.Rows.BoolOp_one (h Y s T H Q I q)
def arc{X:Cx}{s:Src}(h:∀Z H1 M1,LeX ι H Z H1->m9 nm X.K Z H1 M1->(∀i d,s.item i M1=some d->∃x y U vs u v,d=.tup [x,y]/\Gd X.K H1 p U/\Gd X.K H1 q vs/\U[i]?=some u/\vs[i]?=some v/\Rep X.K Z H1 x u/\Rep X.K Z H1 y v)/\(s.fin M1=true->∃U,Gd X.K H1 p U/\U.length<=s.len)) :
 aqq nm X.K ι H s (IzN X.K [p,q]):=λZ H1 M1 le G=>by
 obtain⟨M,A⟩:=h Z H1 M1 le G;refine⟨λi d hi P=>?_,λW=>?_⟩
 .obtain⟨x,y,U,vs,u,v,rfl,Y,T,B,J,R,Q⟩:=M i d P
  refine⟨⟨[u,v],rfl,λj a F=>?_⟩,λu' H2 z=>?_⟩
  .rcases j with _|_|j<;>cases F
   .exact⟨U,u,Y,B,rfl⟩
   .exact⟨vs,v,T,J,rfl⟩
  .obtain⟨t,I,rfl,S,rfl,L,C⟩:=z
   have O:=C 0 p U rfl Y;have N:=C 1 q vs rfl T;rcases I with _|⟨w1,_|⟨w2,_|⟨_,_⟩⟩⟩<;>try(simp at L;done)
   rw[B]at O;rw[J]at N;cases O;cases N;obtain⟨V,D,E⟩:=Nj (X:=X) G S (.cons R (.cons Q .nil));exact⟨D,V,E⟩
 .obtain⟨U,Y,T⟩:=A W
  exact⟨p,U,rfl,Y,T⟩
def bb1(hg:Gl X "zip")(hm:X.mg "zip"= none)(P:PA X (a::U) (Zm nm W X.K Z))(hs:starEach (a::U) X.env=(false,eval a X.env)::starEach U X.env)(J6:(backTo pos (starEach U X.env)).any (·.1)=false)(Q:Ez.len Z=2) :
 PI X (.Tuple ts k0 pt) (.Call (.Name "zip" pr) (a::U) [] pos) (tI nm W X.K (.zip Z)):=by
 intro O s0 σ H R' I hh;obtain⟨ι,ρ,M,s,M',S,R,e,q⟩:=hh;rw[MW.avd]at e;obtain⟨ds,D,E,e⟩:=gw e;have G:=Jv E;rw[Q]at G
 match ds,G,E,e with
 |[x,y],_,E,e =>
  obtain⟨T,Y,rfl,rfl,A,rfl,rfl⟩:∃T Y,x=.tup T/\y=.tup Y/\T.length=Y.length/\s=.con (MW.Im [T,Y] Y.length)/\D=M':=by
   cases x with
   |tup T=>cases y with
    |tup Y =>
     obtain⟨h1,Q⟩:=acw (show(if T.length=Y.length then Res.ok (Src.con (MW.Im [T,Y] Y.length)) D else .bad)=.ok s M' from e);cases Q;exact⟨T,Y,rfl,rfl,h1,rfl,rfl⟩
    |_=>cases e
   |_=>cases e
  refine PI.weak (bbz (ts:=ts) (k0:=k0) (pt:=pt) (p:=pr) (pos:=pos) hg hm P hs J6) (wi':=λJ F R0=>J=σ/\F=H/\R0=R') (λJ F R0 z=>?_) O s0 σ H R' I ⟨rfl,rfl,rfl⟩;obtain⟨rfl,rfl,rfl⟩:=z;refine Z3 S R E λV H1 vs le S1 R1 B=>?_
  cases B with
  |cons r1 B=>cases B with
   |cons r2 B =>
    cases B;cases r1 with
    |@tup p1 _ us1 k1 l1=>cases r2 with
     |@tup p2 _ us2 k2 l2 =>
      refine⟨[p1,p2],rfl,.inl rfl,λa P=>?_,q V H1 _ le S1 (arc λqq H2 M2 N S2=>⟨λi d G=>?_,λ_=>⟨us1,Gd.of (N.tup _ _ k1),?_⟩⟩)⟩
      .simp only[dh,vq,or_false]at P
       rcases P with rfl|rfl
       .exact⟨_,Gd.of k1⟩
       .exact⟨_,Gd.of k2⟩
      .have G:(MW.Im [T,Y] Y.length)[i]?=some d:=G
       have L:i<Y.length:=by simpa[MW.Im]using(ao.mp G).1
       have C:i<T.length:=b_ L (g_ A)
       obtain⟨u,g1,g2⟩:=(l1.Mj N).get (bx C);obtain⟨v,g3,g4⟩:=(l2.Mj N).get (bx L);refine⟨T[i],Y[i],us1,us2,u,v,?_,Gd.of (N.tup _ _ k1),Gd.of (N.tup _ _ k2),g1,g3,g2,g4⟩;rw[MW.Im,ig,wy L]at G;cases G;simp[L,C]
      .show us1.length<=(MW.Im [T,Y] Y.length).length
       rw[<-l1.length];simp[MW.Im,A]
def ard{Y:List Dv}{b:Bool}(e:MW.allB Y=some b):∃bs:List Bool,Y=bs.map MW.D.bl/\b=bs.all id:=by
 induction Y generalizing b with
 |nil=>cases e;exact⟨[],rfl,rfl⟩
 |cons x r G =>
  cases x with
  |bl k =>
   obtain⟨c,T,rfl⟩:=dg.mp (show(MW.allB r).map (k&&·)=some b from e);obtain⟨bs,rfl,rfl⟩:=G T;exact⟨k::bs,rfl,by simp⟩
  |_=>cases e
theorem aa7{O:Io}{H:Hp}{K:Fg}:∀{bs:List Bool}{Y:List V}{is:Zl},qy K O H (bs.map MW.D.bl) Y->Vals Y is->is=bs.map Value.bool
 |[],_,_,r,h=>by cases r;cases h;rfl
 |k::bs,_,_,r,h=>by
  cases r with
  |cons G J =>
   cases h with
   |cons B T =>
    cases G;cases B;rw[aa7 J T];rfl
def bb2(hc:X.calm=true):Dh X (.builtin "all") (rB nm X.K .all):=λL s σ H vs us Q I V hh=>by
 obtain⟨W,M,C,d,M',S,r,e,q⟩:=hh;obtain⟨x,rfl,e⟩:∃x,C=[x]/\Res.v9 (((MW.gr M x).bind MW.allB).map MW.D.bl) M=.ok d M':=by
  cases C with
  |nil=>cases e
  |cons x l=>cases l with
   |nil=>exact⟨x,rfl,e⟩|cons _ _=>cases e
 obtain⟨Z,rfl⟩:=yz e;obtain⟨b,e2,rfl⟩:=dg.mp Z;obtain⟨xs,e3,e4⟩:=ik.mp e2;obtain⟨bs,rfl,rfl⟩:=ard e4;obtain⟨v,rfl,F⟩:=Kp r rfl;obtain⟨u,rfl,ru⟩:=Vl V;obtain⟨p,ws,rfl,hp,U⟩:=uz S F e3;cases ru;obtain⟨is,O,B,_⟩:=I.list (J2.of hp);have T:=aa7 U O;have Hv:p<s.heap.objs.size:=by obtain⟨_,e,_⟩:=B.isList;exact bu e
 refine call_all_walk (wpAny_pyIter_list B.isList ?_);refine⟨_,_,_,_,_,_,λi=>bs.getD i true,rfl,Walks.list (A:=X.A.in1) (I.ok.hd hc) s.heap.objs.size p (gh Hv) is.toArray,⟨⟨_,cu _ rfl,rfl,rfl⟩,B.isList.push _⟩,λi v s Q E hP J=>?_,λh' R Y=>?_⟩
 .have P:is[i]?=some v:=by simpa using hP
  rw[T,ig]at P;obtain⟨k,Y,rfl⟩:=dg.mp P;refine m8 ?_;have J:Q (bs.getD i true) s:=J;rw[cz,Y]at J;exact J
 .have ha:(List.range is.toArray.size).all (λi=>bs.getD i true)=bs.all id:=by
   rw[T];simp only[gm,dm];rw[zr,jf,jf];constructor
   .intro h k Y
    obtain⟨i,G,rfl⟩:=p8 Y;have:=h i (jk.mpr G);simpa[cz,G]using this
   .intro h i G
    have N:=jk.mp G;have:=h bs[i] (my N);simpa[cz,N]using this
  rw[ha];exact⟨.bl _,H,I.kept (t':=R) (old_kept Y),rfl,q W H _ (Le.refl _ _) S (.bl _)⟩
def axx(hT:PySem.W.kitAny X.K (.type "tuple") [.type "tuple",.type "list"]=some true)(C:PySem.W.kitAny X.K (.type "int") [.type "tuple",.type "list"]=some false)(hg:Gl X n)(hm:X.mg n=none)(hv:bootBuiltins n=some (.builtin "isinstance"))(hn:n≠"__name__")(Tn:(n==("__debug__": Str))=false)(qq:Gl X "tuple")(A:X.mg "tuple"= none)(V:Gl X "list")(E:X.mg "list"= none)(ha:PE X a (tE nm W X.K a'))(he:starEach [a,.Tuple [.Name "tuple" U,.Name "list" Z] k pt] X.env=(false,eval a X.env)::starEach [.Tuple [.Name "tuple" U,.Name "list" Z] k pt] X.env)(J6:(backTo pos (starEach [.Tuple [.Name "tuple" U,.Name "list" Z] k pt] X.env)).any (·.1)=false):PE X (.Call (.Name n p) [a,.Tuple [.Name "tuple" U,.Name "list" Z] k pt] [] pos) (tE nm W X.K (.blt .isSeq (.cons a' .nil))):=by
 intro T s L H Q I hh;obtain⟨ι,ρ,M,d,M',S,R,e,q⟩:=hh;rw[MW.W3]at e;obtain⟨ds,M1,O,e⟩:=gw e;rw[MW.Ik]at O;obtain⟨x,M2,e2,O⟩:=gw O;rw[MW.T4]at O;cases O;refine jm (Dy I hg hm hv ?_ hn Tn);refine xq (Q:=EP X T L Q) ?_ he J6;rw[he];show wpAny _ _ (spliced ((false,eval a X.env)::backTo pos (starEach [.Tuple [.Name "tuple" U,.Name "list" Z] k pt] X.env))) _ _ s;refine mq (Qu (ha T s L H (λv J=>∃Y,Le ι H Y J/\m9 nm X.K Y J M1/\Rep X.K Y J x v) I ⟨ι,ρ,M,x,M1,S,R,e2,λY J v le P r=>⟨Y,le,P,r⟩⟩) λu G v J I1 F z_=>?_);obtain⟨Y,le,P,r⟩:=z_;show wpAny _ _ (spliced ((false,eval (.Tuple [.Name "tuple" U,.Name "list" Z] k pt) X.env)::backTo pos (starEach [] X.env))) _ _ G;refine mq (wpAny_Tuple ?_);show wpAny _ _ (spliced ((false,eval (.Name "tuple" U) X.env)::backTo pt (starEach [.Name "list" Z] X.env))) _ _ G;refine mq (Dy I1 qq A (show bootBuiltins "tuple"= some (.type "tuple")by decide+kernel) ?_ (by decide+kernel) (by decide+kernel));show wpAny _ _ (spliced ((false,eval (.Name "list" Z) X.env)::backTo pt (starEach [] X.env))) _ _ G;refine mq (Dy I1 V E (show bootBuiltins "list"= some (.type "list")by decide+kernel) ?_ (by decide+kernel) (by decide+kernel));refine uh ⟨by show 2<=sizeLine;decide,?_⟩;refine uh ?_;have I2:Inv X T L J { G with heap:=G.heap.push { cls:=.type "tuple",data:=.seq #[.type "tuple",.type "list"] } }:=I1.kept (t':=G.toks) λb u e=>au _ e
 have B:(G.heap.push { cls:=.type "tuple",data:=.seq #[.type "tuple",.type "list"] }).get? G.heap.objs.size=some { cls:=.type "tuple",data:=.seq #[.type "tuple",.type "list"] }:=cu _ rfl;have e:Res.v9 ((MW.isX (some true) (some false) x).map MW.D.bl) M1=.ok d M':=e;obtain⟨e4,e5⟩:=yz e;subst e5;obtain⟨b,N,rfl⟩:=dg.mp e4;have fin:∀tk,EP X T L Q (.bool b) { G with heap:=G.heap.push { cls:=.type "tuple",data:=.seq #[.type "tuple",.type "list"] },toks:=tk }:=λtk=>⟨.bl b,J,I2.tok _,rfl,q Y J _ le P (.bl b)⟩
 cases r with
 |int i=>cases N;obtain⟨t,q⟩:=(show ∃t,u=Value.int i t from F);cases q;exact PySem.W.kia_tup PySem.W.kitx_int I2.Ve True.intro B C (λz=>nomatch z) fin
 |sy h=>cases N;obtain⟨t,q⟩:=(show ∃t,u=Value.int _ t from F);cases q;exact PySem.W.kia_tup PySem.W.kitx_int I2.Ve True.intro B C (λz=>nomatch z) fin
 |@tup p ds us h1 rr =>
  cases N;cases(show u=Value.ref p from F);obtain⟨_,_,_,h1⟩:=(show Bt X.prog X.w J _ p (.tup us)from I2.Bq p _ h1);obtain⟨o,g1,g2,_⟩:=h1;exact PySem.W.kia_tup PySem.W.kitx_tuple I2.Ve ⟨o,g1,g2⟩ B hT (λz=>nomatch z) fin
 |_=>cases N
def axy(e:MW.Ks .get x ds M=.ok d M'):∃n k U,x=.ref n/\ds=[k,U]/\M'=M/\((∃Z q,M[n]?=some (.dK Z)/\MW.Xq k=some q/\d=(MW.Af Z q).getD U)\/∃Z q,M[n]?=some (.dT Z)/\MW.Q3 k=some q/\d=(MW.Af Z q).getD U):=by
 match ds,e with
 |[k,U],e =>
  obtain⟨O,B⟩:=yz (show Res.v9 ((MW.aof x k M).map (·.getD U)) M=.ok d M' from e);obtain⟨z,Y,J⟩:=dg.mp O;cases x with
  |ref n =>
   refine⟨n,k,U,rfl,rfl,B,?_⟩;simp only[MW.aof]at Y;cases hM:M[n]? with
   |none=>rw[hM]at Y;cases Y
   |some o=>cases o with
    |dK Z =>
     rw[hM]at Y;obtain⟨q,T,G⟩:=dg.mp Y;exact .inl ⟨Z,q,rfl,T,by rw[G];exact J.symm⟩
    |dT Z =>
     rw[hM]at Y;obtain⟨q,T,G⟩:=dg.mp Y;exact .inr ⟨Z,q,rfl,T,by rw[G];exact J.symm⟩
    |_=>rw[hM]at Y;cases Y
  |_=>cases Y
 |[],e1=>cases e1|[_],e1=>cases e1|_::_::_::_,e1=>cases e1
def ty_dict{X:Cx}(S:m9 nm X.K Z H M)(r:Rep X.K Z H x v)(h:MW.Oq .get x M=true):tyV X.K "dict" v H:=by
 cases r with
 |@ref n p hp =>
  have h:(match M[n]? with|some (.dK _)=>true|some (.dT _)=>true|_=>false)=true:=h;split at h
  .rename_i T
   obtain⟨l,Y,_⟩:=S.obj n _ p T hp;exact .inr (.inr (.inl ⟨rfl,.inl ⟨_,Y⟩⟩))
  .rename_i T
   obtain⟨l,Y,_⟩:=S.obj n _ p T hp;exact .inr (.inr (.inl ⟨rfl,.inr ⟨_,Y⟩⟩))
  .cases h
 |_=>cases h
def bb3(hu:X.A.units+1<cLine):MtR X "dict.get" (rM nm X.K .get):=λZ s σ H v vs u us Q I ru Wm hh=>by
 obtain⟨D,M,x,ds,d,M',S,r,rs,e,q⟩:=hh;obtain⟨n,k,d0,rfl,rfl,rfl,e⟩:=axy e;cases rs with
 |cons rk R =>
  cases R with
  |cons F R =>
   cases R;cases Wm with
   |cons J Y =>
    cases Y with
    |cons B Y =>
     cases Y;cases r with
     |ref U =>
      cases ru;rcases e with⟨N,T,E,L,rfl⟩|⟨N,T,E,L,rfl⟩
      .obtain⟨l,P,O⟩:=S.obj n _ _ E U
       have hy:=acp rk L;subst hy;refine aqc hu I (Q6.k P) J B λw' s' C G=>⟨_,H,C,G,q D H _ (Le.refl _ _) S ?_⟩
       cases hl:MW.Af N T with
       |none=>rw[(O.look (k:=T)).2 hl];exact F|some d=>obtain⟨z,W,V⟩:=(O.look (k:=T)).1 d hl;rw[W];exact V
      .obtain⟨l,P,O⟩:=S.obj n _ _ E U
       obtain⟨bb,rfl,hb⟩:=Yp rk L;refine aqc hu I (Q6.t P hb) J B λw' s' C G=>⟨_,H,C,G,q D H _ (Le.refl _ _) S ?_⟩
       cases hl:MW.Af N T with
       |none=>rw[(O.look (k:=T)).2 hl];exact F|some d=>obtain⟨z,W,V⟩:=(O.look (k:=T)).1 d hl;rw[W];exact V
set_option tactic.hygienic true in
def a4z(hr:Bj 8 X.A)(hg:Gl X n)(hm:X.mg n=none)(hv:bootBuiltins n=some (.type "list"))(hn:n≠"__name__")(Tn:(n==("__debug__": Str))=false)(qq:Gl X Z)(G:X.mg Z=none)(q0:bootBuiltins Z=some (.type "range"))(Wy:Z≠"__name__")(qv:(Z==("__debug__": Str))=false)(ha:PA X [a] (Zm nm W X.K (.cons a' .nil)))(he:starEach [.Call (.Name Z p') [a] [] Y] X.env=(false,eval (.Call (.Name Z p') [a] [] Y) X.env)::starEach [] X.env)(J6:(backTo q1 (starEach [] X.env)).any (·.1)=false)(C:starEach [a] X.env=(false,eval a X.env)::starEach [] X.env)(qk:(backTo Y (starEach [] X.env)).any (·.1)=false) :
 PE X (.Call (.Name n p) [.Call (.Name Z p') [a] [] Y] [] q1) (tE nm W X.K (.ag1 a')):=by
 intro B s F H Q I hh;obtain⟨ι,ρ,M,d,M',S,R,e,q⟩:=hh;rw[MW.aok]at e;obtain⟨x,M1,e1,e⟩:=gw e;split at e<;>try cases e
 rename_i i;split at e<;>cases e;rename_i hi;refine jm (Dy I hg hm hv ?_ hn Tn);refine jx (Q:=EP X B F Q) ?_ he J6;rw[he];show wpAny _ _ (spliced ((false,eval (.Call (.Name Z p') [a] [] Y) X.env)::backTo q1 (starEach [] X.env))) _ _ s;refine mq ?_;refine jm (Dy I qq G q0 ?_ Wy qv);refine jx (Lb (ha Y B s F H (λy N=>∃O,y=[.int i]/\Le ι H O N/\m9 nm X.K O N M1) I ⟨ι,ρ,M,[.int i],M1,S,R,by simp[e1,Res.bind],λO N y le U r=>?_⟩) λus T ⟨y,N,I1,r1,O,J,W8,U⟩=>?_) C qk
 .obtain⟨v,J,rv⟩:=Kp r rfl
  cases rv;exact⟨O,J,le,U⟩
 subst J;obtain⟨u,rfl,ru⟩:=Vl r1;obtain⟨t,rfl⟩:=ru;refine call_range_1 ?_;show wpAny _ _ (spliced []) _ _ _;refine uh ?_;have keep:∀b o,T.heap.get? b=some o->(T.heap.push { cls:=.type "range",data:=.fields #[.int 0 T.toks,.int i t,.int 1 (T.toks+1)] }).get? b=some o:=λb o e=>au _ e
 refine call_list_range (n:=i.toNat) hr.hd (cu _ rfl) (small_one (by lia) (by lia) (by lia) (by omega)) (by rw[rangeSize_one];split<;>lia) (by lia) λh' tk E c' hk P Gi=>?_
 have D:(T.heap.push { cls:=.type "range",data:=.fields #[.int 0 T.toks,.int i t,.int 1 (T.toks+1)] }).objs.size=T.heap.objs.size+1:=j7 ..;have P:h'.get? (T.heap.push { cls:=.type "range",data:=.fields #[.int 0 T.toks,.int i t,.int 1 (T.toks+1)] }).objs.size=some { cls:=.type "list",dict:=none,data:=.seq E c',slots:=#[] }:=P;show EP X B F Q (.ref (T.heap.push { cls:=.type "range",data:=.fields #[.int 0 T.toks,.int i t,.int 1 (T.toks+1)] }).objs.size) _;rw[D]at P⊢;have hz:((List.range i.toNat).map λ(k:Nat)=>V.int (k:Int)).length<=sizeLine:=by simp[t8];omega
 have L:T.heap.objs.size<=T.heap.objs.size+1:=vd _
 have hf:N (T.heap.objs.size+1)=none:=I1.Bq.fresh L;have I3:Inv X B F (upd N (T.heap.objs.size+1) (.lst ((List.range i.toNat).map λ(k:Nat)=>V.int (k:Int)))) { T with heap:=h',toks:=tk }:=
  I1.laid (a:=T.heap.objs.size+1) (t':=tk) (λb o e=>hk b o (keep b o e)) L (show Bt X.prog X.w _ _ _ (.lst _)from⟨hz,E.toList,c',Yy Gi,by simpa using P⟩)
 obtain⟨S2,Bc,r2⟩:=acn (X:=X) U hf (Yz i.toNat);exact⟨.ref (T.heap.objs.size+1),_,I3,rfl,q _ _ _ (W8.trans Bc) S2 r2⟩
end Sm
namespace Sm
open PySem L2
open MW (Ex Ez OEx Q8 De ql Lv Tg Res dz MO Jy Cp Op2 Blt Bm Kx Src)
theorem afv{C:Io}{H:Hp}{K:Fg}:∀{T:List Dv}{Y:List V}{is:Zl}{G:Xs},qy K C H T Y->Vals Y is->MW.Wz T=some G->PyProof.Rows.IntsAre is G
 |_,_,_,_,.nil,.nil,h=>by cases h;exact .nil
 |_,_,_,_,.cons r t,.cons rv tv,h=>by
  cases r<;>simp only[MW.Wz]at h<;>try cases h
  obtain⟨B,J,O⟩:=dg.mp h;subst O;obtain⟨N,rfl⟩:=rv;exact .cons _ _ (afv t tv J)
theorem afw:∀{is:Zl}{Y:Xs},PyProof.Rows.IntsAre is Y->Vals (Y.map V.int) is
 |_,_,.nil=>.nil|_,_,.cons n t h=>.cons ⟨t,rfl⟩ (afw h)
theorem aa8{Y:Io}{H:Hp}{K:Fg}:∀Z:List Int,qy K Y H (Z.map MW.D.int) (Z.map V.int)
 |[]=>.nil|n::Z=>.cons (.int n) (aa8 Z)
def afx(e:MW.qm .J7 ds M=.ok d M'):∃x U Z,ds=[x]/\MW.gr M x=some U/\MW.Wz U=some Z/\(MW.Bp Z).length<31/\d=.vl ((MW.sortI (MW.Bp Z)).map MW.D.int)/\M'=M:=by
 match ds,e with
 |[x],e =>
  have e:Res.v9 (((MW.gr M x).bind MW.Wz).bind λis=>if(MW.Bp is).length<31 then some (MW.D.vl ((MW.sortI (MW.Bp is)).map MW.D.int))else none) M=.ok d M':=e;obtain⟨T,O⟩:=yz e;obtain⟨Z,J,Y⟩:=ik.mp T;obtain⟨U,B,C⟩:=ik.mp J;split at Y
  .rename_i G
   exact⟨x,U,Z,rfl,B,C,G,(lg Y).symm,O⟩
  .cases Y
 |[],e=>cases e|_::_::_,e=>cases e
def a5a(L:Bj 8 X.A)(I:Inv X pins σ H s)(S:m9 nm X.K ι H M)(C:Rep X.K ι H x v)(P:RelV v u)(N:MW.gr M x=some xs)(B:MW.Wz xs=some ns)(J:(MW.Bp ns).length<31)(h:∀Z tk U,(∀b o,s.heap.get? b=some o->Z.get? b=some o)->Xe.Dr X.w Z s.heap.objs.size (λk=>k∈ns) U->U<=(MW.Bp ns).length->Q (.ref s.heap.objs.size) { s with heap:=Z,toks:=tk }) :
 wpAny (model X.prog X.w) X.A (call (.type "set") [u]) Q X.xe s:=by
 obtain⟨p,R,rfl,T,O⟩:=uz S C N;cases P;obtain⟨is,Y,G,_⟩:=I.list (J2.of T);exact Xe.ak1 L.hd G.isList (by simpa using afv O Y B) (λk E=>(MW.U9 k ns).mpr E) J h
def al8(I:Bj 8 X.A)(I1:Inv X pins σ U s1)(P:m9 nm X.K qq U M')(G:Xe.Dr X.w h' a (λk=>k∈ns) n')(M:s1.heap.objs.size<=a)(keep:∀b o,s1.heap.get? b=some o->h'.get? b=some o)(N:n'<31)(q:∀Z H' v,Le qq U Z H'->m9 nm X.K Z H' M'->Rep X.K Z H' (.vl ((MW.sortI (MW.Bp ns)).map MW.D.int)) v->Q v H') :
 wpAny (model X.prog X.w) X.A (call (.builtin "sorted") [.ref a]) (EP X pins σ Q) X.xe { s1 with heap:=h',toks:=tk }:=by
 refine Xe.ad0 (s:={ s1 with heap:=h',toks:=tk }) I.hd G N λu Y p2 out r S J O so W mem z_=>?_
 obtain⟨c,g⟩:=z_;have C:(MW.Bp ns).length<=n':=by
  obtain⟨m,o,p,d,t,X,L,rfl,_⟩:=G;have:=Xe.agu (MW.abt ns) λk E=>(L k).mp ((MW.U9 k ns).mp E)
  rw[dm]at this;exact this
 obtain rfl:=MW.ais so W mem;obtain⟨l,_,_,_,R,_⟩:=G.get;have T:s1.heap.objs.size<=p2:=gf (gf M (yq (bu R))) J
 have z:U p2=none:=I1.Bq.fresh T;have B:((MW.sortI (MW.Bp ns)).map V.int).length<=sizeLine:=by rw[dm,(MW.Ln _).length_eq,t8];exact e_ (c_ C (b_ N (by decide)))
 have y:Inv X pins σ (upd U p2 (.lst ((MW.sortI (MW.Bp ns)).map V.int))) { s1 with heap:=u,toks:=Y }:=
  I1.laid (a:=p2) (t':=Y) (λb o e=>S b o (keep b o e)) T (show Bt X.prog X.w _ _ _ (.lst _)from⟨B,out.toList,c,afw O,by simpa using g⟩)
 obtain⟨H,j,F⟩:=ack (X:=X) P z (aa8 _);exact⟨.ref p2,_,y,rfl,q _ _ _ j H F⟩
def al9(y:Bj 8 X.A)(i:Gl X n)(c:X.mg n=none)(hv:bootBuiltins n=some (.builtin "sorted"))(t:n≠"__name__")(Tn:(n==("__debug__": Str))=false)(N:Gl X Z)(B:X.mg Z=none)(V:bootBuiltins Z=some (.type "set"))(Wy:Z≠"__name__")(P:(Z==("__debug__": Str))=false)(ha:PA X [a] (Zm nm W X.K (.cons a' .nil)))(F:starEach [.Call (.Name Z p') [a] [] U] X.env=(false,eval (.Call (.Name Z p') [a] [] U) X.env)::starEach [] X.env)(J6:(backTo q1 (starEach [] X.env)).any (·.1)=false)(O:starEach [a] X.env=(false,eval a X.env)::starEach [] X.env)(E:(backTo U (starEach [] X.env)).any (·.1)=false) :
 PE X (.Call (.Name n p) [.Call (.Name Z p') [a] [] U] [] q1) (tE nm W X.K (.blt .J7 (.cons a' .nil))):=by
 intro T s l H Q I hh;obtain⟨D,o,M,d,g,S,R,e,q⟩:=hh;rw[MW.W3]at e;obtain⟨ds,M1,e1,e⟩:=gw e;obtain⟨x,xs,ns,rfl,e2,e3,j,rfl,rfl⟩:=afx e;refine jm (Dy I i c hv ?_ t Tn);refine xq (Q:=EP X T l Q) ?_ F J6;rw[F];show wpAny _ _ (spliced ((false,eval (.Call (.Name Z p') [a] [] U) X.env)::backTo q1 (starEach [] X.env))) _ _ s;refine mq ?_;refine jm (Dy I N B V ?_ Wy P);refine jx (Lb (ha U T s l H (λC G=>∃Y v,C=[v]/\Rep X.K Y G x v/\Le D H Y G/\m9 nm X.K Y G g) I ⟨D,o,M,[x],g,S,R,e1,λY G C le J r=>?_⟩) λus s1 z=>?_) O E
 .obtain⟨v,k,b⟩:=Kp r rfl
  exact⟨Y,v,k,b,le,J⟩
 obtain⟨C,G,I1,r1,Y,v,rfl,rx,W8,J⟩:=z;obtain⟨u,rfl,ru⟩:=Vl r1;refine a5a y I1 J rx ru e2 e3 j λh' tk n' keep m f=>?_
 show wpAny _ _ (spliced []) _ _ _;refine uh ?_;exact al8 y I1 J m (bz _) keep (c_ f j) λL H' v le=>q L H' v (W8.trans le)
def bb5{X:Cx}:Ej X (compareOp .IsNot) (Yn nm X.K .isn):=λY s C H v u L O Q I N T B=>by
 obtain⟨E,M,x,y,b,S,G,J,e,q⟩:=B;simp only[MW.J1]at e;cases J<;>try(cases e;done)
 refine awa Y s C H v _ L O Q I N T ⟨rfl,?_⟩;cases G<;>first|(cases e;done)|(cases e;exact q)
def arf(e:MW.Wz Z=some is)(r:qy K ι H Z U):U=is.map V.int:=by
 induction Z generalizing is U with
 |nil=>cases e;cases r;rfl
 |cons d Z Y =>
  cases r with
  |cons T r =>
   cases T<;>try(cases e;done)
   obtain⟨is,G,rfl⟩:=dg.mp (show(MW.Wz Z).map (_::·)=some is from e);rw[Y G r];rfl
def arh(e:MW.au4 d=some c)(r:Rep K Z H d v):∃a,∃g:Nat->Int,v=.ref a/\H a=some (.tup (((List.range c).map g).map V.int)):=by
 cases r with
 |@tup a ds vs h rl =>
  obtain⟨is,T,rfl⟩:=dg.mp (show(MW.Wz ds).map (·.length)=some c from e);refine⟨a,λj=>is.getD j 0,rfl,?_⟩;rw[h,arf T rl]
  congr 3
  apply t7;intro j
  by_cases Y:j<is.length
  .simp[Y]
  .simp[Y]
 |_=>cases e
def ama(e:MW.Tv Z=some ls)(r:qy K ι H Z U):∃g:Nat->Nat->Int,U.length=ls.length/\∀(k c:Nat),ls[k]?=some c->∃b,U[k]?=some (.ref b)/\H b=some (.tup (((List.range c).map (g k)).map V.int)):=by
 induction Z generalizing ls U with
 |nil=>cases e;cases r;exact⟨λ_ _=>0,rfl,by simp⟩
 |cons d Z G =>
  cases r with
  |cons B r =>
   simp only[MW.Tv]at e;cases e1:MW.au4 d with
   |none=>rw[e1]at e;cases e
   |some c =>
    cases e2:MW.Tv Z with
    |none=>rw[e1,e2]at e;cases e
    |some L =>
     rw[e1,e2]at e;cases e;obtain⟨g,O,J⟩:=G e2 r;obtain⟨b,T,rfl,N⟩:=arh e1 B;refine⟨λk=>match k with|0=>T|k+1=>g k,by simp[O],λk C Y=>?_⟩;cases k with
     |zero=>cases Y;exact⟨b,rfl,N⟩|succ k=>exact J k C Y
def Rv(H:Hp)(T:Y3)(v:V)(g:Nat->Nat->Int):Prop:=∃a Y,v=.ref a/\H a=some (.tup Y)/\Y.length=T.length/\∀(k c:Nat),T[k]?=some c->∃b,Y[k]?=some (.ref b)/\H b=some (.tup (((List.range c).map (g k)).map V.int))
def ari(e:MW.ag3 d=some ls)(r:Rep K Z H d v):∃g,Rv H ls v g:=by
 cases r with
 |@tup a ds vs h rl =>
  obtain⟨g,Y,T⟩:=ama (show MW.Tv ds=some ls from e) rl;exact⟨g,a,vs,rfl,h,Y,T⟩
 |_=>cases e
def axz{X:Cx}{r:Xs}{us:Zl}(h:Vals (r.map V.int) us):ItemsAre (intKind X.prog X.w) r us:=by
 induction r generalizing us with
 |nil=>cases h;exact .nil
 |cons i r Y =>
  cases h with
  |cons T t =>
   obtain⟨G,rfl⟩:=T;exact .cons (by simp[intKind,Value.isInt]) (Y t)
theorem Rv.at{X:Cx}(h:Rv H ls v g)(I:Inv X pins σ H s)(V:ls≠[])(r:RelV v u):Sr.AtN X.prog X.w s.heap u:=by
 obtain⟨a,vs,rfl,F,K,D⟩:=h;cases r;obtain⟨T,G,⟨o,M,L,n,S⟩,_⟩:=I.tuple (Gd.of F);have J:T.length=ls.length:=G.length.symm.trans K;refine⟨a,o,_,n,rfl,M,L,S,by rw[gm,J];exact List.length_pos_iff.mpr V,λx R=>?_⟩;obtain⟨k,Y⟩:=vf.mp (show x∈T from R);have kl:k<ls.length:=by rw[<-J];exact(ao.mp Y).1
 obtain⟨b,P,A⟩:=D k _ (bx kl);obtain⟨U,B,W⟩:=G.get P;rw[Y]at B;cases B;cases W;obtain⟨js,E,⟨Q,O,Z,C,N⟩,_⟩:=I.tuple (Gd.of A);exact⟨b,_,rfl,Q,_,C,O,Z,N,axz E⟩
def Rv.rep(h:Rv H Z v g)(C:n < U.l.length)(E:U.s n e=g):Rep K U H (MW.syM n e Z) v:=by
 obtain⟨a,vs,rfl,P,O,L⟩:=h;refine .tup P ?_;have:∀(Y:Nat)(Z:Y3)(vs:List V),vs.length=Z.length->(∀(k c:Nat),Z[k]?=some c->∃b,vs[k]?=some (.ref b)/\H b=some (.tup (((List.range c).map (g (Y+k))).map V.int)))->qy K U H ((Z.zipIdx Y).map λq=>MW.syR n e q.2 q.1) vs:=λY Z=>by
  induction Z generalizing Y with
  |nil=>intro vs T _;cases vs with
   |nil=>exact .nil|cons _ _=>cases T
  |cons c Z G =>
   intro vs T h;cases vs with
   |nil=>cases T
   |cons v vs =>
    obtain⟨b,N,B⟩:=h 0 c rfl;cases N;refine .cons (.tup B ?_) (G (Y+1) vs (by simpa using T) λk c J=>by have:=h (k+1) c J;rwa [show Y+(k+1)=Y+1+k by lia]at this);clear B h G T
    induction List.range c with
    |nil=>exact .nil|cons j l G=>exact .cons (by show Rep K U H (.sy n e Y j) (.int (g Y j));rw[<-E];exact .sy C) G
 exact this 0 Z vs O λk c J=>by rw[u5];exact L k c J
def Rv.up(h:Rv H ls v g)(k:∀a Z,H a=some (.tup Z)->U a=some (.tup Z)):Rv U ls v g:=by obtain⟨a,Z,rfl,B,T,J⟩:=h;refine⟨a,Z,rfl,k _ _ B,T,λi c O=>?_⟩;obtain⟨b,Y,G⟩:=J i c O;exact⟨b,Y,k _ _ G⟩
def amb(e:MW.ad5 U M=.ok d M'):∃Z,d=.ref M.length/\M'=M++[.lst (MW.Xu M.length Z U.length)]/\(∀x∈U,MW.ag3 x=some Z/\Z≠[])/\U.length<6000000:=by
 cases U with
 |nil=>cases e;exact⟨[],rfl,rfl,by simp,by decide⟩
 |cons x U =>
  simp only[MW.ad5]at e;cases e1:MW.ag3 x with
  |none=>rw[e1]at e;cases e
  |some Z =>
   rw[e1]at e;obtain⟨⟨J,Y,G⟩,e⟩:=acw e;cases e;exact⟨Z,rfl,rfl,λx T=>⟨Y x T,J⟩,G⟩
def arj{f:Nat->Dv}{g:Nat->V}{l:Y3}(h:∀i∈l,Rep K Z H (f i) (g i)):qy K Z H (l.map f) (l.map g):=by
 induction l with
 |nil=>exact .nil|cons i l Y=>exact .cons (h i (by simp)) (Y λi T=>h i (bw _ T))
def ax0{f:Nat->V}{us:Zl}(h:∀(i:Nat) u,us[i]?=some u->RelV (f i) u):Vals ((List.range us.length).map f) us:=by
 induction us generalizing f with
 |nil=>exact .nil
 |cons u us Y =>
  rw[iw,List.range_succ_eq_map,gq,Ar];exact .cons (h 0 u rfl) (Y λi u T=>h (i+1) u T)
def ark(hr:Bj 8 X.A):Dh X (.builtin "sorted") (rB nm X.K .sorted):=λqv s σ H vs us Q I Wm hh=>by
 obtain⟨B,M,ds,d,M',S,r,e,q⟩:=hh;obtain⟨x,rfl,D⟩:=acv e;cases hx:MW.gr M x with
 |none=>rw[hx]at D;cases D
 |some U =>
  rw[hx]at D;obtain⟨O,rfl,rfl,hm,hl⟩:=amb D;obtain⟨v,rfl,rv⟩:=Kp r rfl;obtain⟨u,rfl,ru⟩:=Vl Wm;obtain⟨p,ws,rfl,hp,rl⟩:=uz S rv hx;cases ru;obtain⟨G,E,pl,_⟩:=I.list (J2.of hp);have l1:G.length=U.length:=by rw[<-E.length,<-rl.length]
  have N:∀u∈G,∃v g,RelV v u/\Rv H O v g/\O≠[]:=λu J=>by
   obtain⟨i,T⟩:=vf.mp J;have Zq:i<U.length:=by rw[<-l1];exact(ao.mp T).1
   obtain⟨v,P,R⟩:=rl.get (bx Zq);obtain⟨u',Z,h4⟩:=E.get P;rw[T]at Z;cases Z;obtain⟨h5,h6⟩:=hm _ (my Zq);obtain⟨g,h7⟩:=ari h5 R;exact⟨v,g,h4,h7,h6⟩
  have J:X.A.in1.in1.units<cLine:=Nat.lt_of_succ_lt (aaw hr.in1.in1)
  refine Calls.call_function_entry PyProof.Rows.kind_sorted PyProof.Rows.plain_sorted PyProof.Rows.entry_sorted (PyProof.Rows.args_sorted1 _) ?_;unfold Builtin.«sorted»;refine aa (m:=checkCount "sorted" 1 1 _) (aj ?_);have z:G.length<=sizeLine:=by rw[l1];exact gf (yq hl) (by decide)
  refine aa (PyProof.Rows.collect_list pl.isList ?_ (by simpa using z));generalize hh':(s.heap.push (PyProof.Rows.seqObj "list" #[] 0)).update s.heap.objs.size (Obj.mapSeq (·++G.toArray))=h';have L:s.heap.objs.size<=h'.objs.size:=by rw[<-hh',Heap.size_update,PyProof.Rows.size_push'];exact vd _
  have kp:∀b o,s.heap.get? b=some o->h'.get? b=some o:=λb o q=>by
   have Hv:b<s.heap.objs.size:=bu q
   rw[<-hh',Heap.get?_update_ne _ _ _ _ (gh Hv),Heap.get?_push_ne _ _ _ (gh Hv)];exact q
  clear hh';refine aa (wpAny_newList ?_ (by simpa using z));have C:(h'.push { cls:=.type "list",data:=.seq G.toArray }).get? h'.objs.size=some { cls:=.type "list",data:=.seq G.toArray }:=cu _ rfl;have Yw:∀b o,h'.get? b=some o->(h'.push { cls:=.type "list",data:=.seq G.toArray }).get? b=some o:=λb o e=>au _ e
  refine aa (jh (jt PyProof.Rows.slot_list_sort ⟨_,C,rfl⟩ PyProof.Rows.entry_list_sort (Sr.akt (n:=0) J C z (λu J=>?_) λqq c Y qk hD F hs=>⟨_,rfl,aj ⟨_,rfl,?_⟩⟩) (PyProof.Rows.args_list_sort _)))
  .obtain⟨v,g,P,R,Z⟩:=N u J
   exact(R.at I Z P).keep λb o _ e=>Yw b o (kp b o e)
  .have ex:∀i:Nat,∃z:V×(Nat->Nat->Int),∀u,Y[i]?=some u->RelV z.1 u/\Rv H O z.1 z.2:=λi=>by
    cases T:Y[i]? with
    |none=>exact⟨(.non,λ_ _=>0),λu h=>by cases h⟩
    |some u =>
     obtain⟨v,g,P,R,_⟩:=N u (hs u (bh T));exact⟨(v,g),λu' h=>by cases h;exact⟨P,R⟩⟩
   obtain⟨f,hf⟩:=Classical.axiomOfChoice ex;have W:=I.Bq.fresh L;have ho:∀le:Le B H (B.adds h'.objs.size λe=>(f e).2) (upd H h'.objs.size (.lst ((List.range Y.length).map λi=>(f i).1))),qy X.K (B.adds h'.objs.size λe=>(f e).2) (upd H h'.objs.size (.lst ((List.range Y.length).map λi=>(f i).1))) (MW.Xu M.length O U.length) ((List.range Y.length).map λi=>(f i).1):=λle=>by
    rw[MW.Xu,<-l1,<-F];refine arj λi T=>?_
    have T:=jk.mp T;refine((hf i _ (bx T)).2.up le.tup).rep ?_ ?_
    .show M.length<(B.l++[h'.objs.size]).length
     rw[jc,S.len];exact j4 _
    .exact congrFun (dj S.len.symm) i
   obtain⟨S2,Bc⟩:=S.news (p:=h'.objs.size) (H':=upd H h'.objs.size (.lst ((List.range Y.length).map λi=>(f i).1))) (o:=.lst (MW.Xu M.length O U.length)) (λe=>(f e).2) W (λa u e=>by rw[o7 (o8 e W)];exact e) λle=>⟨_,yg,ho le⟩
   refine⟨.ref h'.objs.size,_,I.laid (t':=s.toks) (λb o e=>qk b o (gh (bu (kp b o e))) (Yw b o (kp b o e))) L (show Bt X.prog X.w _ qq _ (.lst _)from⟨by rw[dm,yh,F];exact z,Y,c,ax0 λi u J=>(hf i u J).1,hD⟩),rfl,q _ _ _ Bc S2 (.ref ?_)⟩;show(B.l++[h'.objs.size])[M.length]?=_;rw[<-S.len];simp
end Sm
namespace Ck
open PySem L2 Sm
open MW (Ex Ez OEx Q8 De ql Lv Tg Res dz MO Jy Cp Op2 Blt Bm Kx Src)
structure Tab where
 fns:List (Option (Str×Nat))
 cls:List (Option (Str×Nat))
 mts:List (Str×Nat)
 Td:List Str
 ax1:List (Str×Int)
noncomputable def Ql:List Str:=["len","tuple","list","dict","max","min","isinstance","range","enumerate","set","zip","all","bool","int","sum","sorted"]
structure arl(T:Tab)(nm:Nm)(W:Jy)(k:Nat)(P:Program)(w:World)(K:Fg)(mg:Zs)(base:Heap):Prop where
 fn:∀f x n,T.fns[f]?=some (some (x,n))->∃fa fd ps,Hs P w K mg base CX0 k fa fd ps (spF nm W K n f)/\mg x=some (.ref fa)/\PySem.W.keepIn K (.ref fa)=true/\Binds K fd ps []
 cl:∀c x n,T.cls[c]?=some (some (x,n))->∃C fa fd ps cl,Mk K C fa/\Hs P w K mg base CX0 k fa fd ps (spF nm W K (n+1) cl.init)/\mg x=some (.ref C)/\Binds K fd ps []/\W.cls[c]?=some cl/\nm.cls c=some C
 mt:∀m x n,T.mts[m]?=some (x,n)->∃C fa fd ps f,Cls K C/\Meth K C x fa/\Hs P w K mg base CX0 k fa fd ps (spF nm W K (n+1) f)/\Binds K fd ps [] /\
  (∀c' cl',W.cls[c']?=some cl'->∀g,cl'.meths.lookup m=some g->nm.cls c'=some C/\g=f)/\∀i,nm.fld i≠x
 fl:∀f x,T.Td[f]?=some x->x=nm.fld f/\∀c C,nm.cls c=some C->Cls K C/\K8 K C x
 cs:∀x i,(x,i)∈T.ax1->∃t,mg x=some (.int i t)
 bt:∀x∈Ql,mg x=none
structure Ctx where
 N:List Str
 sc:List (Str×NameKind)
 fn:Bool
structure Gf(T:Tab)(nm:Nm)(W:Jy)(k:Nat)(c:Ctx)(X:Cx):Prop where
 N:X.N=c.N
 nd:c.N.Nodup
 sc:X.env.scope.names=c.sc
 kd:X.env.scope.kind=.function
 calm:X.calm=true
 room:Bj (k+16) X.A
 fnl:c.fn=true->(∀n,X.fn n=true)/\PassesOwn (model X.prog X.w) X.A X.env X.xe
 tab:arl T nm W k X.prog X.w X.K X.mg X.base
def Vo{Y U:String}(K:Fg)(h:(if(Value.type Y==Value.type U)=true then some true else if PySem.W.kitMeta U=true then(fastBuiltinMro Y).map (·.contains (.type U))else none)=some b):PySem.W.kitOne K (.type Y) (.type U)=some b:=h
def afy(Y:PySem.W.kitOne K (.type Ty) (.type "tuple")=some a)(T:PySem.W.kitOne K (.type Ty) (.type "list")=some b):PySem.W.kitAny K (.type Ty) [.type "tuple",.type "list"]=some (a||b):=by cases a<;>cases b<;>simp[PySem.W.kitAny,Y,T]
noncomputable def Y4(n:Str):Bool:=!(n==("__debug__": Str))&&(!(n==("__classdict__": Str))&&!(n==("__name__": Str)))
noncomputable def amc(c:Ctx)(n:Str):Bool:=match c.sc.lookup n with|some .local=>true|some .cell=>true|some .free=>true|_=>false
noncomputable def a5b(c:Ctx)(n:Str):Bool:=match c.sc.lookup n with|some .local=>true|some .cell=>c.fn|_=>false
def Uu(c:Ctx)(n:Str):Bool:=Y4 n&&(match c.sc.lookup n with|some .globalImplicit=>true|_=>false)
noncomputable def ajt(c:Ctx)(i:Nat)(n:Str):Bool:=match c.N[i]? with|some m=>m==n|none=>false
def Ci:List Expr->Bool
 |[]=>true|e::r=>noStar e&&Ci r
noncomputable def Y5:Expr->Bool
 |.Name ..=>true|.Attribute ..=>true|.Subscript ..=>true|.Call (.Attribute ..) ..=>true|_=>false
def uv(h:Y4 n=true):(n==("__debug__": Str))=false/\(n==("__classdict__": Str))=false/\n≠"__name__":= by simp only[Y4,az,Bool.not_eq_true']at h;exact⟨h.1,h.2.1,λz=>by have:=h.2.2;rw[z]at this;simp at this⟩
set_option tactic.hygienic true in
def a5c(h:Gf T nm W k c X)(B:amc c n=true):Vis X.env.scope n:=by unfold Vis;rw[h.sc];unfold amc at B;split at B<;>rename_i e<;>first|exact .inl e|exact .inr (.inl e)|exact .inr (.inr e)|cases B
def a5d(h:Gf T nm W k c X)(Y:a5b c n=true):L2.Loc X.env.scope n/\(X.fn n=true\/X.env.scope.names.lookup n=some .local):=by
 unfold L2.Loc;rw[h.sc];unfold a5b at Y;split at Y
 .rename_i e;exact⟨.inl e,.inr e⟩
 .rename_i e;exact⟨.inr e,.inl ((h.fnl Y).1 n)⟩
 .cases Y
def Fy(h:Gf T nm W k c X)(Y:Uu c n=true):Gl X n/\Y4 n=true:=by
 unfold Uu at Y;rw[az]at Y;refine⟨?_,Y.1⟩;have Y:=Y.2;unfold Gl Env.kindOf;rw[h.sc];split at Y
 .rename_i e;exact e
 .cases Y
set_option tactic.hygienic true in
def slot_of(h:Gf T nm W k c X)(B:ajt c i n=true):X.N[i]?=some n:=by
 rw[h.N];unfold ajt at B;split at B
 .rename_i m e;rw[e,eq_of_beq B]
 .cases B
theorem Y6{Y:Env}:∀{T:Ya},Ci T=true->starEach T Y=T.map λe=>(false,eval e Y)
 |[],_=>rfl
 |e::r,h=>by
  simp only[Ci,az]at h;rw[ph h.1,Y6 h.2];rfl
def ye(h:Ci Z=true):(backTo pos (starEach Z env)).any (·.1)=false:=by rw[Y6 h];simp[backTo]
def ahz(h:Ci Z=true):(backTo pos (starEach Z env)).all (λx=>!x.1)=true:=by rw[Y6 h];simp[backTo]
set_option tactic.hygienic true in
def Ib(h:Y5 o=true):attributeBase o n env (eval o env)=eval o env:=by
 cases o<;>try first|rfl|(cases h;done)
 rename_i f as T p;cases f<;>first|rfl|(cases h)
def ax2(h:Y5 o=true)(T:(apos.endLine==pos.line)=true) :
 eval (.Call (.Attribute o m apos) [] [] pos) env=(do
  let Z<-eval o env
  standAt apos.atName
  let (f,first) <-holding [Z] (getMethod Z m (do return (<-importBound o env).getD true))
  callWith pos f first (backTo pos (starEach [] env)) (backToKw pos (keywordEach [] env))):=by
 have Y:methodCallForm 0 (backTo pos (starEach [] env)) (backToKw pos (keywordEach [] env))=true:=rfl;show(do
  let Z<-attributeBase o m env (eval o env)
  standAt apos.atName
  methodCall o m apos pos env Z 0 (backTo pos (starEach [] env)) (backToKw pos (keywordEach [] env)))=_
 rw[Ib h];unfold methodCall;rw[Y];have G:methodCallPos true o env apos pos=pure pos:=by unfold methodCallPos;rw[T];rfl
 rw[G];simp only[calleeOf,lz,pure_bind]
noncomputable def Ed{Y:Type}(o:Option Y)(f:Y->Bool):Bool:=match o with|some x=>f x|none=>false
def j6(h:Ed o f=true):∃x,o=some x/\f x=true:=by
 cases o with
 |none=>cases h|some x=>exact⟨x,rfl,h⟩
noncomputable def Te{α:Type}(l:List α):Option α:=match l with|[x]=>some x|_=>none
def Cw(h:Te l=some x):l=[x]:=by
 cases l with
 |nil=>cases h
 |cons y r=>cases r with
  |nil=>cases h;rfl|cons _ _=>cases h
def Zn{Y:Type}{P:Y->Prop}{o:Option {x//P x}}{q:Y}(h:o.map Subtype.val=some q):P q:=by
 cases o with
 |none=>cases h|some x=>cases h;exact x.2
noncomputable def Og(a:Expr):Option Str:=Option.map Subtype.val (α:={q:Str//∃p,a=.Name q p}) (match a with|.Name n p=>some ⟨n,p,rfl⟩|_=>none)
noncomputable def ax3(a:Expr):Option Const:=Option.map Subtype.val (α:={q:Const//∃k p,a=.Constant q k p}) (match a with|.Constant n k p=>some ⟨n,k,p,rfl⟩|_=>none)
noncomputable def bb6(a:Expr):Option (Expr×Operator×Expr):=Option.map Subtype.val (α:={q:Expr×Operator×Expr//∃p,a=.BinOp q.1 q.2.1 q.2.2 p}) (match a with|.BinOp l o r p=>some ⟨(l,o,r),p,rfl⟩|_=>none)
noncomputable def dUn(a:Expr):Option (UnaryOp×Expr):=Option.map Subtype.val (α:={q:UnaryOp×Expr//∃p,a=.UnaryOp q.1 q.2 p}) (match a with|.UnaryOp o l p=>some ⟨(o,l),p,rfl⟩|_=>none)
noncomputable def ax4(a:Expr):Option (Expr×List CmpOp×List Expr):=Option.map Subtype.val (α:={q:Expr×List CmpOp×List Expr//∃p,a=.Compare q.1 q.2.1 q.2.2 p}) (match a with|.Compare l o r p=>some ⟨(l,o,r),p,rfl⟩|_=>none)
noncomputable def a0j(a:Expr):Option (BoolOp×List Expr×Pos):=Option.map Subtype.val (α:={q:BoolOp×List Expr×Pos//a=.BoolOp q.1 q.2.1 q.2.2}) (match a with|.BoolOp o l p=>some ⟨(o,l,p),rfl⟩|_=>none)
noncomputable def a5e(a:Expr):Option (Expr×Expr×Expr):=Option.map Subtype.val (α:={q:Expr×Expr×Expr//∃p,a=.IfExp q.1 q.2.1 q.2.2 p}) (match a with|.IfExp t l r p=>some ⟨(t,l,r),p,rfl⟩|_=>none)
noncomputable def afz(a:Expr):Option (List Expr):=Option.map Subtype.val (α:={q:List Expr//∃k p,a=.Tuple q k p}) (match a with|.Tuple l k p=>some ⟨l,k,p,rfl⟩|_=>none)
noncomputable def a5f(a:Expr):Option (List Expr):=Option.map Subtype.val (α:={q:List Expr//∃p,a=.List q p}) (match a with|.List l p=>some ⟨l,p,rfl⟩|_=>none)
noncomputable def a5g(a:Expr):Option (List (Option Expr)×List Expr):=Option.map Subtype.val (α:={q:List (Option Expr)×List Expr//∃p,a=.Dict q.1 q.2 p}) (match a with|.Dict k v p=>some ⟨(k,v),p,rfl⟩|_=>none)
noncomputable def arn(a:Expr):Option (Expr×Expr):=Option.map Subtype.val (α:={q:Expr×Expr//∃p,a=.Subscript q.1 q.2 p}) (match a with|.Subscript l r p=>some ⟨(l,r),p,rfl⟩|_=>none)
noncomputable def dSl(a:Expr):Option (Option Expr×Option Expr×Option Expr):=Option.map Subtype.val (α:={q:Option Expr×Option Expr×Option Expr//∃p,a=.Slice q.1 q.2.1 q.2.2 p}) (match a with|.Slice l r s p=>some ⟨(l,r,s),p,rfl⟩|_=>none)
noncomputable def aro(a:Expr):Option (Expr×List Expr×List Keyword×Pos):=Option.map Subtype.val (α:={q:Expr×List Expr×List Keyword×Pos//a=.Call q.1 q.2.1 q.2.2.1 q.2.2.2}) (match a with|.Call f l k p=>some ⟨(f,l,k,p),rfl⟩|_=>none)
noncomputable def arp(a:Expr):Option (Expr×Str×Pos):=Option.map Subtype.val (α:={q:Expr×Str×Pos//a=.Attribute q.1 q.2.1 q.2.2}) (match a with|.Attribute l n p=>some ⟨(l,n,p),rfl⟩|_=>none)
noncomputable def af0(a:Expr):Option (Expr×List Comprehension×Scope):=Option.map Subtype.val (α:={q:Expr×List Comprehension×Scope//∃p,a=.ListComp q.1 q.2.1 q.2.2 p}) (match a with|.ListComp e g s p=>some ⟨(e,g,s),p,rfl⟩|_=>none)
def Ha(h:Og a=some n):∃p,a=.Name n p:=(Zn h :)
def ac0(h:ax3 a=some n):∃k p,a=.Constant n k p:=(Zn h :)
def ax5(h:bb6 a=some (l,o,r)):∃p,a=.BinOp l o r p:=(Zn h :)
def arq(h:dUn a=some (o,l)):∃p,a=.UnaryOp o l p:=(Zn h :)
def ac8(h:ax4 a=some (l,o,r)):∃p,a=.Compare l o r p:=(Zn h :)
def ars(h:a0j a=some (o,r,p)):a=.BoolOp o r p:=(Zn h :)
def ax6(h:a5e a=some (t,l,r)):∃p,a=.IfExp t l r p:=(Zn h :)
def Nr(h:afz a=some l):∃k p,a=.Tuple l k p:=(Zn h :)
def aju(h:a5f a=some l):∃p,a=.List l p:=(Zn h :)
def ajv(h:a5g a=some (k,l)):∃p,a=.Dict k l p:=(Zn h :)
def ac9(h:arn a=some (l,r)):∃p,a=.Subscript l r p:=(Zn h :)
def a5h(h:dSl a=some (l,r,s)):∃p,a=.Slice l r s p:=(Zn h :)
def af1(h:aro a=some (f,l,k,p)):a=.Call f l k p:=(Zn h :)
def ada(h:arp a=some (l,n,p)):a=.Attribute l n p:=(Zn h :)
def Uj(h:af0 a=some (e,g,s)):∃p,a=.ListComp e g s p:=(Zn h :)
def dCN(a:Expr):Option (Str×List Expr):=(aro a).bind λq=>if q.2.2.1.isEmpty then(Og q.1).map λn=>(n,q.2.1)else none
def Ht(h:dCN a=some (n,l)):∃p p',a=.Call (.Name n p) l [] p':=by
 obtain⟨⟨f,O,k,p⟩,J,Y⟩:=ik.mp h;split at Y
 .rename_i T
  obtain⟨C,B,G⟩:=dg.mp Y;obtain⟨p',e⟩:=Ha B;have e:f=_:=e;have T:k=[]:=rm.mp T;cases G;exact⟨p',p,by rw[af1 J,e,T]⟩
 .cases Y
def dCA(a:Expr):Option (Expr×Str×Pos×List Expr×Pos):=(aro a).bind λq=>if q.2.2.1.isEmpty then(arp q.1).map λn=>(n.1,n.2.1,n.2.2,q.2.1,q.2.2.2)else none
def art(h:dCA a=some (o,n,ap,l,p)):a=.Call (.Attribute o n ap) l [] p:=by
 obtain⟨⟨f,C,k,N⟩,J,Y⟩:=ik.mp h;split at Y
 .rename_i T
  obtain⟨⟨E,L,B⟩,O,G⟩:=dg.mp Y;have e:f=_:=ada O;have T:k=[]:=rm.mp T;cases G;rw[af1 J,e,T]
 .cases Y
noncomputable def bb7(l:Ya):List Str:=l.filterMap Og
noncomputable def Fz(e:Expr):List Str:=match afz e with|some l=>bb7 l|none=>bb7 [e]
noncomputable def hid(i:Nat):Str:=⟨#[0,i]⟩
def amd(Y:Yf)(p:Str×Nat):Str:=if Y.contains p.1=true then hid p.2 else p.1
noncomputable def Wv(N Y:Yf):List Str:=N.zipIdx.map (amd Y)++Y
noncomputable def ax7(c:Ctx)(Y:X0):List (Str×NameKind):=Y.map λy=>if(y.2==NameKind.free&&c.sc.lookup y.1==some .cell)then(y.1,NameKind.cell)else(y.1,y.2)
def af2(c:Ctx)(Y:Scope)(T:Yf):Ctx:=⟨Wv c.N T,ax7 c Y.names,false⟩
def a5i(c:Ctx)(Y:Scope)(T:Yf):Bool:=
 decide (Y.kind=.function)&&(Y.names.all (λy=>!(y.2==NameKind.cell))&&(Y.names.all (λy=>Y.names.lookup y.1==some y.2) &&
 (Y.names.all (λy=>!(y.2==NameKind.free)||(c.sc.lookup y.1==some .cell||c.sc.lookup y.1==some .free))&&(decide ((Wv c.N T).Nodup) &&
 c.N.zipIdx.all (λp=>!(amc (af2 c Y T) (amd T p))||(amd T p==p.1&&Y.names.lookup (amd T p)==some .free))))))
noncomputable def bb8:Op2->Operator
 |.add=>.Add|.sub=>.Sub|.mul=>.Mult|.fdiv=>.FloorDiv|.mod=>.Mod|.pow=>.Pow
noncomputable def ax8:Cp->Option CmpOp
 |.eq=>some .Eq|.ne=>some .NotEq|.lt=>some .Lt|.le=>some .LtE|.gt=>some .Gt|.ge=>some .GtE|.inn=>some .In|.Tu=>some .NotIn|.isn=>some .IsNot
noncomputable def a5j:Blt->Option Str
 |.len=>some "len"|.tuple=>some "tuple"|.list=>some "list"|.dict=>some "dict"|.max=>some "max"|.min=>some "min"
 |.all=>some "all"|.sorted=>some "sorted"
 |_=>none
noncomputable def bmN:Bm->Option Str
 |.append=>some "append"|.extend=>some "extend"|.index=>some "index"|.get=>some "get"
def a5k(T:Tab)(c:Ctx)(d:MW.D)(a:Expr):Bool:=
 match d with
 |.int i=>Ed (ax3 a) (λk=>decide (k=.int i))||Ed (Og a) λn=>Uu c n&&T.ax1.contains (n,i)
 |.bl i=>Ed (ax3 a) λk=>decide (k=.bool i)
 |.non=>Ed (ax3 a) λk=>decide (k=.none)
 |_=>false
def tg1(c:Ctx)(Y i:Nat)(e:Expr):Bool:=Ed (Og e) λn=>ajt c i n&&(a5b c n&&decide (Y<=i))
def ame(c:Ctx)(Y:Nat):List Nat->List Expr->Bool
 |[],[]=>true|i::is,e::ts=>tg1 c Y i e&&ame c Y is ts|_,_=>false
def tgB(c:Ctx)(Y:Nat)(t:Tg)(e:Expr):Bool:=
 match t with
 |.name i=>tg1 c Y i e|.names is=>Ed (afz e) λT=>ame c Y is T
def Uk(e:Expr):Bool:=(a5e e).isNone
noncomputable def fnB(l:List (Option (Str×Nat)))(f:Nat)(n:Str)(k:Nat):Bool:=decide (l[f]?=some (some (n,k)))
noncomputable def mtB(l:List (Str×Nat))(f:Nat)(n:Str)(k:Nat):Bool:=decide (l[f]?=some (n,k))
noncomputable def flB(l:Yf)(f:Nat)(n:Str):Bool:=decide (l[f]?=some n)
def ajx(c:Ctx)(k:Nat)(t:Tg)(g:Comprehension)(Y:Scope):Bool:=
 a5i c Y (Fz g.target)&&((k==(Fz g.target).length)&&(tgB (af2 c Y (Fz g.target)) c.N.length t g.target&&(Hw g.iter&&decide (g.is_async=0))))
def aru(o:BoolOp)(a:Expr)(x y:Expr->Bool):Bool:=
 Ed (a0j a) λq=>decide (q.1=o)&&(match q.2.1 with
  |l::r::rest=>(Uk l&&x l)&&(match rest with|[]=>Uk r&&y r|_::_=>y (.BoolOp o (r::rest) q.2.2))
  | _=>false)
def arv(c:Ctx)(T:Str)(a:Expr)(f:Expr->Bool):Bool:=Ed (dCN a) λq=>match q.2 with
 |[l,t]=>Ed (Og t) λY=>(decide (q.1 ="isinstance")&&decide (Y=T))&&((Uu c q.1&&Uu c Y)&&(noStar l&&f l))
 |_=>false
def a5l(c:Ctx)(a:Expr)(f:Expr->Bool):Bool:=Ed (dCN a) λq=>match q.2 with
 |[l,t]=>Ed (afz t) λG=>match G with
  |[u,v]=>Ed (Og u) λY=>Ed (Og v) λT=>(decide (q.1 ="isinstance")&&(decide (Y ="tuple")&&decide (T ="list")))&&((Uu c q.1&&(Uu c Y&&Uu c T))&&(noStar l&&f l))
  |_=>false
 |_=>false
def ax9(h:arv c ty a f=true):∃l p U Z,a=.Call (.Name "isinstance" p) [l,.Name ty U] [] Z/\Uu c "isinstance"= true/\Uu c ty=true/\noStar l=true/\f l=true:=by
 obtain⟨⟨n,B⟩,E,T⟩:=j6 h;clear h;obtain⟨p,N,rfl⟩:=Ht E;rcases B with _|⟨l,_|⟨t,_|⟨_,_⟩⟩⟩<;>try cases T
 obtain⟨Y,J,h⟩:=j6 (f:=λY=>(decide (n ="isinstance")&&decide (Y=ty))&&((Uu c n&&Uu c Y)&&(noStar l&&f l))) T;obtain⟨Z,rfl⟩:=Ha J;simp only[az,f9]at h;obtain⟨⟨rfl,rfl⟩,⟨L,G⟩,O,C⟩:=h;exact⟨l,p,Z,N,rfl,L,G,O,C⟩
def aya(h:a5l c a f=true):∃l p p1 p2 Z k U,a=.Call (.Name "isinstance" p) [l,.Tuple [.Name "tuple" p1,.Name "list" p2] k Z] [] U/\Uu c "isinstance"= true/\Uu c "tuple"= true/\Uu c "list"= true/\noStar l=true/\f l=true:=by
 obtain⟨⟨n,G⟩,N,Y⟩:=j6 h;clear h;obtain⟨p,S,rfl⟩:=Ht N;rcases G with _|⟨l,_|⟨t,_|⟨_,_⟩⟩⟩<;>try cases Y
 obtain⟨L,R,h⟩:=j6 (o:=afz t) Y;obtain⟨k,Z,rfl⟩:=Nr R;rcases L with _|⟨u,_|⟨v,_|⟨_,_⟩⟩⟩<;>try cases h
 obtain⟨W,H,h⟩:=j6 (o:=Og u) h;obtain⟨V,B,h⟩:=j6 (o:=Og v) h;obtain⟨E,rfl⟩:=Ha H;obtain⟨T,rfl⟩:=Ha B;simp only[az,f9]at h;obtain⟨⟨rfl,rfl,rfl⟩,⟨Q,P,C⟩,O,J⟩:=h;exact⟨l,p,E,T,Z,k,S,rfl,Q,P,C,O,J⟩
def arw(c:Ctx)(Y T:Str)(a:Expr)(f:Expr->Bool):Bool:=Ed (dCN a) λq=>Ed (Te q.2) λr=>Ed (dCN r) λu=>Ed (Te u.2) λl=>((decide (q.1=Y)&&decide (u.1=T))&&(Uu c q.1&&Uu c u.1))&&(noStar l&&f l)
def adb(h:arw c ty U a f=true):∃l p p1 Z p3,a=.Call (.Name ty p) [.Call (.Name U p1) [l] [] Z] [] p3/\Uu c ty=true/\Uu c U=true/\noStar l=true/\f l=true:=by replace h:=j6 h;obtain⟨⟨n,P⟩,L,h⟩:=h;obtain⟨p,O,rfl⟩:=Ht L;replace h:=j6 h;obtain⟨r,G,h⟩:=h;cases Cw G;replace h:=j6 h;obtain⟨⟨m,R⟩,C,h⟩:=h;obtain⟨Z,T,rfl⟩:=Ht C;replace h:=j6 h;obtain⟨l,Y,h⟩:=h;cases Cw Y;simp only[az,f9]at h;obtain⟨⟨⟨rfl,rfl⟩,B,J⟩,N,E⟩:=h;exact⟨l,p,Z,T,O,rfl,B,J,N,E⟩
mutual
def Bb(T:Tab):Ex->Ctx->Expr->Bool
 |.var i,c,a=>Ed (Og a) λn=>ajt c i n&&(amc c n&&Y4 n)
 |.cst d,c,a=>a5k T c d a|.bin op x y,c,a=>Ed (bb6 a) λq=>decide (q.2.1=bb8 op)&&(Bb T x c q.1&&Bb T y c q.2.2)
 |.neg x,c,a=>Ed (dUn a) λq=>decide (q.1=.USub)&&Bb T x c q.2
 |.cmp op x y,c,a=>Ed (ax4 a) λq=>Ed (Te q.2.1) λo=>Ed (Te q.2.2) λr=>decide (ax8 op=some o)&&(Hw r&&(Bb T x c q.1&&Bb T y c r))
 |.chain o1 o2 x y z,c,a=>Ed (ax4 a) λq=>match q.2.1,q.2.2 with
  |[p1,p2],[r,s]=>(decide (ax8 o1=some p1)&&decide (ax8 o2=some p2))&&(Hw s&&(Bb T x c q.1&&(Bb T y c r&&Bb T z c s)))|_,_=>false
 |.and x y,c,a=>aru .And a (Bb T x c) (Bb T y c)|.or x y,c,a=>aru .Or a (Bb T x c) (Bb T y c)|.not x,c,a=>Ed (dUn a) λq=>decide (q.1=.Not)&&(Uk q.2&&Bb T x c q.2)
 |.ite t x y,c,a=>Ed (a5e a) λq=>Uk q.1&&(Bb T t c q.1&&(Bb T x c q.2.1&&Bb T y c q.2.2))
 |.tup es,c,a=>Ed (afz a) λl=>decide (Ez.len es<=1000)&&Oh T es c l
 |.lst es,c,a=>Ed (a5f a) λl=>decide (Ez.len es<=1000)&&Oh T es c l
 |.Lh es,c,a=>Ed (a5f a) λl=>decide (Ez.len es<=1000)&&Oh T es c l
 |.agy,_,a=>Ed (a5g a) λq=>q.1.isEmpty&&q.2.isEmpty
 |.agz,_,a=>Ed (a5g a) λq=>q.1.isEmpty&&q.2.isEmpty
 |.ix x y,c,a=>Ed (arn a) λq=>acq q.2&&(Bb T x c q.1&&Bb T y c q.2)
 |.cut x lo hi,c,a=>Ed (arn a) λq=>Ed (dSl q.2) λs=>s.2.2.isNone&&(Bb T x c q.1&&(a5m T lo c s.1&&a5m T hi c s.2.1))
 |.call f es,c,a=>Ed (dCN a) λq=>(fnB T.fns f q.1 (Ez.len es)&&(Uu c q.1&&!q.2.isEmpty))&&Oh T es c q.2
 |.make f es,c,a=>Ed (dCN a) λq=>(fnB T.cls f q.1 (Ez.len es)&&(Uu c q.1&&!q.2.isEmpty))&&Oh T es c q.2
 |.meth o m,c,a=>Ed (dCA a) λq=>((mtB T.mts m q.2.1 0&&Y5 q.1)&&((q.2.2.1.endLine==q.2.2.2.2.line)&&q.2.2.2.1.isEmpty))&&Bb T o c q.1
 |.fld o f,c,a=>Ed (arp a) λq=>(flB T.Td f q.2.1&&Y5 q.1)&&Bb T o c q.1
 |.blt .J7 (.cons x .nil),c,a=>arw c "sorted" "set" a (Bb T x c)|.blt .isTuple (.cons x .nil),c,a=>arv c "tuple" a (Bb T x c)|.blt .isList (.cons x .nil),c,a=>arv c "list" a (Bb T x c)|.blt .isBool (.cons x .nil),c,a=>arv c "bool" a (Bb T x c)|.blt .isSeq (.cons x .nil),c,a=>a5l c a (Bb T x c)|.blt b es,c,a=>Ed (dCN a) λq=>(decide (a5j b=some q.1)&&(Uu c q.1&&!q.2.isEmpty))&&Oh T es c q.2
 |.bm m o es,c,a=>Ed (dCA a) λq=>((decide (bmN m=some q.2.1)&&Y5 q.1)&&(decide (q.2.2.2.1.length<29)&&((q.2.2.1.endLine==q.2.2.2.2.line)&&!q.2.2.2.1.isEmpty)))&&(Bb T o c q.1&&Oh T es c q.2.2.2.1)
 |.comp v k t it e,c,a=>Ed (af0 a) λq=>Ed (Te q.2.1) λg=>(ajx c k t g q.2.2&&g.ifs.isEmpty)&&(ayb T it c g.target g.iter&&Bb T e (af2 c q.2.2 (Fz g.target)) q.1)
 |.Ef v k t it i e,c,a=>Ed (af0 a) λq=>Ed (Te q.2.1) λg=>Ed (Te g.ifs) λd=>(ajx c k t g q.2.2&&Uk d)&&(ayb T it c g.target g.iter&&(Bb T i (af2 c q.2.2 (Fz g.target)) d&&Bb T e (af2 c q.2.2 (Fz g.target)) q.1))
 |.Xp x y,c,a=>Ed (ax4 a) λq=>Ed (Te q.2.1) λo=>Ed (Te q.2.2) λr=>Ed (dCN q.1) λu=>Ed (dCN r) λv=>Ed (Te u.2) λl=>Ed (Te v.2) λm =>
  ((decide (o=.NotEq)&&decide (u.1 ="set"))&&(decide (v.1 ="set")&&Uu c u.1))&&((noStar l&&noStar m)&&(Bb T x c l&&Bb T y c m))
 |.Zu x,c,a=>arw c "tuple" "range" a (Bb T x c)|.ag1 x,c,a=>arw c "list" "range" a (Bb T x c)
def Oh(T:Tab):Ez->Ctx->List Expr->Bool
 |.nil,_,a=>a.isEmpty|.cons e es,c,a=>match a with|l::ls=>noStar l&&(Bb T e c l&&Oh T es c ls)|_=>false
def a5m(T:Tab):OEx->Ctx->Option Expr->Bool
 |.none,_,a=>a.isNone|.some e,c,a=>Ed a (Bb T e c)
def ayb(T:Tab):Q8->Ctx->Expr->Expr->Bool
 |.val e,c,_,a=>Bb T e c a|.U4 e,c,_,a=>Ed (dCN a) λq=>Ed (Te q.2) λl=>(decide (q.1 ="range")&&Uu c q.1)&&(noStar l&&Bb T e c l)
 |.enm e,c,tg,a=>Ed (dCN a) λq=>Ed (Te q.2) λl=>((afz tg).isSome&&(decide (q.1 ="enumerate")&&Uu c q.1))&&(noStar l&&Bb T e c l)
 |.zip es,c,tg,a=>Ed (dCN a) λq=>((afz tg).isSome&&(decide (q.1 ="zip")&&(Uu c q.1&&!q.2.isEmpty)))&&(decide (Ez.len es=2)&&Oh T es c q.2)
end
def Rx(h:Gf T nm W k c X)(Y:Scope):(relabel Y X.env).names=ax7 c Y.names:=by
 unfold relabel ax7;refine yu λy _=>?_
 obtain⟨n,kd⟩:=y;show(if(kd==NameKind.free&&X.env.scope.kind==.function&&X.env.kindOf n==some .cell)=true then _ else _)=_;have e:(kd==NameKind.free&&X.env.scope.kind==.function&&X.env.kindOf n==some .cell)=(kd==NameKind.free&&c.sc.lookup n==some .cell):=by unfold Env.kindOf;rw[h.kd,h.sc];simp
 rw[e]
def a5n(h:Gf T nm W k c X)(L:a5i c sc Z=true):Hz X (Wv c.N Z) sc/\∀C U s H,Gf T nm W k (af2 c sc Z) (Ov X (Wv c.N Z) sc C U s H):=by
 simp only[a5i,az,f9,jf]at L;obtain⟨E,F,K,P,Q,S⟩:=L;have Y:∀x kd,(x,kd)∈sc.names->sc.names.lookup x=some kd:=λx kd m=>by have:=K (x,kd) m;simpa using this
 refine⟨⟨E,λy m=>by have:=F y m;simpa using this,λy m e=>by rw[Y y.1 y.2 m,e],λy m e=>?_,Y,?_,λi x B G O=>?_⟩,λC U s H=>⟨rfl,Q,Rx h sc,E,h.calm,h.room,(λz=>by cases z),h.tab⟩⟩
 .have:=P y m
  rw[e]at this;unfold Env.kindOf;rw[h.sc];simpa using this
 .rw[h.N];simp[Wv]
 .rw[h.N]at B
  have V:i<(c.N.zipIdx.map (amd Z)).length:=by simpa using B
  unfold Wv at G;rw[gn V,ig,z8]at G;obtain⟨n,J⟩:∃n,c.N[i]?=some n:=⟨c.N[i],by simp[B]⟩;rw[J]at G;have G:amd Z (n,i)=x:=by simpa using G
  have m:(n,i)∈c.N.zipIdx:=by rw[vf];exact⟨i,by rw[z8,J];simp⟩
  have q:=S (n,i) m;rw[G]at q;have v:amc (af2 c sc Z) x=true:=by unfold Vis at O;rw[Rx h]at O;unfold amc;show(match(ax7 c sc.names).lookup x with|some .local=>true|some .cell=>true|some .free=>true|_=>false)=true;rcases O with e|e|e<;>rw[e]
  rw[v]at q;simp only[qz,Bool.false_or,az]at q;rw[h.N,J];have R:x=n:=eq_of_beq q.1;exact⟨by rw[R],by have:=q.2;simpa using this⟩
def bb9(h:o=bb8 op):Ej X (binaryOp o) (rOp nm X.K (MW.Ey op)):=by
 subst h;cases op with
 |add=>exact ba0|sub=>exact baw|mul=>exact baz|fdiv=>exact a4c|mod=>exact bax|pow=>exact bay
def arx(Y:Bj 8 X.A)(h:ax8 op=some o):Ej X (compareOp o) (Yn nm X.K op):=by
 have T:Bj 6 X.A:=Y.mono (by decide);cases op with
 |eq=>cases h;exact bg0 T|ne=>cases h;exact bg1 T|lt=>cases h;exact bgp|le=>cases h;exact bgq|gt=>cases h;exact bgr|ge=>cases h;exact bgs|inn=>cases h;exact bg2 Y|Tu=>cases h;exact aw7 Y|isn=>cases h;exact bb5
def ah0(h:Gf T nm W k c X)(G:tg1 c lo i e=true):∃n p,e=.Name n p/\X.N[i]?=some n/\L2.Loc X.env.scope n/\(X.fn n=true\/X.env.scope.names.lookup n=some .local)/\lo<=i:=by obtain⟨n,B,Y⟩:=j6 G;obtain⟨p,rfl⟩:=Ha B;simp only[az,f9]at Y;obtain⟨J,O⟩:=a5d h Y.2.1;exact⟨n,p,rfl,slot_of h Y.1,J,O,Y.2.2⟩
theorem arz{T:Tab}{N:Nm}{W:Jy}{k:Nat}{c:Ctx}{X:Cx}(h:Gf T N W k c X){G:Nat}:∀{is:Y3}{Y:Ya},ame c G is Y=true->Nq X Y is/\∀i∈is,G<=i
 |[],[],_=>⟨.nil,by simp⟩|[],_::_,e=>by cases e|_::_,[],e=>by cases e
 |i::is,a::Y,e=>by
  unfold ame at e;rw[az]at e;obtain⟨n,p,rfl,J,E,O,B⟩:=ah0 h e.1;obtain⟨L,P⟩:=arz h e.2;refine⟨.cons J E O L,λj C=>?_⟩;rcases dh.mp C with z|z
  .rw[z];exact B
  .exact P j z
def af3(h:Gf T nm W k c X)(Y:tgB c lo t e=true):PG X e (tGt nm X.K t)/\∀i∈Df t,lo<=i:=by
 have G:X.N.Nodup:=by rw[h.N];exact h.nd
 cases t with
 |name i =>
  obtain⟨n,p,rfl,J,E,L,C⟩:=ah0 h Y;exact⟨a4h G J E L,λi O=>by rw[ie.mp O];exact C⟩
 |names is =>
  obtain⟨Q,R,B⟩:=j6 Y;obtain⟨H,p,rfl⟩:=Nr R;obtain⟨P,S⟩:=arz h B;exact⟨aw1 h.calm G P,S⟩
structure Got(nm:Nm)(W:Jy)(X:Cx)(a:Expr)(e:Ex):Prop where
 v:PE X a (tE nm W X.K e)
 q:Uk a=true->PT X a (tQ nm W X.K e)
 w:∀op ls p,a=.BoolOp op ls p->PW X a (tQ nm W X.K e)
noncomputable def bca:Expr->Bool
 |.BoolOp ..=>false|.UnaryOp .Not _ _=>false|.IfExp ..=>false|.Compare ..=>false|_=>true
set_option tactic.hygienic true in
def za(h:PE X a (tE nm W X.K e))(T:bca a=true):Got nm W X a e:=by
 refine⟨h,λL=>ba2 h λB=>?_,λO N p z=>by subst z;cases T⟩;cases a<;>first|rfl|(cases T)|skip
 rename_i O x p;cases O<;>first|rfl|cases T
def a5o(h:Gf T nm W k c X)(Y:a5k T c d a=true):PE X a (tE nm W X.K (.cst d))/\bca a=true:=by
 cases d with
 |int i =>
  simp only[a5k,Bool.or_eq_true]at Y;rcases Y with Y|Y
  .obtain⟨k,J,G⟩:=j6 Y
   obtain⟨j,p,rfl⟩:=ac0 J;rw[kh G];exact⟨bas,rfl⟩
  .obtain⟨n,J,G⟩:=j6 Y
   obtain⟨p,rfl⟩:=Ha J;rw[az]at G;obtain⟨O,C⟩:=Fy h G.1;obtain⟨t,B⟩:=h.tab.cs _ _ (List.contains_iff_mem.mp G.2);exact⟨a4a O B (uv C).1,rfl⟩
 |bl i =>
  obtain⟨k,J,G⟩:=j6 Y;obtain⟨j,p,rfl⟩:=ac0 J;rw[kh G];exact⟨bgn,rfl⟩
 |non =>
  obtain⟨k,J,G⟩:=j6 Y;obtain⟨j,p,rfl⟩:=ac0 J;rw[kh G];exact⟨bau,rfl⟩
 |_=>cases Y
section
variable{T:Tab}{nm:Nm}{W:Jy}{k:Nat}
def Gf.r8(h:Gf T nm W k c X):Bj 8 X.A:=h.room.mono (by lia)
theorem Gf.mg(h:Gf T nm W k c X)(m:n∈Ql):X.mg n=none:=h.tab.bt n m
theorem Wn{c:Ctx}{Y:Nat}:∀{is:Y3}{J:Ya},ame c Y is J=true->∀i∈is,Y<=i
 |[],_,_=>by simp|_::_,[],e=>by cases e
 |i::is,a::J,e=>by
  unfold ame at e;rw[az]at e;intro j B;rcases dh.mp B with z|z
  .obtain⟨n,O,G⟩:=j6 e.1
   simp only[az,f9]at G;rw[z];exact G.2.2
  .exact Wn e.2 j z
def ah1(h:tgB c lo t e=true):∀i∈Df t,lo<=i:=by
 cases t with
 |name j =>
  obtain⟨n,G,Y⟩:=j6 h;simp only[az,f9]at Y;intro i J;rw[ie.mp J];exact Y.2.2
 |names is =>
  obtain⟨B,G,Y⟩:=j6 h;exact Wn Y
def ar0:(Wv N Z).length-N.length=Z.length:=by simp[Wv]
def Ul(Y:Gf T nm W k c X)(h:ajx c j t g sc=true) :
 Hw g.iter=true/\g.is_async=0/\Hz X (Wv c.N (Fz g.target)) sc/\(∀C Z s H,Gf T nm W k (af2 c sc (Fz g.target)) (Ov X (Wv c.N (Fz g.target)) sc C Z s H)) /\
 (∀C Z s H,PG (Ov X (Wv c.N (Fz g.target)) sc C Z s H) g.target (tGt nm X.K t))/\(Wv c.N (Fz g.target)).length-X.N.length=j/\∀i∈Df t,X.N.length<=i:=by
 simp only[ajx,az,f9]at h;obtain⟨O,R,G,E,L⟩:=h;obtain⟨B,J⟩:=a5n Y O;exact⟨E,L,B,J,λC Z s H=>(af3 (J C Z s H) G).1,by rw[Y.N,ar0];exact(eq_of_beq R).symm,λi P=>by rw[Y.N];exact ah1 G i P⟩
def ajy(h:aru o a x y=true):(∃l r p,a=.BoolOp o [l,r] p/\Uk l=true/\x l=true/\Uk r=true/\y r=true) \/
 ∃l r s Z p,a=.BoolOp o (l::r::s::Z) p/\Uk l=true/\x l=true/\y (.BoolOp o (r::s::Z) p)=true:=by
 obtain⟨⟨O,G,p⟩,B,Y⟩:=j6 h;cases ars B;rw[az]at Y;obtain⟨J,Y⟩:=Y;cases kh J;cases G with
 |nil=>cases Y
 |cons l G=>cases G with
  |nil=>cases Y
  |cons r Z =>
   cases Z with
   |nil =>
    have Y:((Uk l&&x l)&&(Uk r&&y r))=true:=Y;simp only[az]at Y;exact .inl ⟨l,r,p,rfl,Y.1.1,Y.1.2,Y.2.1,Y.2.2⟩
   |cons s Z =>
    have Y:((Uk l&&x l)&&y (.BoolOp O (r::s::Z) p))=true:=Y;simp only[az]at Y;exact .inr ⟨l,r,s,Z,p,rfl,Y.1.1,Y.1.2,Y.2⟩
def a5p(N:Gf T nm W k c X)(Y:a5j b=some n)(E:Uu c n=true)(G:PA X (l::ls) (Zm nm W X.K U))(L:Ci (l::ls)=true):PE X (.Call (.Name n p) (l::ls) [] Z) (tE nm W X.K (.blt b U)):=by
 obtain⟨B,P⟩:=Fy N E;obtain⟨C,R,J⟩:=uv P;simp only[Ci,az]at L;have st:=ph L.1 ls X.env;have O:=ye (env:=X.env) (pos:=Z) L.2;have mg:n∈Ql->X.mg n=none:=N.mg;cases b with
 |len=>cases Y;exact afi (id :="len") bbn B (mg (by decide+kernel)) (by decide+kernel) G J C st O|max=>cases Y;exact afi (id :="max") (bbt N.calm) B (mg (by decide+kernel)) (by decide+kernel) G J C st O|all=>cases Y;exact afi (id :="all") (bb2 N.calm) B (mg (by decide+kernel)) (by decide+kernel) G J C st O|sorted=>cases Y;exact afi (id :="sorted") (ark N.r8) B (mg (by decide+kernel)) (by decide+kernel) G J C st O|min=>cases Y;exact afi (id :="min") (bbw N.calm) B (mg (by decide+kernel)) (by decide+kernel) G J C st O|tuple=>cases Y;exact ahu (T :="tuple") aw4 B (mg (by decide+kernel)) (by decide+kernel) G J C st O|list=>cases Y;exact ahu (T :="list") a4t B (mg (by decide+kernel)) (by decide+kernel) G J C st O|dict=>cases Y;exact ahu (T :="dict") a4v B (mg (by decide+kernel)) (by decide+kernel) G J C st O|_=>cases Y
def Y7{Y:Type}{l:List Y}(h:(!l.isEmpty)=true):∃x r,l=x::r:=by
 cases l with
 |nil=>cases h|cons x r=>exact⟨x,r,rfl⟩
set_option tactic.hygienic true in
mutual
theorem jz:∀(e:Ex){c:Ctx}{X:Cx}{a:Expr},Gf T nm W k c X->Bb T e c a=true->Got nm W X a e
 |.var i,c,X,a,hc,h=>by
  replace h:=j6 h;obtain⟨n,Y,h⟩:=h;obtain⟨p,rfl⟩:=Ha Y;simp only[az]at h;exact za (baq (slot_of hc h.1) (a5c hc h.2.1) (uv h.2.2).1 (uv h.2.2).2.1) rfl
 |.cst d,c,X,a,hc,h=>by
  obtain⟨Y,J⟩:=a5o hc h;exact za Y J
 |.bin op x y,c,X,a,hc,h=>by
  replace h:=j6 h;obtain⟨⟨l,o,r⟩,Y,h⟩:=h;obtain⟨p,rfl⟩:=ax5 Y;simp only[az,f9]at h;exact za (bav (bb9 h.1) (jz x hc h.2.1).v (jz y hc h.2.2).v) rfl
 |.neg x,c,X,a,hc,h=>by
  replace h:=j6 h;obtain⟨⟨o,l⟩,Y,h⟩:=h;obtain⟨p,rfl⟩:=arq Y;simp only[az,f9]at h;obtain⟨rfl,h⟩:=h;exact za (bbc (jz x hc h).v) rfl
 |.cmp op x y,c,X,a,hc,h=>by
  replace h:=j6 h;obtain⟨⟨l,o,r⟩,Y,h⟩:=h;obtain⟨p,rfl⟩:=ac8 Y;replace h:=j6 h;obtain⟨o1,J,h⟩:=h;replace h:=j6 h;obtain⟨r1,N,h⟩:=h;cases Cw J;cases Cw N;simp only[az,f9]at h;have g:=arx (nm:=nm) hc.r8 h.1;have m:=Wj h.2.1 o1;exact⟨ba3 g (jz x hc h.2.2.1).v (jz y hc h.2.2.2).v m,λ_=>ba4 g (jz x hc h.2.2.1).v (jz y hc h.2.2.2).v m,λ_ _ _ z=>by cases z⟩
 |.chain o1 o2 x y z,c,X,a,hc,h=>by
  replace h:=j6 h;obtain⟨⟨l,o,r⟩,Y,h⟩:=h;obtain⟨p,rfl⟩:=ac8 Y;dsimp only at h;split at h
  .rename_i p1 D r s
   simp only[az,f9]at h;have O:=arx (nm:=nm) hc.r8 h.1.1;have G:=arx (nm:=nm) hc.r8 h.1.2;have m:lastMarks [p1,D] [r,s]=false:=Wj h.2.1 D;exact⟨awz O G (jz x hc h.2.2.1).v (jz y hc h.2.2.2.1).v (jz z hc h.2.2.2.2).v m,λ_=>aw0 O G (jz x hc h.2.2.1).v (jz y hc h.2.2.2.1).v (jz z hc h.2.2.2.2).v m,λ_ _ _ z=>by cases z⟩
  .cases h
 |.and x y,c,X,a,hc,h=>by
  rcases ajy h with⟨l,r,p,rfl,Y,J,N,L⟩|⟨l,r,s,Z,p,rfl,Y,J,N⟩
  .have O:=jz x hc J
   have G:=jz y hc L;have w:=a0a (pos:=p) (rest:=[]) (O.q Y) (av2 (G.q N));exact⟨az9 O.v (a0i G.v),λ_=>w.pt,λ_ _ _ _=>w⟩
  .have O:=jz x hc J
   have G:=jz y hc N;have w:=a0a (O.q Y) (G.w _ _ _ rfl);exact⟨az9 O.v G.v,λ_=>w.pt,λ_ _ _ _=>w⟩
 |.or x y,c,X,a,hc,h=>by
  rcases ajy h with⟨l,r,p,rfl,Y,J,N,L⟩|⟨l,r,s,Z,p,rfl,Y,J,N⟩
  .have O:=jz x hc J
   have G:=jz y hc L;have w:=ba7 (pos:=p) (rest:=[]) (O.q Y) (a2n (G.q N));exact⟨ba5 O.v (a0i G.v),λ_=>w.pt,λ_ _ _ _=>w⟩
  .have O:=jz x hc J
   have G:=jz y hc N;have w:=ba7 (O.q Y) (G.w _ _ _ rfl);exact⟨ba5 O.v G.v,λ_=>w.pt,λ_ _ _ _=>w⟩
 |.not x,c,X,a,hc,h=>by
  replace h:=j6 h;obtain⟨⟨o,l⟩,Y,h⟩:=h;obtain⟨p,rfl⟩:=arq Y;simp only[az,f9]at h;obtain⟨rfl,h⟩:=h;have g:=jz x hc h.2;exact⟨ba6 g.v,λ_=>ba8 (g.q h.1),λ_ _ _ z=>by cases z⟩
 |.ite t x y,c,X,a,hc,h=>by
  replace h:=j6 h;obtain⟨⟨t',l,r⟩,Y,h⟩:=h;obtain⟨p,rfl⟩:=ax6 Y;simp only[az]at h;exact⟨ba9 ((jz t hc h.2.1).q h.1) (jz x hc h.2.2.1).v (jz y hc h.2.2.2).v,(λz=>by cases z),λ_ _ _ z=>by cases z⟩
 |.tup es,c,X,a,hc,h=>by
  replace h:=j6 h;obtain⟨l,Y,h⟩:=h;obtain⟨k0,p,rfl⟩:=Nr Y;simp only[az,f9]at h;exact za (bba (Ga es hc h.2).1 h.1) rfl
 |.lst es,c,X,a,hc,h=>by
  replace h:=j6 h;obtain⟨l,Y,h⟩:=h;obtain⟨p,rfl⟩:=aju Y;simp only[az,f9]at h;exact za (bbb (Ga es hc h.2).1 h.1) rfl
 |.Lh es,c,X,a,hc,h=>by
  replace h:=j6 h;obtain⟨l,Y,h⟩:=h;obtain⟨p,rfl⟩:=aju Y;simp only[az,f9]at h;exact za (a4e (Ga es hc h.2).1 h.1) rfl
 |.agy,c,X,a,hc,h=>by
  replace h:=j6 h;obtain⟨⟨q,l⟩,Y,h⟩:=h;obtain⟨p,rfl⟩:=ajv Y;simp only[az,rm]at h;obtain⟨rfl,rfl⟩:=h;exact za a4r rfl
 |.agz,c,X,a,hc,h=>by
  replace h:=j6 h;obtain⟨⟨q,l⟩,Y,h⟩:=h;obtain⟨p,rfl⟩:=ajv Y;simp only[az,rm]at h;obtain⟨rfl,rfl⟩:=h;exact za a4s rfl
 |.ix x y,c,X,a,hc,h=>by
  replace h:=j6 h;obtain⟨⟨l,r⟩,Y,h⟩:=h;obtain⟨p,rfl⟩:=ac9 Y;simp only[az]at h;exact za (bgu (aaw hc.room) (jz x hc h.2.1).v (jz y hc h.2.2).v (aqp h.1)) rfl
 |.cut x lo hi,c,X,a,hc,h=>by
  replace h:=j6 h;obtain⟨⟨l,r⟩,Y,h⟩:=h;obtain⟨p,rfl⟩:=ac9 Y;replace h:=j6 h;obtain⟨⟨u,v,st⟩,J,h⟩:=h;obtain⟨D,e⟩:=a5h J;have e:r=_:=e;subst e;simp only[az,Option.isNone_iff_eq_none]at h;obtain⟨rfl,h⟩:=h;exact za (bbu (jz x hc h.1).v (ajz lo hc h.2.1) (ajz hi hc h.2.2)) rfl
 |.call f es,c,X,a,hc,h=>by
  replace h:=j6 h;obtain⟨⟨n,I⟩,Y,h⟩:=h;obtain⟨p,p',rfl⟩:=Ht Y;simp only[az]at h;obtain⟨⟨J,N,L⟩,E⟩:=h;obtain⟨l,I,rfl⟩:=Y7 L;obtain⟨fa,fd,ps,F,m,kp,b⟩:=hc.tab.fn _ _ _ (kh J);obtain⟨O,G⟩:=Fy hc N;obtain⟨R,Q⟩:=Ga es hc E;simp only[Ci,az]at Q;exact za (s_call F (hc.room.mono x_) O m kp b rfl R (uv G).1 (ph Q.1 _ _) (ye Q.2)) rfl
 |.make f es,c,X,a,hc,h=>by
  replace h:=j6 h;obtain⟨⟨n,I⟩,Y,h⟩:=h;obtain⟨p,p',rfl⟩:=Ht Y;simp only[az]at h;obtain⟨⟨J,N,L⟩,E⟩:=h;obtain⟨l,I,rfl⟩:=Y7 L;obtain⟨C,fa,fd,ps,cl,M0,F,m,b,d1,d2⟩:=hc.tab.cl _ _ _ (kh J);obtain⟨O,G⟩:=Fy hc N;obtain⟨R,Q⟩:=Ga es hc E;simp only[Ci,az]at Q;exact za (a4q M0 F (hc.room.mono (w_ (by decide))) O m b d1 rfl d2 rfl R (uv G).1 (ph Q.1 _ _) (ye Q.2)) rfl
 |.meth o m,c,X,a,hc,h=>by
  replace h:=j6 h;obtain⟨⟨lo,n,ap,I,p⟩,h0,h⟩:=h;cases art h0;simp only[az,rm]at h;obtain⟨⟨⟨Y,J⟩,L,rfl⟩,E⟩:=h;obtain⟨C,fa,fd,ps,f,C0,Me,F,b,u,nf⟩:=hc.tab.mt _ _ _ (kh Y);exact za (axv (ci:=0) (cl:=⟨0,[]⟩) (jz o hc E).v C0 Me F (hc.room.mono x_) b u nf (ax2 J L)) rfl
 |.fld o f,c,X,a,hc,h=>by
  replace h:=j6 h;obtain⟨⟨l,n,p⟩,Y,h⟩:=h;cases ada Y;simp only[az]at h;obtain⟨t1,t2⟩:=hc.tab.fl _ _ (kh h.1.1);exact za (bbd t1 t2 (jz o hc h.2).v (Ib h.1.2)) rfl
 |.blt b es,c,X,a,hc,h=>by
  have gen:(Ed (dCN a) λq=>(decide (a5j b=some q.1)&&(Uu c q.1&&!q.2.isEmpty))&&Oh T es c q.2)=true->Got nm W X a (.blt b es):=λhh=>by clear h;replace hh:=j6 hh;obtain⟨⟨n,I⟩,Y,h⟩:=hh;obtain⟨p,p',rfl⟩:=Ht Y;simp only[az]at h;obtain⟨⟨J,N,L⟩,E⟩:=h;obtain⟨l,I,rfl⟩:=Y7 L;obtain⟨R,Q⟩:=Ga es hc E;exact za (a5p hc (kh J) N R Q) rfl
  have qq:∀{bb:Blt}{ty:Str}{T0:String}{x:Ex}{bt bi:Option Bool},(∀b,bt=some b->PySem.W.kitOne X.K (.type "tuple") (.type T0)=some b)->(∀b,bi=some b->PySem.W.kitOne X.K (.type "int") (.type T0)=some b)->(∀d M,MW.qm bb [d] M=MW.isR bt bi M d)->X.mg ty=none->bootBuiltins ty=some (.type T0)->(∀l,Bb T x c l=true->PE X l (tE nm W X.K x))->arv c ty a (Bb T x c)=true->Got nm W X a (.blt bb (.cons x .nil)):=λk1 k2 k3 hm hv q0 hi=>by obtain⟨l,p,p1,D,rfl,N,L,E,P⟩:=ax9 hi;obtain⟨O,G⟩:=Fy hc N;obtain⟨g3,A⟩:=Fy hc L;exact za (bbv k1 k2 k3 O (hc.mg (by decide+kernel)) (by decide+kernel) (uv G).2.2 (uv G).1 g3 hm hv (uv A).2.2 (uv A).1 (q0 l P) (ph E _ _) (ph rfl _ _) (ye rfl)) rfl
  cases b<;>try exact gen h
  all_goals rcases es with _|⟨x,_|⟨_,_⟩⟩<;>try exact gen h
  .exact qq (T0 :="list") (bt:=some false) (bi:=none) (λ_ z=>by cases z;exact Vo _ (by decide+kernel)) (λ_ z=>by cases z) (λ_ _=>rfl) (hc.mg (by decide+kernel)) (by decide+kernel) (λl q=>(jz x hc q).v) h
  .exact qq (T0 :="tuple") (bt:=some true) (bi:=some false) (λ_ z=>by cases z;exact afq _ _) (λ_ z=>by cases z;exact Vo _ (by decide+kernel)) (λ_ _=>rfl) (hc.mg (by decide+kernel)) (by decide+kernel) (λl q=>(jz x hc q).v) h
  .exact qq (T0 :="bool") (bt:=none) (bi:=some false) (λ_ z=>by cases z) (λ_ z=>by cases z;exact Vo _ (by decide+kernel)) (λ_ _=>rfl) (hc.mg (by decide+kernel)) (by decide+kernel) (λl q=>(jz x hc q).v) h
  .obtain⟨l,p,p1,D,p3,k0,p4,rfl,N,L,E,P,V⟩:=aya (show a5l c a (Bb T x c)=true from h)
   obtain⟨O,G⟩:=Fy hc N;exact za (axx (afy (afq _ _) (b:=false) (Vo _ (by decide+kernel))) (afy (a:=false) (b:=false) (Vo _ (by decide+kernel)) (Vo _ (by decide+kernel))) O (hc.mg (by decide+kernel)) (by decide+kernel) (uv G).2.2 (uv G).1 (Fy hc L).1 (hc.mg (by decide+kernel)) (Fy hc E).1 (hc.mg (by decide+kernel)) (jz x hc V).v (ph P _ _) (ye rfl)) rfl
  .obtain⟨l,p,p1,D,p3,rfl,E,P,V,h8⟩:=adb (show arw c "sorted" "set" a (Bb T x c)=true from h)
   obtain⟨O,G⟩:=Fy hc E;obtain⟨g3,A⟩:=Fy hc P;exact za (al9 hc.r8 O (hc.mg (by decide+kernel)) (by decide+kernel) (uv G).2.2 (uv G).1 g3 (hc.mg (by decide+kernel)) (by decide+kernel) (uv A).2.2 (uv A).1
    (Qi (jz x hc h8).v Wi (ph V _ _)) (ph rfl _ _) (ye rfl) (ph V _ _) (ye rfl)) rfl
 |.bm m o es,c,X,a,hc,h=>by
  replace h:=j6 h;obtain⟨⟨lo,n,ap,I,p⟩,h0,h⟩:=h;cases art h0;simp only[az,f9]at h;obtain⟨⟨⟨Y,J⟩,N,L,zq⟩,E,P⟩:=h;obtain⟨l,I,rfl⟩:=Y7 zq;obtain⟨R,Q⟩:=Ga es hc P;have e3:=Q;simp only[Ci,az]at e3;have U:((backTo p (starEach (l::I) X.env)).all (λx=>!x.1)&&(backToKw p (keywordEach [] X.env)).all (λx=>x.1.isSome)&&decide ((l::I).length+([]:List Keyword).length+(if([]:List Keyword).isEmpty then 0 else 1)<30))=true:=by rw[ahz Q];simp[keywordEach,backToKw];simp at N;exact b_ N (by decide)
  have g:=jz o hc E;cases m with
  |append=>cases Y;exact za (axb (T :="list") (id :="list.append") (fun ι H M x v S r t=>ty_list S r t) PySem.F.plainAttrs_list PySem.F.slot_list_append PySem.F.type_list_append aq0 g.v R (Ib J) U L (ph e3.1 _ _) (ye e3.2)) rfl
  |extend=>cases Y;exact za (axb (T :="list") (id :="list.extend") (fun ι H M x v S r t=>ty_list S r t) PySem.F.plainAttrs_list PySem.F.slot_list_extend PySem.F.type_list_extend aq1 g.v R (Ib J) U L (ph e3.1 _ _) (ye e3.2)) rfl
  |index=>cases Y;exact za (axb (T :="list") (id :="list.index") (fun ι H M x v S r t=>ty_list S r t) PySem.F.plainAttrs_list PySem.F.slot_list_index PySem.F.type_list_index (axd hc.r8) g.v R (Ib J) U L (ph e3.1 _ _) (ye e3.2)) rfl
  |get=>cases Y;exact za (axb (T :="dict") (id :="dict.get") (fun ι H M x v S r t=>ty_dict S r t) PySem.F.plainAttrs_dict PySem.F.slot_dict_get PySem.F.type_dict_get (bb3 (aaw hc.room)) g.v R (Ib J) U L (ph e3.1 _ _) (ye e3.2)) rfl
 |.comp v j t it e,c,X,a,hc,h=>by
  replace h:=j6 h;obtain⟨⟨q6,gs,sc⟩,Y,h⟩:=h;obtain⟨p,rfl⟩:=Uj Y;replace h:=j6 h;obtain⟨⟨tg,qv,q5,as⟩,J,h⟩:=h;cases Cw J;simp only[az,rm]at h;obtain⟨⟨N,rfl⟩,L,E⟩:=h;obtain⟨q1,q2,B,hB,hg,q3,q4⟩:=Ul hc N;cases q2;exact za (a4p B hc.calm (Um it hc L) hg (λC fp s H=>(jz e (hB C fp s H) E).v) q1 q3 q4) rfl
 |.Ef v j t it i e,c,X,a,hc,h=>by
  replace h:=j6 h;obtain⟨⟨q6,gs,sc⟩,Y,h⟩:=h;obtain⟨p,rfl⟩:=Uj Y;replace h:=j6 h;obtain⟨⟨tg,qv,q5,as⟩,J,h⟩:=h;cases Cw J;replace h:=j6 h;obtain⟨d,P,h⟩:=h;cases Cw P;simp only[az]at h;obtain⟨⟨N,V⟩,L,h8,E⟩:=h;obtain⟨q1,q2,B,hB,hg,q3,q4⟩:=Ul hc N;cases q2;exact za (aqt B hc.calm (Um it hc L) hg (λC fp s H=>(jz i (hB C fp s H) h8).q V) (λC fp s H=>(jz e (hB C fp s H) E).v) q1 q3 q4) rfl
 |.Xp x y,c,X,a,hc,h=>by
  replace h:=j6 h;obtain⟨⟨l0,o,r0⟩,Y,h⟩:=h;obtain⟨p,rfl⟩:=ac8 Y;replace h:=j6 h;obtain⟨o1,J,h⟩:=h;replace h:=j6 h;obtain⟨r1,N,h⟩:=h;cases Cw J;cases Cw N;replace h:=j6 h;obtain⟨⟨n,I⟩,L,h⟩:=h;replace h:=j6 h;obtain⟨⟨m,ms⟩,E,h⟩:=h;replace h:=j6 h;obtain⟨l,P,h⟩:=h;replace h:=j6 h;obtain⟨r,V,h⟩:=h;cases Cw P;cases Cw V;obtain⟨p1,q1,R⟩:=Ht L;obtain⟨D,q2,Q⟩:=Ht E;have R:l0=_:=R;subst R Q;simp only[az,f9]at h;obtain⟨⟨⟨rfl,rfl⟩,rfl,h8⟩,⟨h9,qk⟩,q8,q7⟩:=h;obtain⟨O,G⟩:=Fy hc h8;have z:=aw9 (nm:=nm) (W:=W) (p1:=p1) (p2:=D) (q1:=q1) (q2:=q2) hc.r8 O (hc.mg (by decide+kernel)) (by decide+kernel) (uv G).2.2 (uv G).1 (Qi (jz x hc q8).v Wi (ph h9 _ _)) (Qi (jz y hc q7).v Wi (ph qk _ _)) (ph h9 _ _) (ph qk _ _) (ye rfl) (ye rfl);exact⟨a2k z,λ_=>awy (a2l z) λ_ _ _ q=>q,λ_ _ _ z=>by cases z⟩
 |.Zu x,c,X,a,hc,h=>by
  obtain⟨l,p,p1,D,p3,rfl,E,P,V,h8⟩:=adb h;obtain⟨O,G⟩:=Fy hc E;obtain⟨g3,A⟩:=Fy hc P;exact za (a4w hc.r8 O (hc.mg (by decide+kernel)) (by decide+kernel) (uv G).2.2 (uv G).1 g3 (hc.mg (by decide+kernel)) (by decide+kernel) (uv A).2.2 (uv A).1
   (Qi (jz x hc h8).v Wi (ph V _ _)) (ph rfl _ _) (ye rfl) (ph V _ _) (ye rfl)) rfl
 |.ag1 x,c,X,a,hc,h=>by
  obtain⟨l,p,p1,D,p3,rfl,E,P,V,h8⟩:=adb h;obtain⟨O,G⟩:=Fy hc E;obtain⟨g3,A⟩:=Fy hc P;exact za (a4z hc.r8 O (hc.mg (by decide+kernel)) (by decide+kernel) (uv G).2.2 (uv G).1 g3 (hc.mg (by decide+kernel)) (by decide+kernel) (uv A).2.2 (uv A).1
   (Qi (jz x hc h8).v Wi (ph V _ _)) (ph rfl _ _) (ye rfl) (ph V _ _) (ye rfl)) rfl
theorem Ga:∀(Y:Ez){c:Ctx}{X:Cx}{a:Ya},Gf T nm W k c X->Oh T Y c a=true->PA X a (Zm nm W X.K Y)/\Ci a=true
 |.nil,c,X,a,hc,h=>by
  cases rm.mp h;exact⟨Wi,rfl⟩
 |.cons e Y,c,X,a,hc,h=>by
  cases a with
  |nil=>cases h
  |cons l B =>
   replace h:(noStar l&&(Bb T e c l&&Oh T Y c B))=true:=h;simp only[az]at h;obtain⟨G,J⟩:=Ga Y hc h.2.2;exact⟨Qi (jz e hc h.2.1).v G (ph h.1 _ _),by simp only[Ci,az];exact⟨h.1,J⟩⟩
theorem ajz:∀(e:OEx){c:Ctx}{X:Cx}{a:Option Expr},Gf T nm W k c X->a5m T e c a=true->PO X a (tO nm W X.K e)
 |.none,c,X,a,hc,h=>by
  cases Option.isNone_iff_eq_none.mp h;exact axg
 |.some e,c,X,a,hc,h=>by
  replace h:=j6 h;obtain⟨l,rfl,h⟩:=h;exact axh (jz e hc h).v
theorem Um:∀(it:Q8){c:Ctx}{X:Cx}{Y a:Expr},Gf T nm W k c X->ayb T it c Y a=true->PI X Y a (tI nm W X.K it)
 |.val e,c,X,Y,a,hc,h=>bbk (jz e hc h).v
 |.U4 e,c,X,Y,a,hc,h=>by
  replace h:=j6 h;obtain⟨⟨n,N⟩,O,h⟩:=h;obtain⟨p,P,rfl⟩:=Ht O;replace h:=j6 h;obtain⟨l,C,h⟩:=h;cases Cw C;simp only[az,f9]at h;obtain⟨⟨rfl,B⟩,G,J⟩:=h;exact bbl (Fy hc B).1 (hc.mg (by decide+kernel)) (jz e hc J).v G
 |.enm e,c,X,Y,a,hc,h=>by
  replace h:=j6 h;obtain⟨⟨n,N⟩,O,h⟩:=h;obtain⟨p,P,rfl⟩:=Ht O;replace h:=j6 h;obtain⟨l,C,h⟩:=h;cases Cw C;simp only[az,f9]at h;obtain⟨⟨L,rfl,B⟩,G,J⟩:=h;obtain⟨H,E⟩:=qp.mp L;obtain⟨V,pt,rfl⟩:=Nr E;exact bb0 (Fy hc B).1 (hc.mg (by decide+kernel)) (jz e hc J).v G
 |.zip es,c,X,Y,a,hc,h=>by
  replace h:=j6 h;obtain⟨⟨n,N⟩,O,h⟩:=h;obtain⟨p,P,rfl⟩:=Ht O;simp only[az,f9]at h;obtain⟨⟨L,rfl,B,G⟩,J,E⟩:=h;obtain⟨l,N,rfl⟩:=Y7 G;obtain⟨S,R⟩:=Ga es hc E;obtain⟨H,Q⟩:=qp.mp L;obtain⟨V,pt,rfl⟩:=Nr Q;simp only[Ci,az]at R;obtain⟨f1,f2⟩:=R;exact bb1 (Fy hc B).1 (hc.mg (by decide+kernel)) S (ph f1 _ _) (ye f2) J
end
end
noncomputable def bcb(e:Ex):Option {b:Bool//(∃v j t it x,e=.comp v j t it x)\/∃v j t it i x,e=.Ef v j t it i x}:=match e with|.comp ..=>some ⟨true,.inl ⟨_,_,_,_,_,rfl⟩⟩|.Ef ..=>some ⟨true,.inr ⟨_,_,_,_,_,_,rfl⟩⟩|_=>none
def a5q(T:Tab)(c:Ctx)(l:Lv)(e:Ex)(Y v:Expr):Bool:=
 match l with
 |.tg t=>(tgB c 0 t Y&&((Vk v&&((Og Y).isSome||a0b v))||(af0 v).isSome&&(match t with|.name _=>(bcb e).isSome|_=>true)))&&Bb T e c v
 |.sub o i=>Ed (arn Y) λq=>acq q.2&&(Bb T e c v&&(Bb T o c q.1&&Bb T i c q.2))
 |.fld o f=>Ed (arp Y) λq=>(Vk v&&flB T.Td f q.2.1)&&(Bb T e c v&&Bb T o c q.1)
noncomputable def bcc(a:Stmt):Option (List Expr×Expr):=Option.map Subtype.val (α:={q:List Expr×Expr//∃p,a=.Assign q.1 q.2 p}) (match a with|.Assign t v p=>some ⟨(t,v),p,rfl⟩|_=>none)
noncomputable def bcd(a:Stmt):Option Expr:=Option.map Subtype.val (α:={q:Expr//∃p,a=.Expr q p}) (match a with|.Expr v p=>some ⟨v,p,rfl⟩|_=>none)
noncomputable def bcf(a:Stmt):Option (Expr×List Stmt×List Stmt):=Option.map Subtype.val (α:={q:Expr×List Stmt×List Stmt//∃p,a=.If q.1 q.2.1 q.2.2 p}) (match a with|.If t l r p=>some ⟨(t,l,r),p,rfl⟩|_=>none)
noncomputable def bcg(a:Stmt):Option (Expr×List Stmt×List Stmt):=Option.map Subtype.val (α:={q:Expr×List Stmt×List Stmt//∃p,a=.While q.1 q.2.1 q.2.2 p}) (match a with|.While t l r p=>some ⟨(t,l,r),p,rfl⟩|_=>none)
noncomputable def bch(a:Stmt):Option (Expr×Expr×List Stmt×List Stmt):=Option.map Subtype.val (α:={q:Expr×Expr×List Stmt×List Stmt//∃p,a=.For q.1 q.2.1 q.2.2.1 q.2.2.2 p}) (match a with|.For t i l r p=>some ⟨(t,i,l,r),p,rfl⟩|_=>none)
noncomputable def bci(a:Stmt):Option (Option Expr):=Option.map Subtype.val (α:={q:Option Expr//∃p,a=.Return q p}) (match a with|.Return v p=>some ⟨v,p,rfl⟩|_=>none)
noncomputable def a5r(a:Stmt):Option Nat:=Option.map Subtype.val (α:={n:Nat//(n=0/\∃p,a=.Break p)\/(n=1/\∃p,a=.Continue p)\/(n=2/\∃p,a=.Pass p)}) (match a with|.Break p=>some ⟨0,.inl ⟨rfl,p,rfl⟩⟩|.Continue p=>some ⟨1,.inr (.inl ⟨rfl,p,rfl⟩)⟩|.Pass p=>some ⟨2,.inr (.inr ⟨rfl,p,rfl⟩)⟩|_=>none)
def ayc(h:bcc a=some (t,v)):∃p,a=.Assign t v p:=(Zn h :)
def ayd(h:bcd a=some v):∃p,a=.Expr v p:=(Zn h :)
def aye(h:bcf a=some (t,l,r)):∃p,a=.If t l r p:=(Zn h :)
def ayf(h:bcg a=some (t,l,r)):∃p,a=.While t l r p:=(Zn h :)
def ayg(h:bch a=some (t,i,l,r)):∃p,a=.For t i l r p:=(Zn h :)
def ayh(h:bci a=some v):∃p,a=.Return v p:=(Zn h :)
def aj0(h:a5r a=some n):(n=0/\∃p,a=.Break p)\/(n=1/\∃p,a=.Continue p)\/(n=2/\∃p,a=.Pass p):=(Zn h :)
mutual
def a5s(T:Tab):De->Ctx->Stmt->Bool
 |.asg l e,c,a=>Ed (bcc a) λq=>Ed (Te q.1) λt=>a5q T c l e t q.2
 |.expr e,c,a=>Ed (bcd a) λv=>Vk v&&Bb T e c v
 |.iff t x y,c,a=>Ed (bcf a) λq=>Uk q.1&&(Bb T t c q.1&&(Wo T x c q.2.1&&Wo T y c q.2.2))
 |.whl t x,c,a=>Ed (bcg a) λq=>(Uk q.1&&q.2.2.isEmpty)&&(Bb T t c q.1&&Wo T x c q.2.1)
 |.for_ t it x,c,a=>Ed (bch a) λq=>(tgB c 0 t q.1&&(Hw q.2.1&&q.2.2.2.isEmpty))&&(ayb T it c q.1 q.2.1&&Wo T x c q.2.2.1)
 |.ret e,c,a=>Ed (bci a) λv=>Ed v (Bb T e c)
 |.brk,_,a=>decide (a5r a=some 0)|.cont,_,a=>decide (a5r a=some 1)|.raise,_,_=>true
def Wo(T:Tab):ql->Ctx->List Stmt->Bool
 |.nil,_,a=>a.isEmpty|.cons s r,c,a=>match a with|st::rest=>a5s T s c st&&Wo T r c rest|_=>false
end
def swB(c:Ctx)(t:Str)(pt Y:Pos)(T:Scope):Bool:=(c.sc.lookup t==some NameKind.local&&pt.line==Y.line)&&!(T.names.any λy=>y.1==t&&(y.2==.local||y.2==.cell))
def ah2(Y:Gf T nm W k c X):swapsWith (.ListComp elt gs sc vp) (some (.Name t pt)) l X.env=pure (swB c t pt vp sc):=by
 have b:X.env.blockKind=.function:=by unfold Env.blockKind;rw[Y.kd];rfl
 show(pure (X.env.blockKind==.function&&X.env.kindOf t==some .local&&pt.line==vp.line&&!(sc.names.any λ(n,k)=>n==t&&(k==.local||k==.cell))):Sem Bool)=_;rw[b];unfold Env.kindOf;rw[Y.sc];simp[swB]
def ar3(Y:Gf T nm W k c X)(ht:tgB c 0 (.name i) Z=true)(hv:(af0 v).isSome=true)(hw:(bcb e).isSome=true)(h:Bb T e c v=true):PS X (.Assign [Z] v p) (tS nm W X.K (.asg (.tg (.name i)) e)):=by
 have nd:X.N.Nodup:=by rw[Y.N];exact Y.nd
 obtain⟨⟨G,gs,sc⟩,hq⟩:=qp.mp hv;obtain⟨y,py,rfl,hy,_⟩:=ah0 (nm:=nm) (W:=W) (k:=k) (T:=T) Y ht;obtain⟨⟨_,co⟩,_⟩:=qp.mp hw;obtain⟨D,rfl⟩:=Uj hq;have L:=λl=>ah2 (T:=T) (nm:=nm) (W:=W) (k:=k) Y (elt:=G) (gs:=gs) (sc:=sc) (vp:=D) (pt:=py) (t:=y) (l:=l)
 cases hs:swB c y py D sc with
 |false =>
  rw[hs]at L;exact ajj (jz e Y h).v (af3 Y ht).1 (L p.line) rfl rfl
 |true =>
  rw[hs]at L;simp only[swB,az]at hs;have hl:X.env.scope.names.lookup y=some .local:=by rw[Y.sc];have:=hs.1.1;simpa using this
  rcases co with⟨v,j,t,it,x,rfl⟩|⟨v,j,t,it,i',x,rfl⟩
  .replace h:=j6 h
   obtain⟨⟨qq,M,A⟩,I,h⟩:=h;cases I;replace h:=j6 h;obtain⟨⟨Z,O,Q,as⟩,h2,h⟩:=h;cases Cw h2;simp only[az,rm]at h;obtain⟨⟨h3,rfl⟩,h4,F⟩:=h;obtain⟨U,S,B,E,R,P,V⟩:=Ul Y h3;cases S;exact al4 B Y.calm (Um it Y h4) R (λC J s H=>(jz x (E C J s H) F).v) U P V nd hy hl (L p.line)
  .replace h:=j6 h
   obtain⟨⟨qq,M,A⟩,I,h⟩:=h;cases I;replace h:=j6 h;obtain⟨⟨Z,O,Q,as⟩,h2,h⟩:=h;cases Cw h2;replace h:=j6 h;obtain⟨d,h6,h⟩:=h;cases Cw h6;simp only[az]at h;obtain⟨⟨h3,h7⟩,h4,h8,F⟩:=h;obtain⟨U,S,B,E,R,P,V⟩:=Ul Y h3;cases S;exact afg B Y.calm (Um it Y h4) R (λC J s H=>(jz i' (E C J s H) h8).q h7) (λC J s H=>(jz x (E C J s H) F).v) U P V nd hy hl (L p.line)
section
variable{T:Tab}{nm:Nm}{W:Jy}{k:Nat}
def ayi(Y:Gf T nm W k c X)(h:a5q T c l e tg v=true):PS X (.Assign [tg] v p) (tS nm W X.K (.asg l e)):=by
 cases l with
 |tg t =>
  simp only[a5q,az,Bool.or_eq_true]at h;obtain⟨⟨B,N⟩,J⟩:=h;rcases N with⟨G,O⟩|G
  .have g:=af3 (nm:=nm) Y B
   have F:(∃n q,tg=.Name n q)\/∃C E q,tg=.Tuple C E q:=by
    cases t with
    |name i =>
     obtain⟨n,L,_⟩:=j6 B;exact .inl ⟨n,Ha L⟩
    |names is =>
     obtain⟨C,L,_⟩:=j6 B;exact .inr ⟨C,Nr L⟩
   rcases F with⟨n,q,rfl⟩|⟨C,E,q,rfl⟩
   .exact ajj (jz e Y J).v g.1 (Ys G _ _ _) rfl rfl
   .have w:a0b v=true:=by
     rcases O with O|O
     .cases O
     .exact O
    have S:swappedStores [.Tuple C E q] v X.env=pure none:=by cases v<;>first|rfl|(cases w;done)
    exact ajj (jz e Y J).v g.1 (Ys G _ _ _) S rfl
  .cases t with
   |name i=>exact ar3 Y B G.1 G.2 J
   |names is =>
    obtain⟨C,L,_⟩:=j6 B;obtain⟨E,q,rfl⟩:=Nr L;obtain⟨⟨_,_,_⟩,V⟩:=qp.mp G.1;obtain⟨A,rfl⟩:=Uj V;exact ajj (jz e Y J).v (af3 (nm:=nm) Y B).1 rfl rfl rfl
 |sub o i =>
  replace h:=j6 (show Ed (arn tg) _=true from h);obtain⟨⟨R,M⟩,P,h⟩:=h;obtain⟨H,rfl⟩:=ac9 P;simp only[az]at h;obtain⟨N,J,G,O⟩:=h;refine aqw (aaw Y.room) (jz e Y J).v (jz o Y G).v (jz i Y O).v λv=>?_
  cases M<;>first|rfl|(cases N;done)
 |fld o f =>
  replace h:=j6 (show Ed (arp tg) _=true from h);obtain⟨⟨R,n,H⟩,P,h⟩:=h;cases ada P;simp only[az]at h;obtain⟨⟨B,N⟩,J,G⟩:=h;obtain⟨Q,t2⟩:=Y.tab.fl _ _ (kh N);exact aqx Q t2 (jz e Y J).v (jz o Y G).v B
mutual
theorem ayj:∀(s:De){c:Ctx}{X:Cx}{a:Stmt},Gf T nm W k c X->c.fn=true->a5s T s c a=true->PS X a (tS nm W X.K s)
 |.asg l e,c,X,a,hc,hf,h=>by
  replace h:=j6 h;obtain⟨⟨N,v⟩,Y,h⟩:=h;obtain⟨p,rfl⟩:=ayc Y;replace h:=j6 h;obtain⟨t,G,h⟩:=h;cases Cw G;exact ayi hc h
 |.expr e,c,X,a,hc,hf,h=>by
  replace h:=j6 h;obtain⟨v,Y,h⟩:=h;obtain⟨p,rfl⟩:=ayd Y;simp only[az]at h;exact a4j (jz e hc h.2).v (Qj h.1 _ _ _)
 |.iff t x y,c,X,a,hc,hf,h=>by
  replace h:=j6 h;obtain⟨⟨q,l,r⟩,Y,h⟩:=h;obtain⟨p,rfl⟩:=aye Y;simp only[az]at h;exact bbg ((jz t hc h.2.1).q h.1) (Ml x hc hf h.2.2.1) (Ml y hc hf h.2.2.2)
 |.whl t x,c,X,a,hc,hf,h=>by
  replace h:=j6 h;obtain⟨⟨q,l,r⟩,Y,h⟩:=h;obtain⟨p,rfl⟩:=ayf Y;simp only[az,rm]at h;obtain⟨⟨G,rfl⟩,B,J⟩:=h;exact bbh (hc.fnl hf).2 ((jz t hc B).q G) (Ml x hc hf J)
 |.for_ t it x,c,X,a,hc,hf,h=>by
  replace h:=j6 h;obtain⟨⟨L,O,l,r⟩,Y,h⟩:=h;obtain⟨p,rfl⟩:=ayg Y;simp only[az,rm]at h;obtain⟨⟨G,B,rfl⟩,J,C⟩:=h;exact bbj (hc.fnl hf).2 hc.calm (Um it hc J) (af3 hc G).1 (Ml x hc hf C) B
 |.ret e,c,X,a,hc,hf,h=>by
  replace h:=j6 h;obtain⟨v,Y,h⟩:=h;obtain⟨p,rfl⟩:=ayh Y;replace h:=j6 h;obtain⟨w,rfl,h⟩:=h;exact bbe (jz e hc h).v
 |.brk,c,X,a,hc,hf,h=>by
  rcases aj0 (kh h)with⟨_,p,rfl⟩|⟨z,_⟩|⟨z,_⟩
  .exact bbf
  .cases z
  .cases z
 |.cont,c,X,a,hc,hf,h=>by
  rcases aj0 (kh h)with⟨z,_⟩|⟨_,p,rfl⟩|⟨z,_⟩
  .cases z
  .exact a4k
  .cases z
 |.raise,c,X,a,hc,hf,h=>axw
theorem Ml:∀(s:ql){c:Ctx}{X:Cx}{a:List Stmt},Gf T nm W k c X->c.fn=true->Wo T s c a=true->Ud X a (tSs nm W X.K s)
 |.nil,c,X,a,hc,hf,h=>by
  cases rm.mp h;exact a4l
 |.cons s r,c,X,a,hc,hf,h=>by
  cases a with
  |nil=>cases h
  |cons st Y =>
   replace h:(a5s T s c st&&Wo T r c Y)=true:=h;simp only[az]at h;exact aw2 (ayj s hc hf h.1) (Ml r hc hf h.2)
end
end
structure Def where
 x:Str
 qual:Str
 N:List Str
 ps:List Str
noncomputable def scB(N T:Yf)(Y:Scope):Bool:=
 (decide (Y.kind=.function)&&(!Y.isCoroutine&&!Y.isGenerator))&&((decide N.Nodup&&decide (N.take T.length=T)) &&
 (T.all (λx=>Y.names.lookup x==some .local||Y.names.lookup x==some .cell)&&Y.names.all (λy=>!(y.2==NameKind.free))))
def a5t(h:scB N ps sc=true):W7 N ps sc:=by simp only[scB,az,f9,Bool.not_eq_true',jf]at h;obtain⟨⟨C,T,B⟩,⟨Y,J⟩,G,O⟩:=h;exact⟨C,T,B,Y,J,λx m=>by have:=G x m;simpa using this,λy m=>by have:=O y m;simpa using this⟩
def amf(T:Tab)(d:Def)(F:MW.Fn)(st:Stmt):Bool:=
 (scB d.N d.ps (Bx st)&&(decide (F.np=d.ps.length)&&decide (F.ns=d.N.length)))&&Wo T F.body ⟨d.N,(Bx st).names,true⟩ (Ft st)
def ayk{F:MW.Fn}(h:F.run W ds M=.ok d M'):ds.length=F.np/\∃U Z,F.body.den W (ds.map some++List.replicate (F.ns-F.np) none) M=.ok (U,Z) M'/\(U=.ret d\/(U=.next/\d=.non)):=by
 unfold MW.Fn.run at h;split at h
 .rename_i T
  obtain⟨⟨U,Z⟩,G,Y,e⟩:=gw h;refine⟨T,U,Z,?_⟩;cases U with
  |ret z=>cases e;exact⟨Y,.inl rfl⟩|next=>cases e;exact⟨Y,.inr ⟨rfl,rfl⟩⟩|brk=>cases e|cont=>cases e
 .cases h
def a5u{Y:MW.Prog}(U:Fun K d.x d.qual st f fd)(D:Y.fns[i]?=some F)(h:amf T d F st=true)(o:arl T nm ⟨Y.call n,Y.cls⟩ k P w K mg base):Hs P w K mg base CX0 (k+17) f fd d.ps (spF nm ⟨Y.call (n+1),Y.cls⟩ K F.np i):=by
 simp only[amf,az,f9]at h;obtain⟨⟨p,m,a⟩,t⟩:=h;have S:=a5t p;have go:∀J M B M',MW.Jy.call ⟨Y.call (n+1),Y.cls⟩ i J M=.ok B M'->F.run ⟨Y.call n,Y.cls⟩ J M=.ok B M':=λJ M B M' e=>by have e:Y.call (n+1) i J M=.ok B M':=e;unfold MW.Prog.call at e;rw[D]at e;exact e
 refine U.ok (k:=k+16) S (λy H Q E z_=>by obtain⟨R,M,J,B,M',_,r,l,e,_⟩:=z_;rw[<-r.length,l,m]) (λC A G s H y Q E u z_=>?_);obtain⟨R,M,J,B,M',j,r,l,e,q⟩:=z_;have g:Gf T nm ⟨Y.call n,Y.cls⟩ k ⟨d.N,(Bx st).names,true⟩ (aho CX0 P w K mg base d.N d.qual (Bx st) f C A G s H E).nox:=
  ⟨rfl,S.nd,rfl,S.kind,rfl,u,λ_=>⟨λ_=>rfl,PassesOwn.never⟩,o⟩
 refine⟨_,Ml F.body g rfl t,?_⟩;obtain⟨Z,c,L,z,b⟩:=ayk (go _ _ _ _ e);refine⟨R,_,M,c,L,M',j,?_,z,λO W I le V R'=>?_⟩
 .unfold L2.start
  exact(yd.a3z r).append (yd.az8 _ (by rw[zj,a,<-r.length,l]))
 .rcases b with rfl|⟨rfl,rfl⟩
  .exact λv X=>q O W v le V X
  .exact q O W _ le V .non
theorem aj1{nm:Nm}{P:Program}{w:World}{K:Fg}{mg:Zs}{base:Heap}{IR:MW.Prog}{T:Tab}{D:Nat->Def}{st:Nat->Stmt}{fa:Nat->Addr}{fd:Nat->FuncData}
 (U:∀i,i<IR.fns.length->Fun K (D i).x (D i).qual (st i) (fa i) (fd i)) (h:∀i F,IR.fns[i]?=some F->amf T (D i) F (st i)=true)
 (J:∀n,(∀i F,IR.fns[i]?=some F->Hs P w K mg base CX0 (17*n) (fa i) (fd i) (D i).ps (spF nm ⟨IR.call n,IR.cls⟩ K F.np i))->arl T nm ⟨IR.call n,IR.cls⟩ (17*n) P w K mg base) :
 ∀n i F,IR.fns[i]?=some F->Hs P w K mg base CX0 (17*n) (fa i) (fd i) (D i).ps (spF nm ⟨IR.call n,IR.cls⟩ K F.np i)
 |0,i,F,hF=>⟨(λO H Q E z_=>by obtain⟨L,M,C,N,B,_,r,l,e,_⟩:=z_;cases e),λA Y s H G S O Q E W V R I z_=>by obtain⟨L,M,C,N,B,_,r,l,e,_⟩:=z_;cases e⟩
 |n+1,i,F,hF=>a5u (U i (ao.mp hF).1) hF (h i F hF) (J n (aj1 U h J n))
noncomputable def a5v(s:Str):Bool:=s.cps[0]?==some 0
def ar4(Y:Yf):Bool:=decide Y.Nodup&&Y.all λs=>!a5v s
noncomputable def af4(Y:Yf)(i:Nat):Str:=match Y[i]? with|some s=>s|none=>⟨#[0,0,i]⟩
def ar5(h:ar4 Td=true)(i j:Nat)(e:af4 Td i=af4 Td j):i=j:=by
 simp only[ar4,az,f9,jf]at h;have Y:∀k,a5v ⟨#[0,0,k]⟩=true:=λk=>rfl
 unfold af4 at e;cases hi:Td[i]? with
 |some a =>
  rw[hi]at e;cases hj:Td[j]? with
  |some b =>
   rw[hj]at e;have e:a=b:=e;subst e;obtain⟨J,T⟩:=ao.mp hi;obtain⟨B,G⟩:=ao.mp hj;exact(List.getElem_inj h.1).mp (T.trans G.symm)
  |none =>
   rw[hj]at e;have e:a=⟨#[0,0,j]⟩:=e;have:=h.2 a (bh hi);rw[e,Y]at this;cases this
 |none =>
  rw[hi]at e;cases hj:Td[j]? with
  |some b =>
   rw[hj]at e;have e:(⟨#[0,0,i]⟩:Str)=b:=e;have:=h.2 b (bh hj);rw[<-e,Y]at this;cases this
  |none =>
   rw[hj]at e;have e:(⟨#[0,0,i]⟩:Str)=⟨#[0,0,j]⟩:=e;simpa using e
def a5w(Y:List (Option Addr))(T:Yf)(h:ar4 T=true):Nm:=⟨λc=>(Y[c]?).join,af4 T,ar5 h⟩
def ar6(Y:Yf)(x:Str):Bool:=!(Y.contains x)&&!a5v x
def ar7(h:ar6 Td x=true)(i:Nat):af4 Td i≠x:=λe=>by
 simp only[ar6,az,Bool.not_eq_true']at h;unfold af4 at e;cases hi:Td[i]? with
 |some a =>
  rw[hi]at e;have e:a=x:=e;rw[<-e]at h;have:=List.contains_iff_mem.mpr (bh hi);rw[this]at h;cases h.1
 |none =>
  rw[hi]at e;have e:(⟨#[0,0,i]⟩:Str)=x:=e;rw[<-e]at h;cases h.2
def AllP{Y:Type}(P:Y->Prop):List Y->Prop
 |x::r=>P x/\AllP P r|[]=>True
def AllP.get(h:AllP P l)(m:x∈l):P x:=by
 induction l with
 |nil=>cases m
 |cons y r Y =>
  rcases dh.mp m with z|z
  .rw[z];exact h.1
  .exact Y h.2 z
section
variable(K:Fg)(mg:Zs)
def af5:List Def->List Stmt->List Addr->List FuncData->Prop
 |d::ds,s::ss,a::as,f::fs=>(Fun K d.x d.qual s a f/\Binds K f d.ps [])/\af5 ds ss as fs|[],[],[],[]=>True|_,_,_,_=>False
def Y8:List (Option (Str×Nat))->List Addr->Prop
 |some p::r,a::as=>mg p.1=some (.ref a)/\Y8 r as|none::r,_::as=>Y8 r as|_,_=>True
noncomputable abbrev ayl(C:Addr)(mts:List (Str×Nat))(Q7:X9):=AllP λ(q:Nat×Nat)=>∃p a,mts[q.1]?=some p/\Q7[q.2]?=some a/\Meth K C p.1 a
noncomputable abbrev ar8(C:Addr):=AllP λx=>K8 K C x
structure ClF(T:Tab)(Q7:X9)(x:Str)(C:Addr)(cl:MW.Cl):Prop where
 mg:mg x=some (.ref C)
 cs:Cls K C
 ini:∃f,Q7[cl.init]?=some f/\Mk K C f
 me:ayl K C T.mts Q7 cl.meths
 na:ar8 K C T.Td
def Tf(T:Tab)(Y:X9):List (Option (Str×Nat))->List (Option Addr)->List MW.Cl->Prop
 |some p::r,some C::cs,cl::cls=>ClF K mg T Y p.1 C cl/\Tf T Y r cs cls|none::r,none::cs,_::cls=>Tf T Y r cs cls|[],[],[]=>True|_,_,_=>False
noncomputable abbrev ar9 :=AllP λ(p:Str×Int)=>∃t,mg p.1=some (.int p.2 t)
noncomputable abbrev AllB :=AllP λ(x:Str)=>mg x=none
end
def af5.get{Y:List Def}{i:Nat}{d:Def}(h:af5 K Y Z as fs)(e:Y[i]?=some d):∃s a f,Z[i]?=some s/\as[i]?=some a/\fs[i]?=some f/\Fun K d.x d.qual s a f/\Binds K f d.ps []:=by
 induction Y generalizing Z as fs i with
 |nil=>simp at e
 |cons G Y T =>
  cases Z with
  |nil=>exact h.elim|cons s Z =>
  cases as with
  |nil=>exact h.elim|cons a as =>
  cases fs with
  |nil=>exact h.elim|cons f fs =>
  cases i with
  |zero=>cases e;exact⟨s,a,f,rfl,rfl,rfl,h.1⟩|succ i=>exact(T h.2 e :)
def Y8.get{l:List (Option (Str×Nat))}{as:X9}{i:Nat}{p:Str×Nat}{a:Addr}(h:Y8 mg l as)(e:l[i]?=some (some p))(Y:as[i]?=some a):mg p.1=some (.ref a):=by
 induction l generalizing as i with
 |nil=>simp at e
 |cons q l T =>
  cases as with
  |nil=>simp at Y|cons b as =>
  cases i with
  |zero=>cases e;cases Y;exact h.1
  |succ i =>
   cases q with
   |none=>exact T h e Y|some q=>exact T h.2 e Y
def Tf.get{l:List (Option (Str×Nat))}{c:Nat}{p:Str×Nat}(h:Tf K mg T U l Z cls)(e:l[c]?=some (some p)):∃C cl,Z[c]?=some (some C)/\cls[c]?=some cl/\ClF K mg T U p.1 C cl:=by
 induction l generalizing Z cls c with
 |nil=>simp at e
 |cons q l Y =>
  cases Z with
  |nil=>cases q<;>exact h.elim|cons C Z =>
  cases cls with
  |nil=>cases q<;>cases C<;>exact h.elim|cons cl cls =>
  cases q with
  |none =>
   cases C with
   |some C=>exact h.elim
   |none =>
    cases c with
    |zero=>cases e
    |succ c =>
     have h:Tf K mg T U l Z cls:=h;exact(Y h e :)
  |some q =>
   cases C with
   |none=>exact h.elim
   |some C =>
    cases c with
    |zero=>cases e;exact⟨C,cl,rfl,rfl,h.1⟩|succ c=>exact(Y h.2 e :)
theorem Tf.at{Y:List (Option Addr)}{c:Nat}{C:Addr}(h:Tf K mg T Z l Y cls)(e:Y[c]?=some (some C)):Cls K C/\ar8 K C T.Td:=by
 induction l generalizing Y cls c with
 |nil =>
  cases Y with
  |nil=>simp at e|cons C Y=>cases cls<;>exact h.elim
 |cons q l G =>
  cases Y with
  |nil=>simp at e|cons C Y =>
  cases cls with
  |nil=>cases q<;>cases C<;>exact h.elim|cons cl cls =>
  cases q with
  |none =>
   cases C with
   |some C=>exact h.elim
   |none =>
    cases c with
    |zero=>cases e
    |succ c =>
     have h:Tf K mg T Z l Y cls:=h;exact(G h e :)
  |some q =>
   cases C with
   |none=>exact h.elim
   |some C =>
    cases c with
    |zero=>cases e;exact⟨h.1.cs,h.1.na⟩|succ c=>exact(G h.2 e :)
def aym(T:Tab):List MW.Fn->List Def->List Stmt->Bool
 |F::Fs,d::ds,s::ss=>amf T d F s&&aym T Fs ds ss|[],[],[]=>true|_,_,_=>false
noncomputable def npB(Y:List MW.Fn)(f n:Nat):Bool:=match Y[f]? with|some F=>F.np==n|none=>false
def tfB(Y:List MW.Fn)(l:List (Option (Str×Nat))):Bool:=l.zipIdx.all λq=>match q.1 with|some p=>npB Y q.2 p.2|none=>true
def tcB(Y:MW.Prog)(l:List (Option (Str×Nat))):Bool:=l.zipIdx.all λq=>match q.1 with|some p=>(match Y.cls[q.2]? with|some cl=>npB Y.fns cl.init (p.2+1)|none=>false)|none=>true
noncomputable def bhj(Y:List MW.Cl)(m c f:Nat):Bool:=Y.zipIdx.all λq=>match q.1.meths.lookup m with|none=>true|some g=>q.2==c&&g==f
def tmB(G:MW.Prog)(T:Tab)(mcs:List (Nat×Nat)):Bool:=T.mts.zipIdx.all λq=>match mcs[q.2]? with
 |some Y=>(bhj G.cls q.2 Y.1 Y.2&&(npB G.fns Y.2 (q.1.2+1)&&ar6 T.Td q.1.1))&&((match T.cls[Y.1]? with|some (some _)=>true|_=>false)&&(match G.cls[Y.1]? with|some cl=>cl.meths.lookup q.2==some Y.2|none=>false))
 |none=>false
def Nt{Y:Type}{l:List Y}{g:Y×Nat->Bool}(h:l.zipIdx.all g=true){x:Y}(e:l[i]?=some x):g (x,i)=true:=by rw[jf]at h;exact h (x,i) (by rw[vf];exact⟨i,by rw[z8,e];simp⟩)
set_option tactic.hygienic true in
def ah3(h:npB fns f n=true):∃F,fns[f]?=some F/\F.np=n:=by
 unfold npB at h;split at h
 .rename_i F e;exact⟨F,e,eq_of_beq h⟩
 .cases h
def af6{Y:List MW.Fn}{i:Nat}{F:MW.Fn}(h:aym T Y Z U=true)(e:Y[i]?=some F):∃d s,Z[i]?=some d/\U[i]?=some s/\amf T d F s=true:=by
 induction Y generalizing Z U i with
 |nil=>simp at e
 |cons J Y G =>
  cases Z with
  |nil=>cases h|cons d Z =>
  cases U with
  |nil=>cases h|cons s U =>
  replace h:=Bool.and_eq_true_iff.mp h;cases i with
  |zero=>cases e;exact⟨d,s,rfl,rfl,h.1⟩|succ i=>exact(G h.2 e :)
set_option tactic.hygienic true in
def a5x(R:ar4 T.Td=true)(hP:aym T IR.fns Ds ss=true)(h1:tfB IR.fns T.fns=true)(h2:tcB IR T.cls=true)(h3:tmB IR T mcs=true)(aF:af5 K Ds ss Z fds)(aG:Y8 mg T.fns Z)(aC:Tf K mg T Z T.cls cas IR.cls)(aV:ar9 mg T.ax1)(aB:AllB mg Ql)(u:IR.fns[i]?=some F) :
 ∃d a f,Ds[i]?=some d/\Z[i]?=some a/\fds[i]?=some f/\Binds K f d.ps []/\Hs P w K mg base CX0 (17*n) a f d.ps (spF (a5w cas T.Td R) ⟨IR.call n,IR.cls⟩ K F.np i):=by
 let dd:Def:=⟨Str.empty,Str.empty,[],[]⟩
 let sd:Stmt:=.Pass ⟨0,0,0,0⟩
 obtain⟨d,s,U,S,g3⟩:=af6 hP u;have all:∀(i:Nat)(F:MW.Fn),IR.fns[i]?=some F->∃d s a f,Ds[i]?=some d/\ss[i]?=some s/\Z[i]?=some a/\fds[i]?=some f/\Fun K d.x d.qual s a f/\Binds K f d.ps []/\amf T d F s=true:=λi F e=>by
  refine hG λ_ _k=>?_
  obtain⟨d,s,U,S,g3⟩:=af6 hP e;obtain⟨s',a,f,B,k2,k3,N,E⟩:=aF.get U;rw[S]at B;cases B;apply _k;exact⟨d,s,a,f,U,S,k2,k3,N,E,g3⟩
 have df:∀{j:Nat}{a:Addr}{f:FuncData}{d:Def},Z[j]?=some a->fds[j]?=some f->Ds[j]?=some d->(Z[j]?).getD 0=a/\Ds[j]?.getD dd=d:=λO L J=>⟨by rw[O];rfl,by rw[J];rfl⟩
 obtain⟨A,qv⟩:∃A:FuncData,True:=by obtain⟨s',a,f,_⟩:=aF.get U;exact⟨f,trivial⟩
 refine(λM=>?_) (aj1 (nm:=a5w cas T.Td R) (P:=P) (w:=w) (K:=K) (mg:=mg) (base:=base) (IR:=IR) (T:=T) (D:=λi=>Ds[i]?.getD dd) (st:=λi=>ss[i]?.getD sd) (fa:=λi=>(Z[i]?).getD 0) (fd:=λi=>(fds[i]?).getD A)
  (λi hi=>by
   refine hG λ_ _k=>?_
   obtain⟨d,s,a,f,B,k2,k3,N,E,I,Y⟩:=all i IR.fns[i] (by simp[hi]);apply _k;rw[B,k2,k3,N];exact E)
  (λi F e=>by
   refine hG λ_ _k=>?_
   obtain⟨d,s,a,f,B,k2,k3,N,E,I,Y⟩:=all i F e;apply _k;rw[B,k2];exact Y)
  (λn G=>?_) n i F u)
 .refine hG λ_ _k=>?_
  obtain⟨d',s',a,f,B,k2,k3,N,E,I,Y⟩:=all i F u;apply _k;refine⟨d',a,f,B,k3,N,I,?_⟩;have:=M;rw[B,k3,N]at this;exact this
 ·
  have Q:∀{j:Nat}{F:MW.Fn}{a:Addr},IR.fns[j]?=some F->Z[j]?=some a->∃(f:FuncData)(d:Def),Binds K f d.ps []/\Hs P w K mg base CX0 (17*n) a f d.ps (spF (a5w cas T.Td R) ⟨IR.call n,IR.cls⟩ K F.np j)/\PySem.W.keepIn K (.ref a)=true:=fun{j F a} O L=>by
   refine hG λ_ _k=>?_
   obtain⟨d,s,a',f,B,k2,k3,N,E,I,Y⟩:=all j F O;rw[L]at k3;cases k3;have g:=G j F O;rw[B,L,N]at g;apply _k;exact⟨f,d,I,g,E.kp⟩
  have addr:∀{j:Nat}{F:MW.Fn},IR.fns[j]?=some F->∃a,Z[j]?=some a:=fun{j F} e=>by
   refine hG λ_ _k=>?_
   obtain⟨d,s,a',f,B,k2,k3,_⟩:=all j F e;apply _k;exact⟨a',k3⟩
  refine⟨λf x m e=>?_,λc x m e=>?_,λm x j e=>?_,λf x e=>?_,λx i m=>aV.get m,λx m=>aB.get m⟩
  .refine hG λ_ _k=>?_
   obtain⟨F,O,L⟩:=ah3 (Nt h1 e);obtain⟨a,J⟩:=addr O;obtain⟨fd,d,b,g,kp⟩:=Q O J;rw[L]at g;apply _k;exact⟨a,fd,d.ps,g,aG.get e J,kp,b⟩
  .refine hG λ_ _k=>?_
   obtain⟨C,cl,q1,X,V⟩:=aC.get e;have z:=Nt h2 e;simp only[X]at z;obtain⟨F,O,L⟩:=ah3 z;obtain⟨f,f1,f2⟩:=V.ini;obtain⟨fd,d,b,g,kp⟩:=Q O f1;rw[L]at g;apply _k;exact⟨C,f,fd,d.ps,cl,f2,g,V.mg,b,X,by show(cas[c]?).join=some C;rw[q1];rfl⟩
  .have z:=Nt h3 e
   simp only at z;split at z
   .rename_i cf q0
    simp only[az]at z;refine hG λ_ _k=>?_
    obtain⟨⟨z1,z2,z3⟩,z4,z5⟩:=z;obtain⟨F,O,L⟩:=ah3 z2;apply _k;split at z4
    .rename_i p hp
     refine hG λ_ _k=>?_
     obtain⟨C,cl,q1,X,V⟩:=aC.get hp;rw[X]at z5;simp only at z5;have mem:(m,cf.2)∈cl.meths:=mem_of_lookup (eq_of_beq z5);obtain⟨p',a,r1,r2,r3⟩:=V.me.get mem;rw[e]at r1;cases r1;obtain⟨fd,d,b,g,kp⟩:=Q O r2;rw[L]at g;apply _k;refine⟨C,a,fd,d.ps,cf.2,V.cs,r3,g,b,λc' q4 qk g' Zj=>?_,ar7 z3⟩;have y:=Nt z1 qk;simp only[Zj,az]at y;have y1:c'=cf.1:=eq_of_beq y.1;exact⟨by show(cas[c']?).join=some C;rw[y1,q1];rfl,eq_of_beq y.2⟩
    .cases z4
   .cases z
  .refine⟨by show x=af4 T.Td f;unfold af4;rw[e],λc C H=>?_⟩
   have H:(cas[c]?).join=some C:=H;have qq:cas[c]?=some (some C):=by
    cases q:cas[c]? with
    |none=>rw[q]at H;cases H
    |some o=>rw[q]at H;cases o with
     |none=>cases H|some C'=>cases H;rfl
   obtain⟨y1,y2⟩:=aC.at qq;exact⟨y1,y2.get (bh e)⟩
def fN:af5 K [] [] [] []:=trivial
def gN:Y8 mg [] as:=trivial
def gS(h:mg p.1=some (.ref a))(t:Y8 mg r as):Y8 mg (some p::r) (a::as):=⟨h,t⟩
def gO(t:Y8 mg r as):Y8 mg (none::r) (a::as):=t
def mN:ayl K C mts Z []:=trivial
def mC(Y:mts[q.1]?=some p)(T:Z[q.2]?=some a)(m:Meth K C p.1 a)(t:ayl K C mts Z r):ayl K C mts Z (q::r):=⟨⟨p,a,Y,T,m⟩,t⟩
def nN:ar8 K C []:=trivial
def nC(h:PySem.W.findIn K (.ref C) x=some none)(t:ar8 K C r):ar8 K C (x::r):=⟨h,t⟩
def cN:Tf K mg T Z [] [] []:=trivial
def cO(t:Tf K mg T Z r cs cls):Tf K mg T Z (none::r) (none::cs) (cl::cls):=t
def cS(h:ClF K mg T Z p.1 C cl)(t:Tf K mg T Z r cs cls):Tf K mg T Z (some p::r) (some C::cs) (cl::cls):=⟨h,t⟩
def vN:ar9 mg []:=trivial
def vC(h:mg p.1=some (.int p.2 t))(q:ar9 mg r):ar9 mg (p::r):=⟨⟨t,h⟩,q⟩
def bN:AllB mg []:=trivial
def bC(h:mg x=none)(q:AllB mg r):AllB mg (x::r):=⟨h,q⟩
abbrev Lk(K:Fg)(f:Addr)(x q:Str)(st:Stmt)(oc:Value)(od:Option Addr)(kV dc pm:Value)(an:Option Addr)(cd ct:Value)(sl:Array (Option Value)):Prop:=
 K.lookup f=some ⟨oc,od,.func (PySem.W.fnOf x q (Ie st) (Ft st) (Bx st) .none kV dc pm an cd ct),sl⟩/\PySem.W.codeIn K cd q=true/\PySem.W.keepIn K (.ref f)=true
noncomputable def a5y:Nat->(List Value->Prop)->Prop|0,P=>P []|n+1,P=>∀a,a5y n λY=>P (a::Y)
theorem aj2:∀{us:Zl}{P:List Value->Prop},a5y us.length P->P us|[],_,h=>h|a::us,_,h=>aj2 (us:=us) (h a)
def fE{kV:Value}(l:Lk K a d.x d.qual s oc od kV dc pm U cd ct sl)(r:af5 K ds ss as fs)
 (b:∀(kV Z pm:Value)(U:Option Addr)(qq ct:Value),a5y d.ps.length λus=>bindArgs (PySem.W.fnOf d.x d.qual (Ie s) (Ft s) (Bx s) .none kV Z pm U qq ct) ⟨us,[]⟩=pure (d.ps.zip us):=by(repeat intro _);rfl) :
 af5 K (d::ds) (s::ss) (a::as) (PySem.W.fnOf d.x d.qual (Ie s) (Ft s) (Bx s) .none kV dc pm U cd ct::fs):=⟨⟨aqk l.1 l.2.1 l.2.2,(aqk l.1 l.2.1 l.2.2).binds λ_ _ _ _ _ _ _ e=>aj2 (e▸b _ _ _ _ _ _)⟩,r⟩
noncomputable def aj3(K:Fg):Sp:=λG H Q _=>∃(a:Addr)(Y:Xs),G=[.ref a]/\Only H/\J2 K H a (Y.map V.int)/\Y.length<=63/\∀T,Q (.bl true) T
def ayn(o:Only H)(h:J2 K H a vs):al1 K H a vs:=by
 rcases h with(h|h)|h
 .rcases o a with z|⟨ob,xs,z⟩<;>rw[z]at h<;>cases h
 .exact .inl h
 .exact .inr h
def ayo(run:∀(Z:Xs),Z.length<=63->∃U,W.call i [.fz (Z.map MW.D.int)] []=.ok (.bl true) U)(h:aj3 K vs H Q E):spF nm W K 1 i vs H Q E:=by obtain⟨a,Z,rfl,o,G,T,k⟩:=h;obtain⟨U,e⟩:=run Z T;refine⟨⟨[],[],λ_ _ _ _=>0⟩,[],_,_,U,⟨rfl,Bs,by simp,λn o a h=>by simp at h⟩,.cons (.fz (ayn o G) (qy.ints Z)) .nil,rfl,e,λY J v le B r=>?_⟩;cases r;exact k J
def walk{l:PySem.W.OpenLaw}{K:Params->Fg}(T:l.most=some 63)(Y:d.params.defaults=[])(B:∀(w:World) (h:Heap),YP w h->(K w.params).In h)(F:∀(w:World) (mg:Zs) (U:Addr) (h:Heap),(K w.params).In h->h.Ns mainGlobals mg->mg d.name=some (.ref U) ->
 ∃fd:FuncData,(∀(s:Shared) (u:Value),BindsTo s fd ⟨[u],[]⟩ [("script",u)])/\∀Z:Heap,(K w.params).In Z->Z.Ns mainGlobals mg->Hs l.prog w (K w.params) mg Z CX0 170 U fd ["script"] (aj3 (K w.params))) :
 PySem.W.WalkO q loose XP YP l.row.toRowW d [] (λf vs=>PySem.call f vs):=
 L2.awt (n:=63) (k:=170) (x :="script") (CX:=λ_=>CX0) (sp:=λw=>aj3 (K w.params)) T (by decide) Y ⟨rfl,by decide,by decide⟩ B F (λ_ _ a C J G O=>⟨a,C,rfl,G,O,J,λ_=>rfl⟩) λ_ _ _ _ _ z=>z
end Ck
namespace K33
open PySem L2
noncomputable def top(i:Nat):Stmt:=PySem.Challenge.pw_mapwright_k33_sums.main.body.getD i (.Pass ⟨0,0,0,0⟩)
def sts:List Stmt:=[inClass (top 8) 0,inClass (top 8) 2,inClass (top 8) 2,inClass (top 8) 2,inClass (top 8) 2,inClass (top 8) 2,top 9,top 10,top 11,top 12,top 13,top 14,top 22,top 23,top 24,top 25,top 26,top 27,top 28,top 29,top 30,inClass (top 8) 2,top 16,top 18,top 19,top 20,top 31,top 32,top 33,top 34,top 35,top 36,top 37,top 38,top 39,top 40,top 41,top 42]
noncomputable def fd(x:Str)(N:Yf)(n:Nat):Ck.Def:=⟨x,x,N,N.take n⟩
def Ds:List Ck.Def:=[⟨"__init__","Pattern.__init__",["self","kinds","doings","table"],["self","kinds","doings","table"]⟩,⟨"doings","Pattern.doings",["self"],["self"]⟩,⟨"doings","Pattern.doings",["self"],["self"]⟩,⟨"doings","Pattern.doings",["self"],["self"]⟩,⟨"doings","Pattern.doings",["self"],["self"]⟩,⟨"doings","Pattern.doings",["self"],["self"]⟩,fd "both_ways" ["table","one","other"] 3,fd "meeting_pairs" ["doings","pairs","one","ends","other","more"] 1,fd "is_way_between" ["doings","way","start","goal"] 4,fd "check_doings" ["kinds","doings","ends"] 2,fd "check_table" ["doings","table","pairs","one","other"] 2,fd "check_threes" ["doings","table","pairs","one","other","last","ahead","after"] 2,fd "_law_cell_at" ["script","k"] 2,fd "_law_state" ["script","k","cell"] 2,fd "_law_take" ["state","many","found","mixed"] 2,fd "_law_begun" ["state","way","graph","loops","swap","known","kinds","sizes","found","k","one","other"] 1,fd "_law_closed" ["begun","found","one","other","row","k","j","first","second","more"] 1,fd "_law_pattern" ["state","begun","closed","kinds","table","j","k","more"] 1,fd "_law_ways" ["pat","kind"] 2,fd "_law_end" ["pat","kind","way"] 3,fd "_law_behind" ["pat","one","other"] 3,⟨"doings","Pattern.doings",["self"],["self"]⟩,fd "staying" ["world"] 1,fd "sum_of" ["pattern","one","other","sizes","acts","doing","ends","right"] 3,fd "raised" ["row","many"] 2,fd "either" ["left","right"] 2,fd "_law_merged" ["pat","marks","acts","changed","k","one","other","first","thing","mark","end","low","high"] 3,fd "_law_world" ["state","pat","most","rows","number","kind","some","end","way","acts","k","one","other","marks","low","high","heads","told","row"] 3,fd "_law_led" ["world","thing","way"] 3,fd "_law_along" ["pat","one","other","some","place","goal","found","way","here","there"] 6,fd "_law_places" ["pat","world","ends","k","spots","kind"] 2,fd "_law_maps" ["pat","one","other","rows","place","more","some","goal","fresh","found","told","kind"] 3,fd "_law_added" ["pat","one","other","acts","k","end"] 3,fd "_law_some" ["state","found"] 2,fd "_law_same" ["found","due"] 2,fd "_law_sum" ["pat","one","other","first","second","kind"] 3,fd "_law_put_together" ["state","pat","one","other","third","turn","left","right","due"] 5,fd "law" ["script","state","pat","pattern","one","other","third","empty","whole","here","there"] 1]
noncomputable def tab:Ck.Tab:=⟨[none,none,none,none,none,none,(some ("both_ways",3):Y2),(some ("meeting_pairs",1):Y2),(some ("is_way_between",4):Y2),(some ("check_doings",2):Y2),(some ("check_table",2):Y2),(some ("check_threes",2):Y2),(some ("_law_cell_at",2):Y2),(some ("_law_state",2):Y2),(some ("_law_take",2):Y2),(some ("_law_begun",1):Y2),(some ("_law_closed",1):Y2),(some ("_law_pattern",1):Y2),(some ("_law_ways",2):Y2),(some ("_law_end",3):Y2),(some ("_law_behind",3):Y2),none,(some ("staying",1):Y2),(some ("sum_of",3):Y2),(some ("raised",2):Y2),(some ("either",2):Y2),(some ("_law_merged",3):Y2),(some ("_law_world",3):Y2),(some ("_law_led",3):Y2),(some ("_law_along",6):Y2),(some ("_law_places",2):Y2),(some ("_law_maps",3):Y2),(some ("_law_added",3):Y2),(some ("_law_some",2):Y2),(some ("_law_same",2):Y2),(some ("_law_sum",3):Y2),(some ("_law_put_together",5):Y2),(some ("law",1):Y2)],[none,none,some ("Pattern",3)],[("doings",0)],["together","doing_ends","kind_count"],[("STAYING",-1),("MOST_KINDS",3),("MOST_DOINGS",5)]⟩
noncomputable def mcs:List (Nat×Nat):=[(2,2)]
def chk:Ck.aym tab prog.fns Ds sts=true:=by decide+kernel
def bhl:Ck.ar4 tab.Td=true:=by decide+kernel
def bhm:Ck.tfB prog.fns tab.fns=true:=by decide+kernel
def bhn:Ck.tcB prog tab.cls=true:=by decide+kernel
def bho:Ck.tmB prog tab mcs=true:=by decide+kernel
open MW
noncomputable def Jw(Y:List F)(k i:Nat):Bool:=match Y[i]? with|some f=>decide (f.a=k)|none=>false
def su(Y:List F)(k:Nat):List D:=.int (-1)::((List.range Y.length).filter (Jw Y k)).map nD
def Cy(h:d∈su Z k):d=.int (-1)\/∃(i:Nat)(f:F),d=.int i/\Z[i]?=some f/\f.a=k:=by
 rcases dh.mp h with q|q
 .exact .inl q
 .obtain⟨i,G,rfl⟩:=bf.mp q
  obtain⟨J,T⟩:=jg.mp G;have Y:=jk.mp J;have e:Z[i]?=some Z[i]:=by simp[Y]
  rw[Jw,e]at T;exact .inr ⟨i,Z[i],rfl,e,by simpa using T⟩
def asa(h:d∈su Z k):∃i:Int,d=.int i:=by rcases Cy h with rfl|⟨i,f,rfl,_⟩<;>exact⟨_,rfl⟩
def Uo(Y:Z.length<=5):(su Z k).length<=6:=by have:=qw (Jw Z k) (List.range Z.length);simp at this;simp[su];exact a_ this Y
def ux(K r:Nat)(Y:List F):D:=.tup [.int K,Jz Y,.ref r]
abbrev sP(K r:Nat)(hs:List F):Option D:=some (ux K r hs)
def Oi(K r:Nat)(Y:List F)(M:dz):Bk (ux K r Y) (.int 0) M=some (.int K):=rfl
def Jx(K r:Nat)(Y:List F)(M:dz):Bk (ux K r Y) (.int 1) M=some (Jz Y):=rfl
def a0k(K r:Nat)(Y:List F)(M:dz):Bk (ux K r Y) (.int 2) M=some (.ref r):=rfl
def Made.keep(h:Made n r K Z U M)(k:vz M M'):Made n r K Z U M':=⟨k _ _ h.1,k _ _ h.2⟩
def Made.f2(h:Made n r K Z U M):Tw (.ref n) 2 M=some (.int K):=by simp[Tw,h.1,List.lookup]
def Made.f1(h:Made n r K Z U M):Tw (.ref n) 1 M=some (Jz Z):=by simp[Tw,h.1,List.lookup]
def Made.f0(h:Made n r K Z U M):Tw (.ref n) 0 M=some (.ref r):=by simp[Tw,h.1,List.lookup]
def amg(Y:1<=m)(h:Made n r K Z U M):prog.call m 2 [.ref n] M=.ok (Jz Z) M:=by rw[call_of Y rfl];simp[Fn.run,Bh,Lr,h.f1]
def af7(T:1<=m)(G:Z.length<=5){k:Nat}:prog.call m 18 [ux K r Z,.int k] M=.ok (.vl (su Z k)) M:=by
 rw[call_of T rfl];have J:Ku.den (PW (m-1)) [sP K r Z,sI k] M=.ok (.vl (((List.range Z.length).filter (Jw Z k)).map nD)) M:=by
  unfold Ku;rw[X4 (n:=Z.length) (M1:=M) (q:=Jw Z k) (g:=nD) (by simp[Jx,K7]) (a_ G (by decide)) (λi Y=>by
   have e:Z[i]?=some Z[i]:=by simp[Y]
   refine⟨_,rfl,?_,λ_=>?_⟩
   .simp[-eq_int,Jx,Rt e,aen,Cv,Jw,Y]
   .simp[nD])]
  simp
 have:=U8 (M:=M) [.int (-1)] (((List.range Z.length).filter (Jw Z k)).map nD) (by
  have:=qw (Jw Z k) (List.range Z.length);simp at this⊢
  lia)
 simp[Fn.run,Vu,Vt,J,this,su]
def aj4(G:1<=m){k i:Nat}(Y:Z[i]?=some f):prog.call m 19 [ux K r Z,.int k,.int i] M=.ok (.int f.b) M:=by
 rw[call_of G rfl];have T:¬((i:Int)<0):=by lia
 simp[Fn.run,Mw,Mv,T,Jx,Rt Y,Wa]
def amh(Y:1<=m){k:Nat}:prog.call m 19 [ux K r Z,.int k,.int (-1)] M=.ok (.int k) M:=by rw[call_of Y rfl];simp[Fn.run,Mw,Mv]
def ah4(J:1<=m)(B:M[U]?=some (.dT je))(C:-1<=x)(N:-1<=y)(Y:bothW Z je x y=some v):prog.call m 20 [ux K U Z,.int x,.int y] M=.ok v M:=by
 rw[call_of J rfl];unfold bothW at Y
 by_cases G:x=-1
 .rw[dj G]at Y;cases Y
  subst G;have:(-1:Int)+y+1=y:=by lia
  simp[Fn.run,G6,G5,this]
 .rw[cj G]at Y
  have nx:¬x<0:=by lia
  by_cases T:y=-1
  .rw[dj T]at Y;cases Y
   subst T;have:x+(-1:Int)+1=x:=by lia
   simp[Fn.run,G6,G5,nx,this]
  .rw[cj T]at Y
   have O:¬y<0:=by lia
   simp[Fn.run,G6,G5,nx,O,a0k,aaf B (aag x y),Y]
end K33
namespace MW
def Hu(J:it.den W ρ M=.ok d M1)(C:gr M1 d=some Z)(O:Z.length<=100000)(h:∀x∈Z,∃U,t.put x (ρ++List.replicate k none)=some U/\c.den W U M1=.ok (.bl (q x)) M1/\(q x=true->e.den W U M1=.ok (g x) M1)) :
 (Ex.Ef v k t (.val it) c e).den W ρ M=if v then .ok (.vl ((Z.filter q).map g)) M1 else new (.lst ((Z.filter q).map g)) M1:=by
 rw[Pu,J9,J];obtain⟨s,P,T⟩:=Pr (g:=λx=>if q x then some (g x)else none) (body:=λd M=>(Res.v9 (t.put d (ρ++List.replicate k none)) M).bind λY M=>(c.den W Y M).bind λb B =>
  match b with
   |.bl true=>(e.den W Y B).bind λx G=>.ok (some x) G
   |.bl false=>.ok none B|_=>.bad) C O (λx E=>by
  obtain⟨U,a,b,c⟩:=h x E;rw[a,Res.Dk,Res.Ca,b,Res.Ca];cases e:q x with
  | true=>simp[c e]|false=>simp)
 have:Z.filterMap (λx=>if q x then some (g x)else none)=(Z.filter q).map g:=by
  clear T h O C
  induction Z with
  |nil=>rfl|cons a l L=>by_cases e:q a=true<;>simp[e,L]
 rw[this]at T;simp only[Res.Ca,P,Res.Dk];exact qt (λr=>Res.bind r λZ N=>if v=true then Res.ok (D.vl Z) N else new (MO.lst Z) N) T
end MW
namespace K33
open MW
noncomputable def Br(Y:List F)(k:Nat):D->Nat
 |.int i=>if i=-1 then k else match Y[i.toNat]? with|some f=>f.b|none=>0
 |_=>0
def wT(Y:List F)(k g:Nat):List D:=(su Y k).filter λd=>decide (Br Y k d=g)
def Th(h:d∈wT Z k g):d∈su Z k/\Br Z k d=g:=by have:=jg.mp h;exact⟨this.1,by simpa using this.2⟩
def Dp{i:Nat}(h:Z[i]?=some f):Br Z k (.int i)=f.b:=by
 have:¬((i:Int)=-1):=by lia
 simp[Br,this,h]
def a5z{i:Nat}(h:Z[i]?=some f)(e:f.a=k):.int i∈su Z k:=by refine bw _ (bf.mpr ⟨i,jg.mpr ⟨jk.mpr (ao.mp h).1,?_⟩,rfl⟩);simp[Jw,h,e]
def asb{i:Nat}(h:Z[i]?=some f)(e:f.a=k):.int i∈wT Z k f.b:=
 jg.mpr ⟨a5z h e,by simp[Dp h]⟩
def a6a(h:d∈wT Z k g):∃i:Int,d=.int i:=asa (Th h).1
def bv(Y:List F)(T:List (List Kx×D))(j:Nat):D->Int
 |.int x=>match bothW Y T x j with|some (.int v)=>v|_=>0
 |_=>0
def aj5(P:G8 sz K Z U){j:Nat}(T:Z[j]?=some f)(N:d∈wT Z k f.a) :
 ∃x:Int,d=.int x/\-1<=x/\bothW Z U x j=some (.int (bv Z U j d))/\.int (bv Z U j d)∈wT Z k f.b:=by
 obtain⟨L,Y⟩:=Th N;have C:¬((j:Int)=-1):=by lia
 rcases Cy L with rfl|⟨i,g,rfl,hg,e⟩
 .have e:k=f.a:=by simpa[Br]using Y
  have:bothW Z U (-1) j=some (.int j):=by simp[bothW]
  refine⟨-1,rfl,by lia,by simp[bv,this],?_⟩;simp only[bv,this];exact asb T e.symm
 .rw[Dp hg]at Y
  have J:¬((i:Int)=-1):=by lia
  have:bothW Z U i j=some (.int (ent Z g f)):=by rw[bothW,cj J,cj C];exact P.look hg T Y
  refine⟨i,rfl,by lia,by simp[bv,this],?_⟩;simp only[bv,this];have mg:=bh hg;have E:=bh T;rw[Nh];rcases P.Ew (P.cl g mg f E Y)with⟨G,B⟩|⟨u,O,G⟩
  .rw[G]
   refine jg.mpr ⟨by simp[su],?_⟩;have:g.a=f.b:=B.1;simp[Br,<-e,this]
  .rw[G]
   exact asb (f:=g.comp f) O e
noncomputable def ixI(v:Int)(Y:List D):Nat:=(Y.findIdx? λd=>match d with|.int i=>decide (i=v)|_=>false).getD 0
theorem af8(M:dz)(v:Int):∀Z:List D,(∀d∈Z,∃i:Int,d=.int i)->Q4 M (.int v) Z=some (Z.map λd=>match d with|.int i=>decide (i=v)|_=>false)
 |[],_=>rfl
 |d::l,h=>by
  obtain⟨i,rfl⟩:=h d (by simp);simp[Q4,af8 M v l (λx Y=>h x (bw _ Y))]
theorem af9{Y:Type}(f:Y->Bool):∀l:List Y,(l.map f).findIdx? id=l.findIdx? f
 |[]=>rfl|a::l=>by simp[List.findIdx?_cons,af9 f l]
def asd(Y:∀d∈ds,∃i:Int,d=.int i)(h:.int v∈ds):Ks .index (.vl ds) [.int v] M=.ok (.int (ixI v ds)) M:=by
 have e:ad1 M (.int v) ds=some (ixI v ds):=by
  rw[ad1,af8 M v ds Y,uw,af9];unfold ixI;cases q:ds.findIdx? (λd=>match d with|.int i=>decide (i=v)|_=>false)with
  |some j=>rfl
  |none =>
   rw[xj]at q;have:=q _ h;simp at this
 simp[Ks,onL,e]
end K33
namespace K33
open MW
def ase(Y:1<=m)(T:d∈su Z k):prog.call m 19 [ux K r Z,.int k,d] M=.ok (.int (Br Z k d)) M:=by
 rcases Cy T with rfl|⟨i,f,rfl,hf,_⟩
 .rw[amh Y];simp[Br]
 .rw[aj4 Y hf,Dp hf]
def RS(p K:Nat)(Y:Nat->List D)(M:dz):Prop:=∀i,i<K->M[p+i]?=some (.lst (Y i))
noncomputable def yp(p K:Nat):List D:=(List.range K).map λi=>.ref (p+i)
theorem RS.keep(h:RS p K rs M)(s:St t f M M')(Y:t<p):RS p K rs M':=λi T=>s.keep _ _ (i_ (b_ Y x_)) (h i T)
def ade(Y:i<K):Bk (.vl (yp p K)) (.int i) M=some (.ref (p+i)):=Ea rfl q_ (by simp[yp,Y])
def asf(N:y=ρ.length)(J:e.den W ρ M=.ok (.int K) M)(B:K<=100000) :
 (Ex.comp true 1 (.name y) (.U4 e) (.lst .nil)).den W ρ M=.ok (.vl (yp M.length K)) (M++List.replicate K (.lst [])):=by
 subst N;obtain⟨E,Y,g,C,G⟩:=aby (v:=true) (k:=1) (t:=.name ρ.length) (e:=.lst .nil) J B (λi T Y=>T=yp M.length i/\Y=M++List.replicate i (.lst [])) ⟨rfl,by simp⟩
  (λi T Y L O=>by
   obtain⟨rfl,rfl⟩:=O;refine⟨_,.ref (M.length+i),M++List.replicate i (MO.lst [])++[MO.lst []],rfl,by simp[MW.new],?_,?_⟩
   .simp[yp,qd]
   .simp[List.replicate_succ'])
 rw[g,C,G];rfl
def rowsOf(Y:List F)(T:List (Nat×Nat))(e:Nat):List D:=T.flatMap λp=>(wT Y p.2 e).map λw=>.tup [.int p.1,.int p.2,w]
def Ti(Y:List F)(T:List (Nat×Nat))(p:Nat×Nat)(e:Nat):rowsOf Y (T++[p]) e=rowsOf Y T e++(wT Y p.2 e).map λw=>.tup [.int p.1,.int p.2,w]:=by simp[rowsOf]
def Xa(P:G8 sz K Z U)(Y:k<K)(T:d∈su Z k):Br Z k d<K:=by
 rcases Cy T with rfl|⟨i,f,rfl,hf,_⟩
 .simpa[Br]using Y
 .rw[Dp hf];exact P.Zw f (bh hf)
def ayp{k:Nat}(G:1<=m)(J:hs.length<=5)(B:ρ[1]?=some (sP K r hs))(T:ρ[5]?=some (sI k))(Y:ρ.length=19) :
 Jp.den (PW m) ρ M=.ok (.vl ((su hs k).map λw=>.tup [.int (Br hs k w),w])) M:=by
 unfold Jp;rw[Cd (d:=.vl (su hs k)) (ds:=su hs k) (M1:=M) (g:=λw=>.tup [.int (Br hs k w),w]) (by simp[B,T,af7 G J]) rfl (gf (Uo J) (by decide)) (λx N=>by
  refine⟨_,rfl,?_⟩;have C:(ρ++List.replicate 1 none).set 19 (some x)=ρ++[some x]:=by rw[List.set_append];simp[Y]
  rw[C];have E:(ρ++[some x])[1]?=some (sP K r hs):=by rw[gn (b_ (by decide) (g_ Y))];exact B
  have O:(ρ++[some x])[5]?=some (sI k):=by rw[gn (b_ (by decide) (g_ Y))];exact T
  have L:(ρ++[some x])[19]?=some (some x):=by rw[<-Y];simp
  simp[E,O,L,ase G N])]
 rfl
def Low(p:Nat)(M Y:dz):Prop:=∀(a:Nat)(o:MO),a<p->M[a]?=some o->Y[a]?=some o
def Low.refl(p:Nat)(M:dz):Low p M M:=λ_ _ _ h=>h
def Low.trans(a:Low p M Z)(b:Low p Z M2):Low p M M2:=λx o h e=>b x o h (a x o h e)
theorem Low.set(h:p<=q):Low p M (M.set q o):=λa u Y e=>by rw[mj (i_ (b_ Y h))];exact e
noncomputable def Zo(n k:Nat)(w:D):D:=.tup [.int n,.int k,w]
def a0l(n k:Nat)(w:D):D.tup [.int n,.int k,w]=Zo n k w:=rfl
def adf(Y:List F)(T:Nat->List D)(n k j:Nat)(e:Nat):List D:=T e++(((su Y k).take j).filter λw=>decide (Br Y k w=e)).map (Zo n k)
def ash(Y:List F)(T:Nat->List D)(n k e:Nat):adf Y T n k (su Y k).length e=T e++(wT Y k e).map (Zo n k):=by unfold adf wT;rw[Bu]
def asi(Y:Z.length<=5)(J:(rs e).length<=7):(adf Z rs n k j e).length<=13:=by
 have B:=qw (λw=>decide (Br Z k w=e)) ((su Z k).take j);have T:=Uo (k:=k) Y;have G:((su Z k).take j).length<=(su Z k).length:=by simp;lia
 simp only[adf,jc,dm]
 lia
def abi{n:Nat}(P:G8 sz K Z je)(V:k<K)(h:RS p K rs M)(u:∀e,e<K->(rs e).length<=7)(l:rest.length=10) :
 ∃b7 b8 U,Jo.den W ([a0,a1,a2,some (.vl (yp p K)),sI n,sI k,some (.vl ((su Z k).map λw=>.tup [.int (Br Z k w),w])),b7',b8']++rest) M
  = .ok (.next,[a0,a1,a2,some (.vl (yp p K)),sI n,sI k,some (.vl ((su Z k).map λw=>.tup [.int (Br Z k w),w])),b7,b8]++rest) U/\RS p K (λe=>rs e++(wT Z k e).map (Zo n k)) U/\Low p M U/\U.length=M.length:=by
 refine hG λ_ _k=>?_
 have q:=P.len;obtain⟨y,U,e,⟨N,E,rfl⟩,I,X,H⟩:=Dl (S:=Jo) (W:=W) (d:=.vl ((su Z k).map λw=>.tup [.int (Br Z k w),w])) (ds:=(su Z k).map λw=>.tup [.int (Br Z k w),w]) rfl
  (ρ:=[a0,a1,a2,some (.vl (yp p K)),sI n,sI k,some (.vl ((su Z k).map λw=>.tup [.int (Br Z k w),w])),b7',b8']++rest) (M:=M) (M1:=M) (by simp) rfl
  (λj J U=>(∃b7 b8:Option D,J=[a0,a1,a2,some (.vl (yp p K)),sI n,sI k,some (.vl ((su Z k).map λw=>.tup [.int (Br Z k w),w])),b7,b8]++rest)/\RS p K (adf Z rs n k j) U/\Low p M U/\U.length=M.length)
  ⟨⟨b7',b8',rfl⟩,λi Y=>by rw[h i Y];simp[adf],Low.refl _ _,rfl⟩ (λ_ _ _ _=>rfl)
  (λj x J B A Q=>by
   refine hG λ_ _k=>?_
   obtain⟨⟨N,E,rfl⟩,L,F,R⟩:=Q;obtain⟨w,O,rfl⟩:∃w,(su Z k)[j]?=some w/\D.tup [.int (Br Z k w),w]=x:=by simpa using A
   have T:=bh O;have G:=Xa P V T;have g:=L _ G;have ap:=Es (d:=Zo n k w) g (by have:=asi (n:=n) (k:=k) (j:=j) q (u _ G);exact c_ this (by decide));apply _k;refine⟨_,.next,_,B.set (p+Br Z k w) (.lst (adf Z rs n k j (Br Z k w)++[Zo n k w])),Qa _ _ _ _ _,?_,.inl rfl,⟨some (.int (Br Z k w)),some w,rfl⟩,?_,F.trans (Low.set x_),by simp[R]⟩
   .show Jm.den W (a0::a1::a2::some (.vl (yp p K))::some (.int n)::some (.int k)::some (.vl ((su Z k).map λw=>.tup [.int (Br Z k w),w]))::some (.int (Br Z k w))::some w::rest) B=_
    simp[Jm,ade G,Ep g,a0l,ap]
   .intro i Y
    have C:(su Z k).take (j+1)=(su Z k).take j++[w]:=by rw[Ai,O];rfl
    by_cases z:i=Br Z k w
    .subst z
     rw[qx g];simp[adf,C,List.filter_append]
    .rw[mj (by lia),L i Y]
     simp[adf,C,List.filter_append,km z])
 apply _k;refine⟨N,E,U,e,λi Y=>?_,X,H⟩;rw[I i Y];simp only[dm];rw[ash]
structure Gs(t:Nat)(f:Bool)(p:Nat)(M M':dz):Prop where
 has:Vx t f M'
 low:∀(a:Nat)(o:MO),a<p->a≠t->M[a]?=some o->M'[a]?=some o
 len:M.length<=M'.length
def Gs.trans(a:Gs t f p M Z)(b:Gs t f p Z M2):Gs t f p M M2:=⟨b.has,λx o h n e=>b.low x o h n (a.low x o h n e),gf a.len b.len⟩
def Gs.aga(s:St t f M M1):Gs t f p M M1:=⟨s.has,λa o _ n e=>s.keep a o n e,s.len⟩
def Low.has(h:Vx t f M)(l:Low p M M1)(Y:t<p):Vx t f M1:=by obtain⟨n,e,o⟩:=h;exact⟨n,l _ _ Y e,o⟩
def Gs.asj(h:Vx t f M)(l:Low p M M1)(Y:t<p)(T:M.length<=M1.length):Gs t f p M M1:=⟨l.has h Y,λa o x _ e=>l a o x e,T⟩
def Gs.refl(h:Vx t f M):Gs t f p M M:=⟨h,λ_ _ _ _ e=>e,bz _⟩
def Gs.st(g:Gs t f M.length M M1):St t f M M1:=⟨g.len,g.has,λa o n e=>g.low a o (xm e) n e⟩
def Gs.app(h:Vx t f M)(Y:p<=M.length)(X:dz):Gs t f p M (M++X):=⟨by obtain⟨n,e,o⟩:=h;exact⟨n,yx e,o⟩,λa o _ _ e=>yx e,by simp⟩
def ayq(B:ρ.length=y)(G:ρ[3]?=some (some (.vl (yp p K))))(h:RS p K rs M)(T:K<=3) :
 (Ex.comp true 1 (.name y) (.val (.v 3)) (.blt .len (.o (.var y)))).den W ρ M=.ok (.vl (((List.range K).map λi=>(rs i).length).map nD)) M:=by
 subst B;rw[Cd (d:=.vl (yp p K)) (ds:=yp p K) (M1:=M) (g:=λd=>match qm .len [d] M with|.ok x _=>x|_=>.non) (by simp[G]) rfl (by simp[yp];exact a_ T (by decide)) (λd J=>by
  refine hG λ_ _k=>?_
  obtain⟨i,Y,rfl⟩:=bf.mp J;apply _k;refine⟨_,rfl,?_⟩;simp[len_list (j5 (h i (jk.mp Y)))])]
 simp only[lz,yp,Ar]
 congr 2
 apply yu;intro i Y;simp[len_list (j5 (h i (jk.mp Y))),nD]
inductive Adm(hs:List F)(K:Nat):List (Nat×Nat)->Prop
 |nil:Adm hs K []
 |snoc:Adm hs K ad->k<K->(∀e,e<K->(rowsOf hs ad e).length+(su hs k).length<=7)->Adm hs K (ad++[(n,k)])
structure Rw(hs:List F)(K p:Nat)(ad:List (Nat×Nat))(M:dz):Prop where
 rs:RS p K (rowsOf hs ad) M
 kd:∀q∈ad,q.2<K
 le:∀e,e<K->(rowsOf hs ad e).length<=7
 nd:(ad.map (·.1)).Nodup
 ap:Adm hs K ad
def ayr(Q:1<=m)(P:G8 sz K Z je)(hh:Vx t f M)(I:t<p)(h:Rw Z K p ad M)(B:∀q∈ad,q.1<n)(E:rest.length=10) :
 ∃c5 c6 c7 U qq M',Fl.den (PW m) ([sR t,sP K r Z,sI 3,some (.vl (yp p K)),sI n,b5,b6,b7,b8]++rest) M
  = .ok (.next,[sR t,sP K r Z,sI 3,some (.vl (yp p K)),sI n,c5,c6,c7,U]++rest) M'/\Rw Z K p qq M'/\(∀q∈qq,q.1<n+1)/\Gs t f p M M'/\M'.length=M.length:=by
 refine hG λ_ _k=>?_
 have hl:=P.len;have j:=P.k3;obtain⟨k,M1,V,F,G,u⟩:=Dn (many:=K) Q hh (by have:=P.k1;exact m_ this) (m_ (c_ j (by decide)));have C:k<K:=o_ F
 have N:=h.rs.keep G I;have J:=ayp (M:=M1) (r:=r) (K:=K) (hs:=Z) (ρ:=[sR t,sP K r Z,sI 3,some (.vl (yp p K)),sI n,sI k,b6,b7,b8]++rest) (k:=k) Q hl rfl rfl (by simp[E]);have U:=ayq (W:=PW m) (M:=M1) (ρ:=[sR t,sP K r Z,sI 3,some (.vl (yp p K)),sI n,sI k,some (.vl ((su Z k).map λw=>.tup [.int (Br Z k w),w])),b7,b8]++rest) (y:=19) (by simp[E]) rfl N j;obtain⟨v,R,g,v2⟩:=ao9 (M:=M1) (xs:=(List.range K).map λi=>(rowsOf Z ad i).length) (by have:=P.k1;intro z;have:=qt List.length z;simp at this;exact l_ (o_ F) (a_ (f_ this) (jd _)));generalize hL:(D.vl (((List.range K).map λi=>(rowsOf Z ad i).length).map nD))=L at R U;have Y:qm .len [.vl ((su Z k).map λw=>D.tup [.int (Br Z k w),w])] M1=.ok (.int (su Z k).length) M1:=by simp[qm,U6]
 apply _k
 by_cases q:v+(su Z k).length<8
 .refine hG λ_ _k=>?_
  have S:(v:Int)+((su Z k).length:Int)<8:=by lia
  obtain⟨d7,d8,d,A,s,o,H⟩:=abi (W:=PW m) (M:=M1) P (n:=n) C N h.le (a0:=some (.ref t)) (a1:=some (ux K r Z)) (a2:=some (.int 3)) (b7':=b7) (b8':=b8) (rest:=rest) E;apply _k;refine⟨some (.int k),some (.vl ((su Z k).map λw=>D.tup [.int (Br Z k w),w])),d7,d8,ad++[(n,k)],d,?_,⟨λi c=>?_,λq T=>?_,λe O=>?_,?_,.snoc h.ap C λe O=>?_⟩,λq T=>?_,(Gs.aga G).trans (Gs.asj G.has o I (g_ H)),H.trans u⟩
  .simp only[zc,yj]at J U A⊢
   simp[Fl,Oi,V,J,Jl,U,R,Y,S,A]
  .rw[s i c,Ti];rfl
  .rcases dw.mp T with z|z
   .exact h.kd q z
   .have:q=(n,k):=by simpa using z
    rw[this];exact C
  .rw[Ti,jc,dm]
   have X:=g (rowsOf Z ad e).length (bf.mpr ⟨e,jk.mpr O,rfl⟩);have a2:(wT Z k e).length<=(su Z k).length:=qw _ _
   simp only
   lia
  .rw[iu]
   refine Aa.mpr ⟨h.nd,by simp,λa x b l=>?_⟩;refine hG λ_ _k=>?_
   obtain⟨q,T,rfl⟩:=bf.mp x;have:b=n:=by simpa using l
   have:=B q T;apply _k
   lia
  .have X:=g (rowsOf Z ad e).length (bf.mpr ⟨e,jk.mpr O,rfl⟩)
   lia
  .rcases dw.mp T with z|z
   .have:=B q z;exact A_ (e_ this)
   .have:q=(n,k):=by simpa using z
    rw[this];exact j4 n
 .have S:¬(v:Int)+((su Z k).length:Int)<8:=by lia
  refine⟨some (.int k),some (.vl ((su Z k).map λw=>D.tup [.int (Br Z k w),w])),b7,b8,ad,M1,?_,⟨N,h.kd,h.le,h.nd,h.ap⟩,λq T=>by have:=B q T;exact A_ (e_ this),Gs.aga G,u⟩;simp only[zc,yj]at J U⊢;simp[Fl,Oi,V,J,Jl,U,R,Y,S]
theorem aj6{M:dz}{x:D}:∀{T:List D},(∀y∈T,∃b,zy M y x=some b)->∃bs:List Bool,Q4 M x T=some bs/\bs.length=T.length/\∀(i:Nat)(y:D),T[i]?=some y->(bs[i]?).map some=some (zy M y x)
 |[],_=>⟨[],rfl,rfl,λi y h=>by simp at h⟩
 |y::l,h=>by
  obtain⟨b,G⟩:=h y (by simp);obtain⟨bs,O,J,B⟩:=aj6 (λz Y=>h z (bw _ Y));refine⟨b::bs,by simp[Q4,G,O],by simp[J],λi z Y=>?_⟩;cases i with
  |zero=>simp at Y;subst Y;simp[G]|succ i=>simpa using B i z (by simpa using Y)
def a6c(h:∀y∈ds,∃b,zy M y x=some b)(N:x∈ds)(P:zy M x x=some true):∃j y,ad1 M x ds=some j/\ds[j]?=some y/\zy M y x=some true:=by
 obtain⟨bs,S,J,O⟩:=aj6 h;obtain⟨i,L,E⟩:=p8 N;have G:=O i x (by simp[L,E]);rw[P]at G;obtain⟨b,C,R⟩:=dg.mp G;cases R;rw[ad1,S,uw];cases q:bs.findIdx? id with
 |some j =>
  obtain⟨Y,Q,_⟩:=q9.mp q;have B:ds[j]?=some (ds[j]'(b_ Y (f_ J))):=bx (b_ Y (f_ J));have T:=O j _ B;rw[bx Y]at T;simp only[wz,Ad]at T;exact⟨j,_,rfl,B,by rw[<-T];simpa using Q⟩
 |none =>
  rw[xj]at q;have:=q true (bh C);simp at this
def ays(Y:M[p]?=some (.lst ds))(h:∀y∈ds,∃b,zy M y x=some b)(T:x∈ds)(J:zy M x x=some true):∃(j:Nat)(y:D),Ks .index (.ref p) [x] M=.ok (.int j) M/\ds[j]?=some y/\zy M y x=some true:=by obtain⟨j,y,O,G,B⟩:=a6c h T J;exact⟨j,y,by simp[Ks,onL,j5 Y,O],G,B⟩
def ayt(Y:M[p]?=some (.lst ds)):Oq .index (.ref p) M=true:=by simp[Oq,j5 Y]
def asm(M:dz)(n k Y G:Nat)(a T:Int):zy M (Zo n k (.int a)) (Zo Y G (.int T))=some (decide (n=Y)&&(decide (k=G)&&(decide (a=T)&&true))):=by show Tp (Kr M 5) [.int n,.int k,.int a] [.int Y,.int G,.int T]=_;rw[Eh (Nb M 4 n Y) (Eh (Nb M 4 k G) (Eh (W4 4 a T) (show Tp (Kr M 5) [] []=some true from rfl)))]
def Gz(h:d∈rowsOf Z ad e):∃(n k:Nat)(x:Int),(n,k)∈ad/\.int x∈wT Z k e/\d=Zo n k (.int x):=by obtain⟨q,T,G⟩:=Ao.mp h;obtain⟨w,Y,rfl⟩:=bf.mp G;obtain⟨x,rfl⟩:=a6a Y;exact⟨q.1,q.2,x,T,Y,rfl⟩
def ami(h:(n,k)∈ad)(Y:w∈wT Z k e):Zo n k w∈rowsOf Z ad e:=
 Ao.mpr ⟨(n,k),h,bf.mpr ⟨w,Y,rfl⟩⟩
structure Ae(hs:List F)(je:List (List Kx×D))(ad:List (Nat×Nat))(j:Nat)(g:F)(js:Y3):Prop where
 len:js.length=(rowsOf hs ad g.a).length
 go:∀(i n k:Nat)(x:Int),(rowsOf hs ad g.a)[i]?=some (Zo n k (.int x))->(rowsOf hs ad g.b)[js.getD i 0]?=some (Zo n k (.int (bv hs je j (.int x))))
def asn(h:i<l.length):(l++[x]).getD i 0=l.getD i 0:=by rw[cz,gn h,cz]
def Ae.lt(h:Ae Z je ad j g U):∀x∈U,x<(rowsOf Z ad g.b).length:=λx G=>by
 obtain⟨i,T,rfl⟩:=p8 G;have Y:i<(rowsOf Z ad g.a).length:=by rw[<-h.len];exact T
 obtain⟨n,k,y,_,_,e⟩:=Gz (my Y);have:=h.go i n k y (by rw[bx Y,e]);rw[cz,bx T]at this;exact(ao.mp this).1
def a6d(hm:1<=m)(P:G8 sz K Z U)(hr:M[r]?=some (.dT U)){j:Nat}(h:Rw Z K p ad M)(I:Z[j]?=some g)(C:rest.length=6) :
 ∃js:List Nat,Jj.den (PW m) ([a0,sP K r Z,a2,some (.vl (yp p K)),a4,a5,a6,a7,a8,a9,sI j,sI g.a,sI g.b]++rest) M=.ok (.vl (js.map nD)) M /\
  Ae Z U ad j g js:=by
 have A:=bh I;have L:=P.ahc g A;have S:=P.Zw g A;have V:=h.rs _ L;have Q:=h.rs _ S;unfold Jj;obtain⟨ys,G,e,O⟩:=K5 (W:=PW m) (v:=true) (k:=3) (t:=.names [19,20,21]) (it:=.ix (.v 3) (.v 11)) (e:=.bm .index (.ix (.v 3) (.v 12)) (.o (.tup (.q (.v 19) (.v 20) (.call 20 (.q (.v 1) (.v 21) (.v 10)))))))
  (ρ:=[a0,sP K r Z,a2,some (.vl (yp p K)),a4,a5,a6,a7,a8,a9,sI j,sI g.a,sI g.b]++rest) (M:=M) (M1:=M) (d:=.ref (p+g.a)) (ds:=rowsOf Z ad g.a) (by simp[ade L]) (j5 V) (by have:=h.le _ L;exact a_ this (by decide))
  (λi R G=>G=M/\∃js:List Nat,R=js.map nD/\js.length=i/\∀(T n k:Nat)(x:Int),T<i->(rowsOf Z ad g.a)[T]?=some (Zo n k (.int x))->(rowsOf Z ad g.b)[js.getD T 0]?=some (Zo n k (.int (bv Z U j (.int x))))) ⟨rfl,[],rfl,rfl,by simp⟩ (λi R G h=>by rw[h.1];exact j5 V)
  (λi y R G B O=>by
   obtain⟨rfl,js,rfl,J,N⟩:=O;obtain⟨n,k,x,h1,h2,rfl⟩:=Gz (bh B);obtain⟨H,z,hx,hv,Zr⟩:=aj5 P I h2;cases z;obtain⟨jj,yy,e1,e2,E⟩:=ays (x:=Zo n k (.int (bv Z U j (.int x)))) Q (λy B=>by obtain⟨F,X,qq,_,_,rfl⟩:=Gz B;exact⟨_,asm _ _ _ _ _ _ _⟩) (ami h1 Zr) (by rw[asm];simp);refine⟨_,.int jj,G,rfl,?_,rfl,js++[jj],by simp[nD],by simp[J],λT F X H Zq Y=>?_⟩
   .have hl:rest.length=6:=C
    match rest,hl with
    |[r0,r1,r2,r3,r4,r5],_ =>
     show(Ex.bm .index (.ix (.v 3) (.v 12)) (.o (.tup (.q (.v 19) (.v 20) (.call 20 (.q (.v 1) (.v 21) (.v 10))))))).den _ [a0,sP K r Z,a2,D.vl (yp p K),a4,a5,a6,a7,a8,a9,sI j,sI g.a,sI g.b,r0,r1,r2,r3,r4,r5,sI n,sI k,sI x] G=_;simp[ade S,ayt Q,ah4 hm hr hx (show(-1:Int)<=j by lia) hv,a0l,e1]
   .by_cases z:T<i
    .rw[asn (b_ z (g_ J))];exact N T F X H z Y
    .have z:T=i:=u_ (z_ Zq) (s_ z)
     subst z;rw[B]at Y;simp only[Zo,Ad,D.tup.injEq,Cm,D.int.injEq,z7,and_true]at Y;obtain⟨rfl,rfl,rfl⟩:=Y;have ej:(js++[jj]).getD T 0=jj:=by rw[<-J];simp[cz]
     rw[ej,e2];obtain⟨n3,k3,x3,_,_,rfl⟩:=Gz (bh e2);rw[asm]at E;simp only[Ad,az,f9,and_true]at E;obtain⟨rfl,rfl,rfl⟩:=E;rfl)
 obtain⟨rfl,js,rfl,J,N⟩:=O;exact⟨js,by rw[e];rfl,J,λi n k x h=>N i n k x (ao.mp h).1 h⟩
noncomputable def up(Y:Nat->List Nat)(i:Nat)(T:Y3):Nat->List Nat:=λe=>if e=i then T else Y e
noncomputable def Ju(Y T:Nat)(l:Y3):List Nat:=l.map λo=>if o=T then Y else o
theorem aj7{Y T:Nat}(h:Y<T):∀l:List Nat,(Ju Y T l).sum<=l.sum
 |[]=>bz _
 |a::l=>by
  have:=aj7 h l;simp only[Ju,gq,u0]at this⊢;split<;>omega
theorem aj8{T Y:Nat}(h:T<Y):∀{l:Y3},Y∈l->(Ju T Y l).sum<l.sum
 |a::l,hm=>by
  have G:=aj7 h l;simp only[Ju,gq,u0]at G⊢
  by_cases z:a=Y
  .rw[dj z];exact b_ (G_ h) (a_ (v_ (g_ z)) (w_ G))
  .have:=aj8 h (show Y∈l from by simpa[km z]using hm)
   simp only[Ju]at this;rw[cj z];exact H_ this
noncomputable def Y9(K:Nat)(Y:Nat->List Nat):Nat:=((List.range K).map λi=>(Y i).sum).sum
theorem aso{Y:Nat->List Nat}{b:Nat}{ns:Y3}(h:ns.sum<(Y b).sum):∀K,Y9 K (up Y b ns)<=Y9 K Y/\(b<K->Y9 K (up Y b ns)<Y9 K Y)
 |0=>⟨bz _,λz=>absurd z (ug _)⟩
 |K+1=>by
  obtain⟨T,G⟩:=aso h K;simp only[Y9,qd,iu,List.sum_append,gq,List.map_nil,u0,List.sum_nil]at T G⊢
  by_cases z:K=b
  .subst z
   have e:up Y K ns K=ns:=by simp[up]
   rw[e];constructor
   .exact e_ (c_ (v_ T) (H_ (G_ h)))
   .intro _;exact c_ (v_ T) (H_ (G_ h))
  .have e:up Y b ns K=Y K:=by simp[up,z]
   rw[e];constructor
   .exact v_ T
   .intro q;have:=G (by lia);exact G_ this
structure Mk(t pm K:Nat)(L:Nat->Nat)(ms:Nat->List Nat)(M:dz):Prop where
 ex:∃mds:List D,M[pm]?=some (.lst mds)/\mds.length=K/\∀i,i<K->∃d,mds[i]?=some d/\gr M d=some ((ms i).map nD)/\∀a,d=.ref a->t<a/\a<pm
 len:∀i,i<K->(ms i).length=L i
 lt:∀i,i<K->∀x∈ms i,x<L i
 fx:∀i,i<K->∀x∈ms i,(ms i).getD x 0=x
def Za(h:gr M d=some ds)(k:∀a o,d=.ref a->M[a]?=some o->Z[a]?=some o):gr Z d=some ds:=by
 cases d with
 |ref a =>
  simp only[gr]at h⊢;cases e:M[a]? with
  |none=>rw[e]at h;cases h|some o=>rw[e]at h;rw[k a o rfl e];exact h
 |vl Y=>exact h|_=>cases h
def Mk.frame(h:Mk t pm K L Z M)(k:∀(a:Nat) (o:MO),t<a->a<=pm->M[a]?=some o->M'[a]?=some o)(B:t<pm):Mk t pm K L Z M':=by obtain⟨T,C,G,N⟩:=h.ex;refine⟨⟨T,k _ _ B (bz _) C,G,λi J=>?_⟩,h.len,h.lt,h.fx⟩;obtain⟨d,O,E,Y⟩:=N i J;exact⟨d,O,Za E λa o e q=>k a o (Y a e).1 (yq (Y a e).2) q,Y⟩
def Mk.row(h:Mk t pm K L Z M)(Y:i<K):∃d,Bk (.ref pm) (.int i) M=some d/\gr M d=some ((Z i).map nD):=by obtain⟨T,B,C,J⟩:=h.ex;obtain⟨d,G,O,_⟩:=J i Y;exact⟨d,Ea (j5 B) q_ (by simpa using G),O⟩
def Tj{l:Y3}(h:gr M d=some (l.map nD))(Y:x<l.length):Bk d (.int x) M=some (.int (l.getD x 0)):=
 Ea h q_ (by simp[Y,nD])
def getD_mem'{l:Y3}(Y:x<l.length):l.getD x 0∈l:=by rw[cz,bx Y];exact my Y
set_option tactic.hygienic true in
theorem Mk.set(h:Mk t pm K L Z M)(Q:i<K)(V:ns.length=L i)(R:∀x∈ns,x<L i)(P:∀x∈ns,ns.getD x 0=x)(F:t<pm) :
 ∃o,setOp (.ref pm) (.int i) (.vl (ns.map nD)) M=some (M.set pm o)/\Mk t pm K L (up Z i ns) (M.set pm o):=by
 obtain⟨O,E,N,H⟩:=h.ex;refine⟨.lst (O.set i (.vl (ns.map nD))),?_,⟨O.set i (.vl (ns.map nD)),qx E,by simp[N],λe B=>?_⟩,λe B=>?_,λe B x T=>?_,λe B x T=>?_⟩
 .have:=abr (d:=.vl (ns.map nD)) (i:=i) E q_ (m_ (b_ Q (g_ N)))
  simpa using this
 .by_cases z:e=i
  .subst z
   exact⟨.vl (ns.map nD),by simp[N,B],by simp[up],λa q=>by cases q⟩
  .obtain⟨d,W,k2,k3⟩:=H e B
   refine⟨d,by rw[vy (km z)];exact W,?_,k3⟩;have:up Z i ns e=Z e:=by simp[up,z]
   rw[this];exact Za k2 λa o q w=>by rw[mj (by have:=(k3 a q).2;exact i_ this)];exact w
 .unfold up;split
  .rename_i z;rw[z];exact V
  .exact h.len e B
 .unfold up at T;split at T
  .rename_i z;rw[z];exact R x T
  .exact h.lt e B x T
 .unfold up at T⊢;split at T
  .rename_i z;rw[dj z];exact P x T
  .rename_i z;rw[cj z];exact h.fx e B x T
def getD_map{α:Type}{l:Y3}{f:Nat->Nat}{x:Nat}(h:x<l.length):(l.map f).getD x 0=f (l.getD x 0):=by simp[cz,ig,bx h]
set_option tactic.hygienic true in
def aj9(L:∀x∈l,l.getD x 0=x)(lt:∀x∈l,x<l.length)(T:lo∈l):∀x∈Ju lo Z l,(Ju lo Z l).getD x 0=x:=λx O=>by
 obtain⟨o,N,e⟩:=bf.mp O;have B:x∈l:=by
  split at e
  .rw[<-e];exact T
  .rw[<-e];exact N
 unfold Ju;rw[getD_map (α:=Nat) (lt x B),L x B]
 by_cases z:x=Z
 .rw[dj z]
  split at e
  .exact e
  .rename_i w;exact absurd (e.trans z) w
 .rw[cj z]
def Cg(Y:Nat->List Nat)(g:F)(T:Y3):Prop:=∀x y,x<T.length->y<T.length->(Y g.a).getD x 0=(Y g.a).getD y 0->(Y g.b).getD (T.getD x 0) 0=(Y g.b).getD (T.getD y 0) 0
structure Ac(q:Nat)(hs:List F)(L:Nat->Nat)(as:List (List Nat))(M:dz):Prop where
 at_:M[q]?=some (.lst (as.map λjs=>.vl (js.map nD)))
 len:as.length=hs.length
 ok:∀(j:Nat)(g:F)(js:Y3),hs[j]?=some g->as[j]?=some js->js.length=L g.a/\∀x∈js,x<L g.b
def Ac.get(h:Ac q U L as M){j:Nat}(T:U[j]?=some g):∃Z,as[j]?=some Z/\Bk (.ref q) (.int j) M=some (.vl (Z.map nD))/\Z.length=L g.a/\∀x∈Z,x<L g.b:=by
 have G:=(ao.mp T).1;have Y:j<as.length:=by rw[h.len];exact G
 have e:as[j]?=some as[j]:=bx Y;exact⟨_,e,Ea (j5 h.at_) q_ (by simp[e]),h.ok j g _ T e⟩
def a6e(h:M[n]?=some (.dK Z)):Ks .get (.ref n) [.int k,d] M=.ok ((Af Z (.inl k)).getD d) M:=by simp[Ks,aof,onL,h]
def bco(h:M[n]?=some (.dK Z)):Oq .get (.ref n) M=true:=by simp[Oq,gr,h]
def a6f(h:M[n]?=some (.dK Z))(Y:Z.length<100000):setOp (.ref n) (.int k) d M=some (M.set n (.dK (Dz Z (.inl k) d))):=by simp[setOp,h,Y]
def asq[DecidableEq Z]{Y:List (Z×D)}(h:Af Y k=some v):∃p∈Y,p.2=v:=by unfold Af at h;obtain⟨p,T,G⟩:=dg.mp h;exact⟨p,List.mem_of_find?_eq_some T,G⟩
def ayu[DecidableEq Z]{T:List (Z×D)}(h:p∈Dz T k v):p∈T\/p.2=v:=by
 unfold Dz at h;split at h
 .obtain⟨q,G,Y⟩:=bf.mp h
  split at Y
  .rw[<-Y];exact .inr rfl
  .rw[<-Y];exact .inl G
 .rcases dw.mp h with z|z
  .exact .inl z
  .have:p=(k,v):=by simpa using z
   rw[this];exact .inr rfl
def Mm[DecidableEq Z](p:Z×D)(r:List (Z×D))(k:Z):Af (p::r) k=if p.1=k then some p.2 else Af r k:=by
 unfold Af
 by_cases h:p.1=k
 .simp[ud,h]
 .simp[ud,h]
theorem Zb{T:Type}[DecidableEq T]{k k':T}{v:D}:∀{Y:List (T×D)},(∃p∈Y,p.1=k)->Af (Y.map λp=>if p.1=k then(p.1,v)else p) k'=if k'=k then some v else Af Y k'
 |p::r,h=>by
  rw[gq,Mm,Mm]
  by_cases a:p.1=k
  .rw[dj a]
   by_cases b:k'=k
   .simp[a,b]
   .have c:¬p.1=k':=λz=>b (z.symm.trans a)
    rw[cj c,cj b,cj c]
    by_cases d:∃p∈r,p.1=k
    .rw[Zb d,cj b]
    .congr 1
     conv=>rhs;rw[<-List.map_id r]
     apply yu;intro q B;rw[cj λz=>d ⟨q,B,z⟩];rfl
  .rw[cj a]
   have d:∃p∈r,p.1=k:=by
    obtain⟨q,G,J⟩:=h;rcases dh.mp G with rfl|G
    .exact absurd J a
    .exact⟨q,G,J⟩
   rw[Zb d]
   by_cases b:k'=k
   .have c:¬p.1=k':=λz=>a (z.trans b)
    rw[cj c];simp[b]
   .simp[b]
theorem agb{Y:Type}[DecidableEq Y]{k k':Y}{v:D}:∀{T:List (Y×D)},(∀p∈T,p.1≠k)->Af (T++[(k,v)]) k'=if k'=k then some v else Af T k'
 |[],_=>by
  rw[yj,Mm]
  by_cases b:k'=k
  .simp[b]
  .simp[b,km b]
 |p::r,h=>by
  rw[zc,Mm,Mm,agb (λq G=>h q (bw _ G))];have a:=h p (by simp)
  by_cases b:k'=k
  .have c:¬p.1=k':=λz=>a (z.trans b)
   rw[cj c];simp[b]
  .simp[b]
def agc[DecidableEq Z](Y:List (Z×D))(k k':Z)(v:D):Af (Dz Y k v) k'=if k'=k then some v else Af Y k':=by
 unfold Dz
 by_cases h:(Y.any λp=>decide (p.1=k))=true
 .rw[dj h]
  exact Zb (by simpa using h)
 .rw[cj h]
  exact agb (λp T z=>h (Am.mpr ⟨p,T,by simpa using z⟩))
def aka[DecidableEq Z](Y:List (Z×D))(k:Z)(v:D):(Dz Y k v).length<=Y.length+1:=by unfold Dz;split<;>simp
def adg(M:dz)(a b:Nat):zy M (.int a) (.int b)=some (decide (a=b)):=Cv M a b
def Fm(T n:Nat)(M Y:dz):Prop:=∀(a:Nat)(o:MO),a≠T->a<n->M[a]?=some o->Y[a]?=some o
def akb(M:dz)(a b:Nat):qm .min [.int a,.int b] M=.ok (.int (min a b:Nat)) M:=by
 show Res.ok (D.int (if(b:Int)<(a:Int)then(b:Int)else(a:Int))) M=_
 by_cases h:b<a
 .rw[dj (m_ h),Nat.min_eq_right (e_ h)]
 .rw[cj (by lia),Nat.min_eq_left (s_ h)]
def adh(M:dz)(a b:Nat):qm .max [.int a,.int b] M=.ok (.int (max a b:Nat)) M:=by
 show Res.ok (D.int (if(a:Int)<(b:Int)then(b:Int)else(a:Int))) M=_
 by_cases h:a<b
 .rw[dj (m_ h),Nat.max_eq_right (e_ h)]
 .rw[cj (by lia),Nat.max_eq_left (s_ h)]
def agd{lo hi:Nat}(E:(Ex.ix (.var v) (.var x)).den W ρ M=.ok d M)(R:gr M d=some (l.map nD))(P:l.length<=100000)(S:y=ρ.length)(J:ρ[a]?=some (sI lo))(Y:ρ[b]?=some (sI hi)) :
 (Ex.comp true 1 (.name y) (.val (.ix (.var v) (.var x))) (.ite (.cmp .eq (.var y) (.var b)) (.var a) (.var y))).den W ρ M=.ok (.vl ((Ju lo hi l).map nD)) M:=by
 subst S;have O:=(ao.mp J).1;have N:=(ao.mp Y).1;rw[Cd (d:=d) (ds:=l.map nD) (M1:=M) (g:=λd=>match d with|.int o=>nD (if o.toNat=hi then lo else o.toNat)|_=>.non) E R (by simpa using P) (λz L=>by
  obtain⟨o,Q,rfl⟩:=bf.mp L;refine⟨_,rfl,?_⟩;have C:(ρ++List.replicate 1 none).set ρ.length (some (nD o))=ρ++[sI o]:=by rw[List.set_append];simp[nD]
  have G:(ρ++[some (D.int o)])[a]?=some (sI lo):=by rw[gn O];exact J
  have B:(ρ++[some (D.int o)])[b]?=some (sI hi):=by rw[gn N];exact Y
  have T:(ρ++[some (D.int o)])[ρ.length]?=some (sI o):=by simp
  rw[C]
  by_cases z:o=hi
  .subst z;simp[-eq_int,G,B,T,adg,nD]
  .simp[-eq_int,G,B,T,adg,z,nD])]
 simp[Ju,nD]
def ayv{lo hi:Nat}(Y:(Ex.ix (.v 1) (.var x)).den W ρ M=.ok d M)(B:gr M d=some (l.map nD))(G:l.length<=100000)(C:y=ρ.length)(J:12<y)(O:ρ[11]?=some (sI lo))(T:ρ[12]?=some (sI hi)) :
 (Ex.comp true 1 (.name y) (.val (.ix (.v 1) (.var x))) (.ite (.cmp .eq (.var y) (.v 12)) (.v 11) (.var y))).den W ρ M=.ok (.vl ((Ju lo hi l).map nD)) M:=agd Y B G C O T
structure Fd(dd:Nat)(a b js:Y3)(n:Nat)(M:dz):Prop where
 ex:∃kv:List (Kx×D),M[dd]?=some (.dK kv)/\kv.length<=n/\(∀p∈kv,∃e:Nat,p.2=.int e/\e∈b)/\∀i,i<n->Af kv (.inl ((a.getD i 0:Nat):Int))=some (.int ((b.getD (js.getD i 0) 0:Nat):Int))
def asr{j:Nat}(mk:Mk t pm K L U M)(ac:Ac q hs L as M)(hj:hs[j]?=some g)(ga:g.a<K)(T:g.b<K)(hd:M[dd]?=some (.dK []))(q6:pm<dd)(q3:q<dd)(zq:q≠pm)(ht:t<pm)(hL:∀e,e<K->L e<=7) :
 ∃qk Z,Hi.den W [sP K r hs,sR pm,sR q,b3,sI j,sI g.a,sI g.b,sR dd,b8,b9,b10,Kl,Uq] M=.ok (.next,qk) Z /\
  ∃c3 c7 c8 c9 qq qv q0,qk=[sP K r hs,sR pm,sR q,c3,sI j,sI g.a,sI g.b,c7,c8,c9,qq,qv,q0]/\Fm pm dd M Z/\M.length<=Z.length /\
   ((c3=b3/\Mk t pm K L U Z/\∀js,as[j]?=some js->Cg U g js)\/(c3=some (.bl true)/\∃Oj,Mk t pm K L Oj Z/\Y9 K Oj<Y9 K U)):=by
 obtain⟨js,ej,_,lj,rj⟩:=ac.get hj;obtain⟨da,fa,la⟩:=mk.row ga;have Q:=mk.len _ ga;have X:=hL _ ga;refine aeh (S:=Hi) (W:=W) (n:=L g.a) (M1:=M) rfl ?_ (a_ X (by decide))
  (λi ρ Z=>(∃b8 b9 b10,ρ=[sP K r hs,sR pm,sR q,b3,sI j,sI g.a,sI g.b,sR dd,b8,b9,b10,Kl,Uq])/\Mk t pm K L U Z/\Fd dd (U g.a) (U g.b) js i Z/\Low dd M Z/\Z.length=M.length)
  (λqk Z=>∃c3 c7 c8 c9 qq qv q0,qk=[sP K r hs,sR pm,sR q,c3,sI j,sI g.a,sI g.b,c7,c8,c9,qq,qv,q0]/\Fm pm dd M Z/\M.length<=Z.length /\
   ((c3=b3/\Mk t pm K L U Z/\∀js,as[j]?=some js->Cg U g js)\/(c3=some (.bl true)/\∃Oj,Mk t pm K L Oj Z/\Y9 K Oj<Y9 K U)))
  ⟨⟨b8,b9,b10,rfl⟩,mk,⟨[],hd,bz _,by simp,by simp⟩,Low.refl _ _,rfl⟩ (fun ρ Z h=>?_) (λi ρ M1 R hI=>?_)
 .have e:=len_list la
  simp only[dm,Q]at e;simp[fa,e]
 .refine hG λ_ _k=>?_
  obtain⟨⟨c8,c9,qq,rfl⟩,Y,⟨H,_,_,_,P⟩,h3,h4⟩:=h;apply _k;refine⟨b3,_,c8,c9,qq,Kl,Uq,rfl,λa o _ x e=>h3 a o x e,g_ h4,.inl ⟨rfl,Y,λq5 e' x y hx C q8=>?_⟩⟩;rw[ej]at e';cases e';have N:=P x (b_ hx (f_ lj));have g2:=P y (b_ C (f_ lj));rw[q8,g2]at N;simp only[Ad,D.int.injEq]at N;exact(z7.mp N).symm
 .refine hG λ_ _k=>?_
  obtain⟨⟨c8,c9,qq,rfl⟩,Y,⟨H,k1,k2,k3,P⟩,h3,h4⟩:=hI;obtain⟨da,fa,la⟩:=Y.row ga;obtain⟨db,fb,lb⟩:=Y.row T;have q7:Ac q hs L as M1:=⟨h3 _ _ q3 ac.at_,ac.len,ac.ok⟩;obtain⟨q5,A,fj,_,_⟩:=q7.get hj;rw[ej]at A;cases A;have B:=Tj la (show i<(U g.a).length by rw[Q];exact R);have O:Bk (.vl (js.map nD)) (.int i) M1=some (.int (js.getD i 0)):=Tj rfl (b_ R (g_ lj));apply _k;have C:js.getD i 0<(U g.b).length:=by rw[Y.len _ T];exact rj _ (getD_mem' (b_ R (g_ lj)))
  generalize hy0:js.getD i 0=y at O C;have J:=Tj lb C;have hz:=getD_mem' C;generalize hx0:(U g.a).getD i 0=x at B;generalize hz0:(U g.b).getD y 0=z at J hz;have V:=a6e (k:=(x:Int)) (d:=.int z) k1;have ty:=bco k1;have G:((Af H (.inl (x:Int))).getD (.int z)=.int z)->∃F fl qk Z,(Tg.name 8).put (.int i) [sP K r hs,sR pm,sR q,b3,sI j,sI g.a,sI g.b,sR dd,c8,c9,qq,Kl,Uq]=some F/\Eu.den W F M1=.ok (fl,qk) Z /\
   (((fl=.next\/fl=.cont)/\(∃b8 b9 b10,qk=[sP K r hs,sR pm,sR q,b3,sI j,sI g.a,sI g.b,sR dd,b8,b9,b10,Kl,Uq])/\Mk t pm K L U Z/\Fd dd (U g.a) (U g.b) js (i+1) Z/\Low dd M Z/\Z.length=M.length) \/
     (fl=.brk/\∃c3 c7 c8 c9 qq qv q0,qk=[sP K r hs,sR pm,sR q,c3,sI j,sI g.a,sI g.b,c7,c8,c9,qq,qv,q0]/\Fm pm dd M Z/\M.length<=Z.length /\
      ((c3=b3/\Mk t pm K L U Z/\∀js,as[j]?=some js->Cg U g js)\/(c3=some (.bl true)/\∃Oj,Mk t pm K L Oj Z/\Y9 K Oj<Y9 K U)))):=λhg=>by
   rw[hg]at V;have st:=a6f (k:=(x:Int)) (d:=.int z) k1 (by have:=hL _ ga;exact c_ k2 (b_ R (a_ X (by decide))));refine⟨_,.next,_,M1.set dd (.dK (Dz H (.inl (x:Int)) (.int z))),rfl,?_,.inl ⟨.inl rfl,⟨some (.int i),sI x,sI z,rfl⟩,Y.frame (λa o _ ha e=>by rw[mj (i_ (c_ ha q6))];exact e) ht,⟨_,qx k1,?_,?_,λE Zq=>?_⟩,h3.trans (Low.set (bz _)),by simp[h4]⟩⟩
   .simp[-eq_int,Eu,fa,B,fb,fj,O,J,ty,V,adg,st]
   .have:=aka H (.inl (x:Int)) (.int z);exact a_ this (v_ k2)
   .intro p hp
    rcases ayu hp with w|w
    .exact k3 p w
    .exact⟨z,w,hz⟩
   .rw[agc]
    by_cases w:(U g.a).getD E 0=x
    .rw[w,dj rfl]
     by_cases w2:E=i
     .subst w2;rw[hy0,hz0]
     .have N:=P E (by lia)
      rw[w]at N;rw[N]at hg;simp only[zf]at hg;rw[hg]
    .have w2:E≠i:=λq=>w (by rw[q,hx0])
     have:¬((Sum.inl (((U g.a).getD E 0:Nat):Int):Kx)=.inl (x:Int)):=λq=>w (by injection q with q;exact z7.mp q)
     rw[cj this];exact P E (by lia)
  cases hlk:Af H (.inl (x:Int))with
  |none=>exact G (by rw[hlk];rfl)
  |some v =>
   obtain⟨p,hp,rfl⟩:=asq hlk;obtain⟨e,he,q1⟩:=k3 p hp;rw[he]at hlk
   by_cases q2:e=z
   .exact G (by rw[hlk,q2];rfl)
   .rw[hlk]at V
    have ix:=a82 (b:=.int x) k1 rfl;rw[show(Sum.inl (x:Int):Kx)=.inl (x:Int)from rfl,hlk]at ix;have lh:min e z<max e z:=by lia
    have hm:max e z∈U g.b:=by
     rcases Nat.le_total e z with w|w
     .rw[Nat.max_eq_right w];exact hz
     .rw[Nat.max_eq_left w];exact q1
    have I:min e z∈U g.b:=by
     rcases Nat.le_total e z with w|w
     .rw[Nat.min_eq_left w];exact q1
     .rw[Nat.min_eq_right w];exact hz
    have rp:=ayv (W:=W) (M:=M1) (ρ:=[sP K r hs,sR pm,sR q,b3,sI j,sI g.a,sI g.b,sR dd,sI i,sI x,sI z,sI (min e z:Nat),sI (max e z:Nat)]) (x:=6) (y:=13) (lo:=min e z) (hi:=max e z) (by simp[fb]) lb (by rw[Y.len _ T];have:=hL _ T;exact a_ this (by decide)) rfl (by decide) rfl rfl;obtain⟨o,so,q4⟩:=Y.set T (ns:=Ju (min e z) (max e z) (U g.b)) (by simp[Ju,Y.len _ T]) (λy C=>by
     obtain⟨w,hw,rfl⟩:=bf.mp C;split
     .exact Y.lt _ T _ I
     .exact Y.lt _ T _ hw) (aj9 (Y.fx _ T) (λx hx=>by rw[Y.len _ T];exact Y.lt _ T x hx) I) ht
    have ne:¬((e:Nat)=z):=q2;refine⟨_,.brk,_,M1.set pm o++[.dK []],rfl,?_,.inr ⟨rfl,some (.bl true),sR (M1.set pm o).length,sI i,sI x,sI z,sI (min e z:Nat),sI (max e z:Nat),rfl,λa u na ha q=>?_,by simp;exact a_ (g_ h4) x_,.inr ⟨rfl,_,q4.frame (λa u _ _ q=>yx q) ht,(aso (aj8 lh hm) K).2 T⟩⟩⟩
    .simp only[zf]at V
     simp[-eq_int,Eu,fa,B,fb,fj,O,J,ty,V,adg,ne,ix,akb,adh,N8,rp,so,MW.new]
    .refine yx ?_
     rw[mj (km na)];exact h3 a u ha q
def Fm.trans(a:Fm pm n M Z)(b:Fm pm n Z M2):Fm pm n M M2:=λx o h l e=>b x o h l (a x o h l e)
def Fm.le(a:Fm pm n M M1)(h:Z<=n):Fm pm Z M M1:=λx o q l e=>a x o q (b_ l h) e
theorem Vc:∀{l:Y3}{c:Nat},(∀x∈l,x<=c)->l.sum<=l.length*c
 |[],_,_=>by simp
 |a::l,c,h=>by
  have T:=h a (by simp);have G:=Vc (λx Y=>h x (bw _ Y));simp only[u0,iw,Nat.succ_mul]
  lia
def a6h(J:Mk t pm K L Z M)(G:∀e,e<K->L e<=7)(O:K<=3):Y9 K Z<=200:=by
 have:∀x∈(List.range K).map λi=>(Z i).sum,x<=49:=λx T=>by
  obtain⟨i,Y,rfl⟩:=bf.mp T;have Y:=jk.mp Y;have P:=Vc (l:=Z i) (c:=7) (λx T=>by have:=J.lt i Y x T;have:=G i Y;lia);have B:=J.len i Y;have C:=G i Y;have N:(Z i).length*7<=7*7:=Nat.mul_le_mul_right 7 (a_ (f_ B) C)
  lia
 have h:=Vc this;simp only[dm,yh]at h;have E:K*49<=3*49:=Nat.mul_le_mul_right 49 O
 unfold Y9
 lia
def Cgs(G:List F)(as:List (List Nat))(n:Nat)(T:Nat->List Nat):Prop:=∀(j:Nat)(g:F)(Y:Y3),j<n->G[j]?=some g->as[j]?=some Y->Cg T g Y
def asu(P:G8 sz K Z je)(mk:Mk t pm K L ms M)(D:Ac q Z L as M)(R:pm<M.length)(T:q<M.length)(J:q≠pm)(ht:t<pm)(hL:∀e,e<K->L e<=7) :
 ∃qv M',Hk.den W [sP K r Z,sR pm,sR q,b3,b4,b5,b6,b7,b8,b9,b10,Kl,Uq] M=.ok (.next,qv) M' /\
  ∃c3 c4 c5 c6 c7 c8 c9 qq qk U Oj,qv=[sP K r Z,sR pm,sR q,c3,c4,c5,c6,c7,c8,c9,qq,qk,U]/\Fm pm M.length M M'/\M.length<=M'.length/\Mk t pm K L Oj M'/\((c3=b3/\Oj=ms/\Cgs Z as Z.length ms)\/(c3=some (.bl true)/\Y9 K Oj<Y9 K ms)):=by
 have hl:=P.len;refine yo (S:=Hk) (W:=W) (n:=Z.length) (M1:=M) rfl (by simp[Jx,K7]) (a_ hl (by decide))
  (λn qv M'=>∃c3 c4 c5 c6 c7 c8 c9 qq qk U Oj,qv=[sP K r Z,sR pm,sR q,c3,c4,c5,c6,c7,c8,c9,qq,qk,U]/\Fm pm M.length M M'/\M.length<=M'.length/\Mk t pm K L Oj M'/\((c3=b3/\Oj=ms/\Cgs Z as n ms)\/(c3=some (.bl true)/\Y9 K Oj<Y9 K ms)))
  ⟨b3,b4,b5,b6,b7,b8,b9,b10,Kl,Uq,ms,rfl,λ_ _ _ _ e=>e,bz _,mk,.inl ⟨rfl,rfl,λj g js h=>absurd h (ug _)⟩⟩ (λj E G hj hI=>?_)
 obtain⟨c3,c4,c5,c6,c7,c8,c9,qq,qk,U,F,rfl,f1,V,k1,o1⟩:=hI;have Y:Z[j]?=some Z[j]:=by simp[hj]
 have X:=bh Y;have k2:Mk t pm K L F (G++[.dK []]):=k1.frame (λa o _ _ e=>yx e) ht;have N:Ac q Z L as (G++[.dK []]):=⟨yx (f1 _ _ J T D.at_),D.len,D.ok⟩;obtain⟨q0,M2,e2,d3,d7,d8,d9,H,Q,B,rfl,f2,l2,o2⟩:=asr (W:=W) (r:=r) (dd:=G.length) (b3:=c3) (b8:=c8) (b9:=c9) (b10:=qq) (Kl:=qk) (Uq:=U) k2 N Y (P.ahc _ X) (P.Zw _ X) (by simp) (b_ R V) (b_ T V) J ht hL;have A:Fm pm M.length M M2:=λa o na ha e=>f2 a o na (b_ ha V) (yx (f1 a o na ha e))
 have O:M.length<=M2.length:=by simp at l2;lia
 have pe:∀E,(Tg.names [5,6]).put (eD Z[j]) E=some ((E.set 5 (some (.int Z[j].a))).set 6 (some (.int Z[j].b))):=λ_=>rfl
 have run:Hj.den W [sP K r Z,sR pm,sR q,c3,sI j,c5,c6,c7,c8,c9,qq,qk,U] G=.ok (.next,[sP K r Z,sR pm,sR q,d3,sI j,some (.int Z[j].a),some (.int Z[j].b),d7,d8,d9,H,Q,B]) M2:=by simp[Hj,Jx,Rt Y,pe,MW.new,e2]
 refine⟨_,.next,_,M2,rfl,run,.inl rfl,?_⟩;rcases o2 with⟨rfl,k3,cg⟩|⟨rfl,m2,k3,t3⟩
 .rcases o1 with⟨rfl,rfl,cs⟩|⟨rfl,t1⟩
  .refine⟨_,_,_,_,_,_,_,_,_,_,F,rfl,A,O,k3,.inl ⟨rfl,rfl,λj' g' C h1 I h3=>?_⟩⟩
   by_cases z:j'=j
   .subst z
    rw[Y]at I;cases I;exact cg _ h3
   .exact cs j' g' C (by lia) I h3
  .exact⟨_,_,_,_,_,_,_,_,_,_,F,rfl,A,O,k3,.inr ⟨rfl,t1⟩⟩
 .refine⟨_,_,_,_,_,_,_,_,_,_,m2,rfl,A,O,k3,.inr ⟨rfl,?_⟩⟩
  rcases o1 with⟨_,rfl,_⟩|⟨_,t1⟩<;>omega
def amj(hm:1<=m)(P:G8 sz K U je)(mk:Mk t pm K L ms M)(ac:Ac q U L as M)(Q:pm<M.length)(O:q<M.length)(N:q≠pm)(ht:t<pm)(hL:∀e,e<K->L e<=7) :
 ∃Oj Z,prog.call m 26 [ux K r U,.ref pm,.ref q] M=.ok (.ref pm) Z/\Mk t pm K L Oj Z/\Cgs U as U.length Oj/\Fm pm M.length M Z/\M.length<=Z.length:=by
 rw[call_of hm rfl];obtain⟨Y,Z,e,Oj,E,H,f1,T,c,I⟩:∃Y Z,Hm.den ⟨prog.call (m-1),prog.cls⟩ [sP K r U,sR pm,sR q,D.bl true,none,none,none,none,none,none,none,none,none] M=.ok (.next,Y) Z /\
  ∃Oj,Mk t pm K L Oj Z/\Cgs U as U.length Oj/\Fm pm M.length M Z/\M.length<=Z.length/\∃c:Env,Y=[sP K r U,sR pm]++c:=by
  unfold Hm;rw[abp];refine Qp (λm ρ Z=>∃(Oj:Nat->List Nat)(b:Bool)(c:Env),ρ=[sP K r U,sR pm,sR q,some (.bl b)]++c/\c.length=9/\Mk t pm K L Oj Z/\(b=false->Cgs U as U.length Oj)/\Fm pm M.length M Z/\M.length<=Z.length/\m=(if b then Y9 K Oj+1 else 0))
   (λY Z=>∃Oj,Mk t pm K L Oj Z/\Cgs U as U.length Oj/\Fm pm M.length M Z/\M.length<=Z.length/\∃c:Env,Y=[sP K r U,sR pm]++c) (λn ρ C hI=>?_) ag4 (Y9 K ms+1) _ M (by have:=a6h mk hL P.k3;show Y9 K ms+1<1000000;lia)
   ⟨ms,true,[none,none,none,none,none,none,none,none,none],rfl,rfl,mk,by simp,λ_ _ _ _ e=>e,bz _,rfl⟩
  obtain⟨m1,b,c,rfl,hc,E,H,f1,T,rfl⟩:=hI
  match c,hc with
  |[c4,c5,c6,c7,c8,c9,c10,c11,c12],_ =>
  cases b with
  |false=>exact .inl ⟨C,rfl,m1,E,H rfl,f1,T,_,rfl⟩
  |true =>
   right
   obtain⟨qq,M2,e2,d3,S,V,R,A,d8,X,B,J,G,F,rfl,f2,l2,k2,o2⟩:=asu (W:=⟨prog.call (m-1),prog.cls⟩) (r:=r) (as:=as) P E (⟨f1 _ _ N O ac.at_,ac.len,ac.ok⟩:Ac q U L as C) (b_ Q T) (b_ O T) N ht hL (b3:=some (.bl false)) (b4:=c4) (b5:=c5) (b6:=c6) (b7:=c7) (b8:=c8) (b9:=c9) (b10:=c10) (Kl:=c11) (Uq:=c12);have f3:Fm pm M.length M M2:=f1.trans (f2.le T);have run:Hl.den ⟨prog.call (m-1),prog.cls⟩ [sP K r U,sR pm,sR q,D.bl true,c4,c5,c6,c7,c8,c9,c10,c11,c12] C=.ok (.next,[sP K r U,sR pm,sR q,d3,S,V,R,A,d8,X,B,J,G]) M2:=by simp[Hl,e2]
   rcases o2 with⟨rfl,rfl,cs⟩|⟨rfl,t3⟩
   .exact⟨C,.next,_,M2,0,rfl,run,.inl rfl,by simp,F,false,[S,V,R,A,d8,X,B,J,G],rfl,rfl,k2,λ_=>cs,f3,a_ T l2,rfl⟩
   .exact⟨C,.next,_,M2,Y9 K F+1,rfl,run,.inl rfl,by simp;exact t3,F,true,[S,V,R,A,d8,X,B,J,G],rfl,rfl,k2,by simp,f3,a_ T l2,rfl⟩
 subst I;refine⟨Oj,Z,?_,E,H,f1,T⟩;simp only[zc,yj]at e;simp[Fn.run,Rg,Rf,e]
theorem akd:∀l:List Nat,Wz (l.map nD)=some (l.map λ(x:Nat)=>(x:Int))
 |[]=>rfl|a::l=>by show(Wz (l.map nD)).map _=_;rw[akd l];rfl
noncomputable def fil(b:Nat)(f:Nat->Bool):List Nat:=(List.range b).filter f
def ayz(b:Nat)(f:Nat->Bool):(fil b f).length<=b:=by have:=qw f (List.range b);rw[yh]at this;exact this
def Xb:x∈fil b f↔x<b/\f x=true:=by rw[fil,jg,jk]
def ah6(b:Nat)(f:Nat->Bool):(fil b f).Pairwise (· < ·):=List.pairwise_lt_range.filter f
def srt{is:Xs}{f:Nat->Bool}(h:∀y,y∈is↔∃z:Nat,z<b/\f z=true/\y=z):sortI (Bp is)=(fil b f).map λ(x:Nat)=>(x:Int):=
 (ais (wk.mpr ((ah6 b f).imp λh=>by lia)) (mz.mpr (wk.mpr ((ah6 b f).imp λh=>by lia))) λy=>by
  rw[h,bf];constructor
  .rintro⟨z,T,G,rfl⟩;exact⟨z,Xb.mpr ⟨T,G⟩,rfl⟩
  .rintro⟨z,Y,rfl⟩;exact⟨z,(Xb.mp Y).1,(Xb.mp Y).2,rfl⟩).symm
def ay0(l:Y3):(l.map λ(x:Nat)=>(x:Int)).map D.int=l.map nD:=by rw[Ar];rfl
def mem_cast{l:Y3}{y:Int}:y∈l.map (λ(x:Nat)=>(x:Int))↔∃z:Nat,z∈l/\y=z:=by rw[bf];constructor<;>rintro⟨z,h,e⟩<;>exact⟨z,h,e.symm⟩
def ay1{M:dz}{l:Y3}(h:gr M d=some (l.map nD))(J:b<=7\/l.length<31)(T:∀z,z∈l↔z<b/\f z=true):qm .J7 [d] M=.ok (.vl ((fil b f).map nD)) M/\(fil b f).length<=l.length:=by
 have e:=srt (is:=l.map λ(x:Nat)=>(x:Int)) (b:=b) (f:=f) λy=>by
  rw[mem_cast];constructor
  .rintro⟨z,Y,rfl⟩;exact⟨z,((T z).mp Y).1,((T z).mp Y).2,rfl⟩
  .rintro⟨z,Y,G,rfl⟩;exact⟨z,(T z).mpr ⟨Y,G⟩,rfl⟩
 have q:=(Ln (Bp (l.map λ(x:Nat)=>(x:Int)))).length_eq;have n:=aos (l.map λ(x:Nat)=>(x:Int));rw[e,dm]at q;rw[<-q,dm]at n;have le:(Bp (l.map λ(x:Nat)=>(x:Int))).length<31:=by have:=ayz b f;rw[<-q];lia
 refine⟨?_,n⟩;show Res.v9 (((gr M d).bind Wz).bind λis=>if(Bp is).length<31 then some (D.vl ((sortI (Bp is)).map D.int))else none) M=_;rw[h,uw,akd,uw,dj le,e,ay0];rfl
theorem bnd:∀l:List Nat,∃b,∀z∈l,z<b
 |[]=>⟨0,by simp⟩
 |a::l=>by
  obtain⟨b,h⟩:=bnd l;refine⟨a+b+1,λz Y=>?_⟩;rcases dh.mp Y with rfl|Y
  .lia
  .have:=h z Y;lia
def ah7{M:dz}{l:Y3}(h:gr M d=some (l.map nD))(J:l.length<31):∃Z:List Nat,qm .J7 [d] M=.ok (.vl (Z.map nD)) M/\Z.length<=l.length/\Z.Nodup/\∀x,x∈Z↔x∈l:=by
 obtain⟨b,G⟩:=bnd l;have Y:∀z,z∈l↔z<b/\decide (z∈l)=true:=λz=>by rw[f9];exact⟨λq=>⟨G z q,q⟩,λq=>q.2⟩
 obtain⟨T,B⟩:=ay1 (f:=λz=>decide (z∈l)) h (.inr J) Y;exact⟨_,T,B,mz.mpr ((ah6 b _).imp λh=>by lia),λx=>by rw[Xb];exact(Y x).symm⟩
def amk(T:ρ.length=19)(h3:ρ[3]?=some (some (.vl (yp p K))))(h:RS p K rs M)(hK:K<=3)(h7:∀e,e<K->(rs e).length<=7)(U:t<M.length) :
 ∃Z,Ji.den W ρ M=.ok (.ref (M.length+K)) Z/\Mk t (M.length+K) K (λe=>(rs e).length) (λe=>List.range (rs e).length) Z/\vz M Z/\Z.length=M.length+K+1:=by
 unfold Ji;obtain⟨L,S,e,O,P,H,G⟩:=K5 (W:=W) (v:=false) (k:=1) (t:=.name 19) (it:=.v 3) (e:=.ag1 (.l (.v 19))) (ρ:=ρ) (M:=M) (M1:=M) (d:=.vl (yp p K)) (ds:=yp p K) (by simp[h3]) rfl (by simp[yp];exact a_ hK (by decide))
  (λi Q Z=>Q=yp M.length i/\(∀e,e<i->Z[M.length+e]?=some (.lst ((List.range (rs e).length).map nD)))/\vz M Z/\Z.length=M.length+i) ⟨rfl,λe N=>absurd N (ug _),vz.refl M,rfl⟩ (λ_ _ _ _=>rfl)
  (λi y Q Z R V=>by
   obtain⟨rfl,q1,E,J⟩:=V;have Y:i<K:=by have:=(ao.mp R).1;simpa[yp]using this
   obtain rfl:D.ref (p+i)=y:=by simpa[yp,Y]using R
   have ln:=len_list (j5 (E _ _ (h i Y)));have F:(ρ++List.replicate 1 none).set 19 (sR (p+i))=ρ++[sR (p+i)]:=by rw[List.set_append];simp[T]
   have A:(ρ++[some (D.ref (p+i))])[19]?=some (sR (p+i)):=by rw[<-T];simp
   refine⟨_,.ref Z.length,Z++[.lst ((List.range (rs i).length).map nD)],rfl,?_,?_,λe N=>?_,E.trans (vz.app _ _),by simp[J];exact rfl⟩
   .have I:=h7 i Y
    have X:(rs i).length<=100000:=a_ I (by decide)
    rw[F];simp[A,ln,X,MW.new,nD]
   .simp[yp,qd,J]
   .by_cases z:e=i
    .subst z;rw[<-J];simp
    .exact yx (q1 e (by lia)))
 have C:(yp p K).length=K:=by simp[yp]
 rw[C]at O P G;refine⟨S++[.lst L],by rw[e];simp[MW.new,G],⟨⟨L,by rw[<-G];simp,by rw[O];simp[yp],λi Y=>?_⟩,λi Y=>by simp,λi Y x B=>jk.mp B,λi Y x B=>by simp[jk.mp B]⟩,H.trans (vz.app _ _),by simp[G]⟩;refine⟨.ref (M.length+i),by rw[O];simp[yp,Y],j5 (yx (P i Y)),λa q=>?_⟩;cases q;exact⟨b_ U x_,H_ Y⟩
def Mk.st(h:Mk t pm K L Z M)(s:St t f M M')(Y:t<pm):Mk t pm K L Z M':=h.frame (λa o T _ e=>s.keep a o (i_ T) e) Y
def Ac.of(h:Ac q Z L as M)(k:∀o,M[q]?=some o->M'[q]?=some o):Ac q Z L as M':=⟨k _ h.at_,h.len,h.ok⟩
def ay2(V:1<=m)(P:G8 sz K Z je)(hh:Vx t f M)(mk:Mk t pm K L U M)(ac:Ac q Z L as M)(T:t<p)(O:p<=pm)(D:pm<M.length)(hq:p<=q)(C:q≠pm)(N:q<M.length)(hL:∀e,e<K->L e<=7)(hc:Cgs Z as Z.length U) :
 ∃c5 q3 qv qq qk Oj M',Fj.den ⟨prog.call m,prog.cls⟩ [sR t,sP K r Z,a2,a3,b4,b5,b6,b7,b8,sR q,b10,Kl,Uq,sR pm,b14,b15,n16,n17,n18] M =
  .ok (.next,[sR t,sP K r Z,a2,a3,b4,c5,b6,b7,b8,sR q,b10,q3,qv,sR pm,qq,qk,n16,n17,n18]) M'/\Mk t pm K L Oj M'/\Cgs Z as Z.length Oj/\Ac q Z L as M'/\Gs t f p M M':=by
 refine hG λ_ _k=>?_
 have h3:=P.k3;obtain⟨k,M1,e1,l1,s1,n1⟩:=Dn (many:=K) V hh (by have:=P.k1;exact m_ this) (m_ (c_ h3 (by decide)));obtain⟨x,M2,e2,l2,s2,n2⟩:=Dn (many:=7) V s1.has (by decide) (by decide);obtain⟨y,M3,e3,l3,s3,n3⟩:=Dn (many:=7) V s2.has (by decide) (by decide);have B:k<K:=o_ l1
 have s:=s1.trans (s2.trans s3);have Y:=mk.st s (b_ T O);have R:Ac q Z L as M3:=ac.of λo e=>s.keep _ _ (i_ (b_ T hq)) e
 obtain⟨dk,I,F⟩:=Y.row B;have J:=Y.len _ B;have ln:=len_list F;simp only[dm,J]at ln;have mx:=adh M3 x y;apply _k
 by_cases c:max x y<L k
 .have c':((max x y:Nat):Int)<(L k:Int):=m_ c
  have A:x<(U k).length:=by lia
  have hy:y<(U k).length:=by lia
  have ix:=Tj F A;have iy:=Tj F hy;have Q:=getD_mem' A;have S:=getD_mem' hy;generalize hx0:(U k).getD x 0=u at ix Q;generalize hy0:(U k).getD y 0=w at iy S;have H:min u w∈U k:=by
   rcases Nat.le_total u w with z|z
   .rw[Nat.min_eq_left z];exact Q
   .rw[Nat.min_eq_right z];exact S
  have rp:=agd (W:=⟨prog.call m,prog.cls⟩) (M:=M3) (ρ:=[sR t,sP K r Z,a2,a3,b4,sI k,b6,b7,b8,sR q,b10,sI x,sI y,sR pm,sI (min u w:Nat),sI (max u w:Nat),n16,n17,n18]) (v:=13) (x:=5) (y:=19) (a:=14) (b:=15) (lo:=min u w) (hi:=max u w) (by simp[I]) F (by have:=hL _ B;exact a_ (f_ J) (a_ this (by decide))) rfl rfl rfl;obtain⟨o,so,X⟩:=Y.set B (ns:=Ju (min u w) (max u w) (U k)) (by simp[Ju,J]) (λz hz=>by
   obtain⟨v,hv,rfl⟩:=bf.mp hz;split
   .exact Y.lt _ B _ H
   .exact Y.lt _ B _ hv) (aj9 (Y.fx _ B) (λx A=>by rw[J];exact Y.lt _ B x A) H) (b_ T O)
  have E:Ac q Z L as (M3.set pm o):=R.of λo e=>by rw[mj (km C)];exact e
  have G:M3.length=M.length:=u_ (a_ (f_ n3) (a_ (f_ n2) (f_ n1))) (a_ (g_ n1) (a_ (g_ n2) (g_ n3)));obtain⟨Oj,M5,e5,q1,q0,f5,l5⟩:=amj (r:=r) (M:=M3.set pm o) V P X E (by simp;exact b_ D (g_ G)) (by simp;exact b_ N (g_ G)) C (b_ T O) hL;have q2:Ac q Z L as M5:=E.of λo e=>f5 _ _ C (by simp;exact b_ N (g_ G)) e
  refine⟨some (.int k),sI x,sI y,sI (min u w:Nat),sI (max u w:Nat),Oj,M5,?_,q1,q0,q2,⟨?_,λa v ha na e=>?_,by simp at l5;exact a_ (g_ G) l5⟩⟩
  .simp[Fj,Oi,e1,e2,e3,mx,I,ln,c',ix,iy,akb,adh,Pb,rp,so,e5]
  .obtain⟨n,hn,ho⟩:=s.has
   exact⟨n,f5 _ _ (h_ (b_ T O)) (by have:=xm hn;simp;exact this) (by rw[mj (i_ (b_ T O))];exact hn),ho⟩
  .refine f5 _ _ (h_ (b_ ha O)) (by have:=xm e;simp;exact b_ this (g_ G)) ?_
   rw[mj (i_ (b_ ha O))];exact s.keep a v na e
 .have c':¬((max x y:Nat):Int)<(L k:Int):=by lia
  refine⟨some (.int k),sI x,sI y,b14,b15,U,M3,?_,Y,hc,R,Gs.aga s⟩;simp[Fj,Oi,e1,e2,e3,mx,I,ln,c']
def dq(G:Y3)(T:List (List Nat)):D:=.tup [.tup (G.map nD),.tup (T.map λY=>.tup (Y.map nD))]
def asv(h:.int v∈ds):ixI v ds<ds.length:=by
 unfold ixI;cases q:ds.findIdx? (λd=>match d with|.int i=>decide (i=v)|_=>false)with
 |some j=>exact(q9.mp q).1
 |none =>
  rw[xj]at q;have:=q _ h;simp at this
def ay3:∀{Y:List D},(∀d∈Y,∃i:Int,d=.int i)->.int v∈Y->Y[ixI v Y]?=some (.int v):=fun{Y} hi h=>by
 unfold ixI;cases q:Y.findIdx? (λd=>match d with|.int i=>decide (i=v)|_=>false)with
 |some j =>
  obtain⟨G,J,_⟩:=q9.mp q;obtain⟨i,T⟩:=hi Y[j] (my G);rw[T]at J;have:i=v:=by simpa using J
  simp[G,T,this]
 |none =>
  rw[xj]at q;have:=q _ h;simp at this
def asw(l:Y3):∀d∈l.map nD,∃i:Int,d=.int i:=λd Y=>by obtain⟨x,_,rfl⟩:=bf.mp Y;exact⟨_,rfl⟩
def asx{l:Y3}(h:x∈l):.int (x:Int)∈l.map nD:=bf.mpr ⟨x,h,rfl⟩
def ixo(l:Y3)(x:Nat):Nat:=ixI (x:Int) (l.map nD)
def Zc(h:x∈l):ixo l x<l.length:=by have:=asv (asx h);simpa[ixo]using this
def adl{l:Y3}(h:x∈l):l.getD (ixo l x) 0=x:=by have Y:=ay3 (asw l) (asx h);have T:=Zc h;unfold ixo at T⊢;rw[ig,bx T]at Y;simp[nD]at Y;rw[cz,bx T];simp only[zf];exact D_ Y
def Qm(G:Nat->List Nat)(g:F)(Y B J:Y3):List Nat:=B.map λT=>ixo J ((G g.b).getD (Y.getD T 0) 0)
noncomputable def Dc(Y:List (List Nat))(x:Nat)(w:Int):Nat:=if w=-1 then x else(Y.getD w.toNat []).getD x 0
structure Kq(K:Nat)(hs:List F)(Ec:Y3)(Em:List (List Nat)):Prop where
 ls:Ec.length=K
 la:Em.length=hs.length
 sm:∀x∈Ec,x<=7
 ok:∀(j:Nat)(g:F)(js:Y3),hs[j]?=some g->Em[j]?=some js->js.length=Ec.getD g.a 0/\∀x∈js,x<Ec.getD g.b 0
 fu:∀(j1 j2:Nat)(g1 g2:F)(a1 a2:Y3),hs[j1]?=some g1->hs[j2]?=some g2->g1.b=g2.a->Em[j1]?=some a1->Em[j2]?=some a2->∀x,x<a1.length->a2.getD (a1.getD x 0) 0=Dc Em x (ent hs g1 g2)
def Vp(l:Y3):D:=.vl (l.map nD)
def asy(G:ρ.length=19)(O:ρ[13]?=some (sR pm))(N:Mk t pm K L U M)(hK:K<=3)(h7:∀i,i<K->L i<=7) :
 ∃Z:List (List Nat),Jg.den W ρ M=.ok (.vl (Z.map Vp)) M/\Z.length=K/\∀e l,Z[e]?=some l->l.length<=L e/\l.Nodup/\∀x,x∈l↔x∈U e:=by
 obtain⟨C,R,B,h3⟩:=N.ex;unfold Jg;refine hG λ_ _k=>?_
 obtain⟨ys,T,e,rfl,Z,r1,r2,V⟩:=K5 (W:=W) (v:=true) (k:=1) (t:=.name 19) (it:=.v 13) (e:=.blt .J7 (.o (.v 19))) (ρ:=ρ) (M:=M) (M1:=M) (d:=.ref pm) (ds:=C) (by simp[O]) (j5 R) (a_ (f_ B) (a_ hK (by decide)))
  (λi E T=>T=M/\∃Z:List (List Nat),E=Z.map Vp/\Z.length=i/\∀e l,Z[e]?=some l->l.length<=L e/\l.Nodup/\∀x,x∈l↔x∈U e) ⟨rfl,[],rfl,rfl,by simp⟩ (λi E T h=>by rw[h.1];exact j5 R)
  (λi y E T S F=>by
   obtain⟨rfl,Z,rfl,Q,I⟩:=F;have J:i<K:=by have:=(ao.mp S).1;exact b_ this (f_ B)
   refine hG λ_ _k=>?_
   obtain⟨d,P,A,_⟩:=h3 i J;rw[S]at P;cases P;obtain⟨l,k1,k2,H,k3⟩:=ah7 A (by have:=h7 i J;have:=N.len i J;lia);apply _k;have D:(ρ++List.replicate 1 none).set 19 (some y)=ρ++[some y]:=by rw[List.set_append];simp[G]
   have X:(ρ++[some y])[19]?=some (some y):=by rw[<-G];simp
   refine⟨_,Vp l,T,rfl,by rw[D];simp[X,k1,Vp],rfl,Z++[l],by simp,by simp[Q],λe l' Y=>?_⟩
   by_cases z:e<Z.length
   .rw[gn z]at Y;exact I e l' Y
   .have ze:e=i:=by have:=(ao.mp Y).1;simp at this;lia
    subst ze;rw[ji (s_ z),Q]at Y;simp at Y;subst Y;rw[<-N.len e J];exact⟨k2,H,k3⟩)
 apply _k;refine⟨Z,by rw[e,r1];rfl,r2.trans B,V⟩
def asz{Y:List (List Nat)}{i:Nat}(h:Y[i]?=some l):Bk (.vl (Y.map Vp)) (.int i) M=some (Vp l):=Ea rfl q_ (by simp[h])
def amn{hl:List (List Nat)}(V:Mk t pm K L U M)(ac:Ac q hs L as M){j:Nat}(hj:hs[j]?=some g)(ej:as[j]?=some Z)(ga:g.a<K)(F:g.b<K)(h1:hl[g.a]?=some la)(h2:hl[g.b]?=some lb)(Q:∀x,x∈la↔x∈U g.a)(S:∀x,x∈lb↔x∈U g.b)(h7:la.length<=7)(I:M[w]?=some (.lst td))(H:td.length<100000) :
 ∃(E:Option D)(C:Y3),Je.den W [a0,sP K r hs,a2,a3,b4,b5,b6,b7,b8,sR q,sI j,Kl,Uq,sR pm,b14,b15,D.vl (hl.map Vp),sR w,b18] M =
  .ok (.next,[a0,sP K r hs,a2,a3,b4,b5,b6,b7,b8,sR q,sI j,sI g.a,sI g.b,sR pm,b14,b15,some (.vl (hl.map Vp)),sR w,E]) (M.set w (.lst (td++[.tup (C.map nD)])))/\C=Qm U g Z la lb/\C.length=la.length/\∀x∈C,x<lb.length:=by
 refine hG λ_ _k=>?_
 obtain⟨qq,B,fj,lj,rj⟩:=ac.get hj;rw[ej]at B;cases B;obtain⟨db,fb,P⟩:=V.row F;have hz:∀Y∈la,Z.getD Y 0<(U g.b).length/\Y<Z.length:=λY h=>by
  have h3:=V.lt _ ga Y ((Q Y).mp h);have h4:Y<Z.length:=b_ h3 (g_ lj)
  exact⟨by rw[V.len _ F];exact rj _ (getD_mem' h4),h4⟩
 apply _k;have c3:Jd.den W [a0,sP K r hs,a2,a3,b4,b5,b6,b7,b8,sR q,sI j,sI g.a,sI g.b,sR pm,b14,b15,D.vl (hl.map Vp),sR w,b18] M=.ok (Vp (la.map λY=>(U g.b).getD (Z.getD Y 0) 0)) M:=by
  unfold Jd;rw[Cd (d:=Vp la) (ds:=la.map nD) (M1:=M) (g:=λd=>match d with|.int o=>nD ((U g.b).getD (Z.getD o.toNat 0) 0)|_=>.non) (by simp[asz h1]) rfl (by simp;exact a_ h7 (by decide)) (λz T=>by
   obtain⟨Y,G,rfl⟩:=bf.mp T;obtain⟨k1,k2⟩:=hz Y G;refine⟨_,rfl,?_⟩;have O:Bk (.vl (Z.map nD)) (.int Y) M=some (.int (Z.getD Y 0)):=Tj rfl k2;have N:=Tj P k1;show(Ex.ix (.ix (.v 13) (.v 12)) (.ix (.ix (.v 9) (.v 10)) (.v 19))).den W [a0,sP K r hs,a2,a3,b4,b5,b6,b7,b8,sR q,sI j,sI g.a,sI g.b,sR pm,b14,b15,D.vl (hl.map Vp),sR w,b18,sI Y] M=.ok (nD ((U g.b).getD (Z.getD (Y:Int).toNat 0) 0)) M;rw[wg];generalize Z.getD Y 0=yy at O N;generalize(U g.b).getD yy 0=zz at N;simp[fb,fj,O,N,nD])]
  simp[Vp,nD]
 have R:∀z∈la.map (λY=>(U g.b).getD (Z.getD Y 0) 0),.int (z:Int)∈lb.map nD:=λz h=>by obtain⟨Y,G,rfl⟩:=bf.mp h;exact bf.mpr ⟨_,(S _).mpr (getD_mem' (hz Y G).1),rfl⟩
 generalize bcr:la.map (λY=>(U g.b).getD (Z.getD Y 0) 0)=row at c3 R;have J:row.length=la.length:=by rw[<-bcr];simp
 have X:Jc.den W [a0,sP K r hs,a2,a3,b4,b5,b6,b7,b8,sR q,sI j,sI g.a,sI g.b,sR pm,b14,b15,D.vl (hl.map Vp),sR w,Vp row] M=.ok (.vl ((row.map λ(z:Nat)=>ixI (z:Int) (lb.map nD)).map nD)) M:=by
  unfold Jc;rw[Cd (d:=Vp row) (ds:=row.map nD) (M1:=M) (g:=λd=>match d with|.int o=>nD (ixI o (lb.map nD))|_=>.non) (by simp) rfl (by simp;exact a_ (f_ J) (a_ h7 (by decide))) (λz T=>by
   obtain⟨o,ho,rfl⟩:=bf.mp T;refine⟨_,rfl,?_⟩;have O:=asd (M:=M) (ds:=lb.map nD) (v:=(o:Int)) (λd hd=>by obtain⟨x,_,rfl⟩:=bf.mp hd;exact⟨_,rfl⟩) (R o ho);show(Ex.bm .index (.ix (.v 16) (.v 12)) (.o (.v 19))).den W [a0,sP K r hs,a2,a3,b4,b5,b6,b7,b8,sR q,sI j,sI g.a,sI g.b,sR pm,b14,b15,D.vl (hl.map Vp),sR w,Vp row,sI o] M=_;simp[asz h2,Vp,Oq,O,nD])]
  simp[nD]
 refine⟨some (Vp row),row.map λ(z:Nat)=>ixI (z:Int) (lb.map nD),?_,by rw[<-bcr,Ar];rfl,by simp[J],λx hx=>?_⟩
 .have pe:∀A,(Tg.names [11,12]).put (eD g) A=some ((A.set 11 (sI g.a)).set 12 (sI g.b)):=λ_=>rfl
  have ap:=Es (d:=.tup ((row.map λ(z:Nat)=>ixI (z:Int) (lb.map nD)).map nD)) I H;simp only[Ar]at X ap⊢;simp[-List.map_map,Je,Jx,Rt hj,pe,c3,X,Ep I,Fq,ap]
 .obtain⟨z,T,rfl⟩:=bf.mp hx
  have:=asv (R z T);simpa using this
def ah8(h:nD a=nD b):a=b:=by simp only[nD,D.int.injEq,z7]at h;exact h
def ah9(Y:List F)(k:Nat):(su Y k).Nodup:=by
 refine uf.mpr ⟨λh=>?_,?_⟩
 .obtain⟨x,_,e⟩:=bf.mp h
  simp[nD]at e
 .rw[mz,wk]
  exact((mz.mp List.nodup_range).filter _).imp λh e=>h (ah8 e)
def as3(Y:List F)(k g:Nat):(wT Y k g).Nodup:=(ah9 Y k).filter _
def ake(h:Zo n k w=Zo Z U w'):n=Z/\k=U/\w=w':=by simp only[Zo,D.tup.injEq,Cm,D.int.injEq,z7,and_true]at h;exact h
def Nu(Y:(ad.map (·.1)).Nodup)(e:Nat):(rowsOf Z ad e).Nodup:=by
 rw[mz];unfold rowsOf;rw[List.pairwise_flatMap];refine⟨λp _=>?_,?_⟩
 .rw[wk]
  exact(mz.mp (as3 Z p.2 e)).imp λh q=>h (ake q).2.2
 .rw[mz,wk]at Y
  exact Y.imp λh x G y T q=>by obtain⟨u,_,rfl⟩:=bf.mp G;obtain⟨v,_,rfl⟩:=bf.mp T;exact h (ake q).1
def G9{T:Type}{l:List T}(h:l.Nodup){i:Nat}{x:T}(Y:l[i]?=some x)(G:l[j]?=some x):i=j:=by have J:=(ao.mp Y).1;exact(List.getElem?_inj J h).mp (Y.trans G.symm)
def Zd{j:Nat}(h:bothW Z U x j=some (.int v)):bv Z U j (.int x)=v:=by simp[bv,h]
def ay5(P:G8 sz K Z U)(G:Z[j1]?=some g1)(N:Z[j2]?=some g2)(e:g1.b=g2.a)(H:.int x∈wT Z k g1.a) :
 (ent Z g1 g2=-1/\(g1.comp g2).Q5/\bv Z U j2 (.int (bv Z U j1 (.int x)))=x)\/∃j3:Nat,ent Z g1 g2=j3/\Z[j3]?=some (g1.comp g2)/\bv Z U j2 (.int (bv Z U j1 (.int x)))=bv Z U j3 (.int x):=by
 have S:¬((j1:Int)=-1):=by lia
 have Q:¬((j2:Int)=-1):=by lia
 have E:=bh G;have R:=bh N;have F:bothW Z U j1 j2=some (.int (ent Z g1 g2)):=by rw[bothW,cj S,cj Q];exact P.look G N e
 obtain⟨V,C⟩:=Th H;rcases Cy V with q|⟨i,f,q,hf,ef⟩
 .cases q
  have B:bothW Z U (-1) j1=some (.int j1):=by simp[bothW]
  rw[Zd B,Zd F,Nh];rcases P.Ew (P.cl g1 E g2 R e)with⟨Y,J⟩|⟨u,O,Y⟩
  .exact .inl ⟨Y,J,Y⟩
  .refine .inr ⟨u,Y,O,?_⟩
   rw[Y,Zd (v:=u) (by simp[bothW])]
 .cases q
  have L:¬((i:Int)=-1):=by lia
  rw[Dp hf]at C;have B:bothW Z U i j1=some (.int (ent Z f g1)):=by rw[bothW,cj L,cj S];exact P.look hf G C
  obtain⟨v,W,T⟩:=P.apc hf G N C e;rw[Zd B,Zd W];rw[Nh]at T⊢;rcases P.Ew (P.cl g1 E g2 R e)with⟨Y,J⟩|⟨u,O,Y⟩
  .rw[Y]at T
   rw[bothW,cj L,dj rfl]at T;cases T;exact .inl ⟨Y,J,rfl⟩
  .rw[Y]at T
   exact .inr ⟨u,Y,O,(Zd T).symm⟩
def Vq(h:l.Nodup)(Y:x<l.length):ixo l (l.getD x 0)=x:=by
 have m:l.getD x 0∈l:=getD_mem' Y;have T:=adl m;have G:=Zc m;refine G9 h (x:=l.getD x 0) ?_ ?_
 .rw[bx G]
  rw[cz,bx G]at T;simpa using T
 .rw[bx Y,cz,bx Y];rfl
def Ur(Y:x<la.length):(Qm Z g U la lb).getD x 0=ixo lb ((Z g.b).getD (U.getD (la.getD x 0) 0) 0):=getD_map (α:=Nat) Y
def func(P:G8 sz K U je){O:List (List Nat)}(nd:(ad.map (·.1)).Nodup)(ml:∀e,e<K->(Z e).length=(rowsOf U ad e).length)(G:∀e,e<K->∀x∈Z e,x<(rowsOf U ad e).length)(fx:∀e,e<K->∀x∈Z e,(Z e).getD x 0=x)(cg:Cgs U as U.length Z)(V:∀(j:Nat) (g:F) (js:Y3),U[j]?=some g->as[j]?=some js->Ae U je ad j g js)(hh:∀e l,O[e]?=some l->l.Nodup/\∀x,x∈l↔x∈Z e){j1 H:Nat}(M:U[j1]?=some g1)(J:U[H]?=some g2)(e:g1.b=g2.a)(q1:as[j1]?=some s1)(X:as[H]?=some s2)(T:O[g1.a]?=some la)(S:O[g1.b]?=some lb)(Y:O[g2.b]?=some lc)(C:x<la.length) :
 (ent U g1 g2=-1/\(Qm Z g2 s2 lb lc).getD ((Qm Z g1 s1 la lb).getD x 0) 0=x) \/
  ∃j3:Nat,ent U g1 g2=j3/\U[j3]?=some (g1.comp g2)/\∀s3,as[j3]?=some s3->(Qm Z g2 s2 lb lc).getD ((Qm Z g1 s1 la lb).getD x 0) 0=(Qm Z (g1.comp g2) s3 la lc).getD x 0:=by
 have m1:=bh M;have m2:=bh J;have ka:=P.ahc g1 m1;have B:=P.Zw g1 m1;have kc:=P.Zw g2 m2;obtain⟨na,ma⟩:=hh _ _ T;obtain⟨_,mb⟩:=hh _ _ S;have A1:=V _ _ _ M q1;have W:=V _ _ _ J X;have E:=(ma _).mp (getD_mem' C);generalize hh0:la.getD x 0=h at E;have Hv:=G _ ka h E;obtain⟨n,k,w,_,hw,er⟩:=Gz (my Hv);have A:(rowsOf U ad g1.a)[h]?=some (Zo n k (.int w)):=by rw[bx Hv,er]
 have r1:=A1.go _ _ _ _ A;have N:=W.go _ _ _ _ (by rw[<-e];exact r1);have l1:s1.getD h 0<(Z g1.b).length:=by rw[ml _ B];exact(ao.mp r1).1
 have L:=getD_mem' l1;have yl:=Zc ((mb _).mpr L);rw[Ur C,hh0,Ur yl,adl ((mb _).mpr L)];have c1:(Z g2.b).getD (s2.getD ((Z g1.b).getD (s1.getD h 0) 0) 0) 0=(Z g2.b).getD (s2.getD (s1.getD h 0) 0) 0:=by
  have Q:=(ao.mp J).1;refine cg H g2 s2 Q J X _ _ ?_ ?_ ?_
  .rw[W.len,<-e];exact G _ B _ L
  .rw[W.len,<-e,<-ml _ B];exact l1
  .rw[<-e];exact fx _ B _ L
 rw[c1];rcases ay5 P M J e hw with⟨R,i1,I⟩|⟨j3,R,h3,I⟩
 .left
  refine⟨R,?_⟩;have D:g1.a=g2.b:=i1.1;rw[I,<-D]at N;rw[<-D]at Y;rw[T]at Y;cases Y;rw[G9 (Nu nd _) N A,<-D,fx _ ka h E,<-hh0,Vq na C]
 .right
  refine⟨j3,R,h3,λs3 q3=>?_⟩;have A3:=V _ _ _ h3 q3;have r3:=A3.go h n k w A;rw[Ur C,hh0];rw[I]at N;have:s2.getD (s1.getD h 0) 0=s3.getD h 0:=G9 (Nu nd g2.b) N r3;rw[this];rfl
def as4(f g:Nat->Nat)(K:Nat):((List.range K).map λe=>f e+g e).sum=((List.range K).map f).sum+((List.range K).map g).sum:=by
 induction K with
 |zero=>rfl|succ K Y=>simp[qd]at Y⊢;lia
def akf{f:Nat->Nat}(h:∀e,e<K->f e<=B):((List.range K).map f).sum<=K*B:=by
 induction K with
 |zero=>exact jd _
 |succ K T =>
  have Y:=T λe G=>h e (wu G)
  have J:=h K (j4 K);simp[qd,Nat.succ_mul]at Y⊢;lia
def amo{G:Type}{l:List G}(f:G->Nat)(h:∀x∈l,f x<K):((List.range K).map λe=>(l.filter λx=>decide (f x=e)).length).sum=l.length:=by
 have:∀n,((List.range n).map λe=>(l.filter λx=>decide (f x=e)).length).sum=(l.filter λx=>decide (f x<n)).length:=λn=>by
  induction n with
  |zero=>simp[List.filter_eq_nil_iff.mpr]
  |succ n Y =>
   simp only[qd,iu,List.sum_append,Y];clear Y h
   induction l with
   |nil=>rfl
   |cons a l Y =>
    simp only[An,gq,List.map_nil,u0,List.sum_nil]at Y⊢
    by_cases z:f a<n
    .have T:f a<n+1:=by lia
     have B:¬f a=n:=by lia
     simp[z,T,B];lia
    .by_cases y:f a=n
     .simp[y];lia
     .have T:¬f a<n+1:=by lia
      simp[z,T,y];lia
 rw[this K,List.filter_eq_self.mpr λx J=>v8 (h x J)]
def Adm.Y9(P:G8 sz K Z U)(h:Adm Z K ad):((List.range K).map λe=>(rowsOf Z ad e).length).sum=(ad.map λq=>(su Z q.2).length).sum:=by
 induction h with
 |nil =>
  have:=akf (K:=K) (B:=0) (f:=λe=>(rowsOf Z [] e).length) λe _=>bz _
  simpa using this
 |snoc _ G _ Y =>
  simp only[Ti,jc,dm,iu,List.sum_append,as4,Y];have:=amo (l:=su Z k) (K:=K) (Br Z k) λd T=>Xa P G T
  simp only[wT,this];simp
def Adm.room(P:G8 sz K Z U)(h:Adm Z K ad)(r:∀e,e<K->(rowsOf Z ad e).length+(su Z k).length<=7):(ad.map λq=>(su Z q.2).length).sum+3*(su Z k).length<=21:=by
 have T:=akf (K:=K) (B:=7-(su Z k).length) (f:=λe=>(rowsOf Z ad e).length) λe Y=>by have:=r e Y;lia
 rw[h.Y9 P]at T;have G:=r 0 P.k1;have:=Nat.mul_le_mul_right (7-(su Z k).length) P.k3
 lia
def ay6(P:G8 sz K Z U)(k:Nat):(su Z k).length<=6:=by have Y:=qw (Jw Z k) (List.range Z.length);have T:=P.len;simp[su]at Y⊢;lia
def as5:∀a,a<7->∀b,b<7->∀c,c<7->c+b+3*a<=21->c+3*b<=21->max 1 (c-2)+(max 1 (b-2)+max 1 (a-2))<=8:=by decide
def Adm.cost(P:G8 sz K Z U)(h:Adm Z K ad)(l:ad.length<=3):(ad.map λq=>max 1 ((su Z q.2).length-2)).sum<=8:=by
 have w k:=Nat.lt_succ_of_le (ay6 P k);cases h with
 |nil=>simp
 |snoc h _ r =>
  have Y:=h.room P r;cases h with
  |nil=>have:=as5 _ (w k) 0 (by decide) 0 (by decide) (by simpa using Y) (by decide);simp;exact gf (Bg _ 1) (gf (Bg _ 1) this)
  |snoc h _ G =>
   have T:=h.room P G;cases h with
   |nil=>have:=as5 _ (w k) _ (w k_1) 0 (by decide) (by simpa using Y) (by simpa using T);simp;exact gf (Bg _ 1) this
   |snoc h _ r =>
    cases h with
    |nil=>have:=as5 _ (w k) _ (w k_1) _ (w k_2) (by simpa using Y) (by simpa using T);simpa using this
    |snoc _ _ _=>simp at l
structure Gn(K:Nat)(hs:List F)(Ec:Y3)(Em:List (List Nat))(G:List (Nat×Nat)):Prop where
 v:∀g∈G,g.1<K/\g.2<Ec.getD g.1 0
 g:∀e x,e<K->x<Ec.getD e 0->∃g∈G,∃w:Int,.int w∈wT hs g.1 e/\x=Dc Em g.2 w
 c:(G.map λg=>max 1 ((su hs g.1).length-2)).sum<=8
def as6(h:q∈ad):.tup [.int q.1,.int q.2,.int (-1)]∈rowsOf hs ad q.2:=
 Ao.mpr ⟨q,h,bf.mpr ⟨.int (-1),jg.mpr ⟨by simp[su],by simp[Br]⟩,rfl⟩⟩
def gen(P:G8 sz K Z je){Y:List (List Nat)}(nd:(ad.map (·.1)).Nodup)(ap:Adm Z K ad)(al:ad.length<=3)(kd:∀q∈ad,q.2<K)(ml:∀e,e<K->(U e).length=(rowsOf Z ad e).length)(Q:∀e,e<K->∀x∈U e,x<(rowsOf Z ad e).length)(X:∀e,e<K->∀x∈U e,(U e).getD x 0=x)(cg:Cgs Z as Z.length U)(ae:∀(j:Nat) (g:F) (js:Y3),Z[j]?=some g->as[j]?=some js->Ae Z je ad j g js)(qk:as.length=Z.length)(hl:Y.length=K)(M:∀e l,Y[e]?=some l->l.Nodup/\∀x,x∈l↔x∈U e)(tl:td.length=Z.length)
 (tt:∀(j:Nat)(g:F)(js:Y3),Z[j]?=some g->td[j]?=some js->∃s la lb,as[j]?=some s/\Y[g.a]?=some la/\Y[g.b]?=some lb/\js=Qm U g s la lb):∃G,Gn K Z (Y.map List.length) td G:=by
 have qq:∀q:Nat×Nat,∃z:Nat,q∈ad->(rowsOf Z ad q.2)[z]?=some (Zo q.1 q.2 (.int (-1))):=λq=>by
  by_cases h:q∈ad
  .obtain⟨z,W,e⟩:=p8 (as6 (hs:=Z) h)
   exact⟨z,λ_=>by rw[bx W,e];rfl⟩
  .exact⟨0,λg=>absurd g h⟩
 obtain⟨D,W⟩:=Classical.axiomOfChoice qq;have O:∀e,e<K->∃l,Y[e]?=some l:=λe L=>⟨_,bx (b_ L (g_ hl))⟩
 have E:∀{e l},Y[e]?=some l->(Y.map List.length).getD e 0=l.length:=fun{e l} h=>by simp[cz,h]
 have gz:∀{e l},Y[e]?=some l->Y.getD e []=l:=fun{e l} h=>by simp[cz,h]
 have zm:∀q∈ad,(U q.2).getD (D q) 0∈U q.2:=λq T=>getD_mem' (by rw[ml _ (kd q T)];exact(ao.mp (W q T)).1)
 refine⟨ad.map λq=>(q.2,ixo (Y.getD q.2 []) ((U q.2).getD (D q) 0)),λg hg=>?_,λe x L V=>?_,?_⟩
 .obtain⟨q,T,rfl⟩:=bf.mp hg
  obtain⟨l,C⟩:=O _ (kd q T);refine⟨kd q T,?_⟩;show ixo _ _<_
  rw[E C,gz C];exact Zc (((M _ _ C).2 _).mpr (zm q T))
 .obtain⟨lb,J⟩:=O e L
  rw[E J]at V;obtain⟨nb,mb⟩:=M _ _ J;have H:=(mb _).mp (getD_mem' V);generalize hh0:lb.getD x 0=h at H;have Hv:=Q _ L h H;obtain⟨n,k,w,T,hw,er⟩:=Gz (my Hv);have r0:(rowsOf Z ad e)[h]?=some (Zo n k (.int w)):=by rw[bx Hv,er]
  refine⟨_,bf.mpr ⟨(n,k),T,rfl⟩,w,hw,?_⟩;have S:=kd _ T;have R:=W _ T;have N:=zm _ T;simp only at S R N⊢;generalize D (n,k)=z at R N;obtain⟨la,B⟩:=O k S;obtain⟨na,ma⟩:=M _ _ B;rw[gz B];obtain⟨w1,I⟩:=Th hw;rcases Cy w1 with q|⟨i,f,q,hf,ef⟩
  .cases q
   have:k=e:=by simpa[Br]using I
   subst this;rw[B]at J;cases J;cases G9 (Nu nd k) R r0;rw[Dc,dj rfl,X _ S _ H,<-hh0,Vq na V]
  .cases q
   rw[Dp hf]at I;subst ef I;have il:=(ao.mp hf).1;have u1:td[i]?=some td[i]:=bx (b_ il (g_ tl));obtain⟨s,qv,q0,i1,i2,i3,i4⟩:=tt _ _ _ hf u1;rw[B]at i2;cases i2;rw[J]at i3;cases i3;have A:=ae _ _ _ hf i1;have r1:=A.go _ _ _ _ R;rw[Zd (v:=i) (by simp[bothW])]at r1;have rz:=G9 (Nu nd f.b) r1 r0;have ni:¬((i:Int)=-1):=by lia
   have zl:=(ao.mp R).1;have u2:td.getD i []=Qm U f s la lb:=by rw[cz,u1,<-i4];rfl
   rw[Dc,cj ni,wg,u2,Ur (Zc ((ma _).mpr N)),adl ((ma _).mpr N)];have c1:=cg i f s il hf i1 _ z (by rw[A.len];exact Q _ S _ N) (by rw[A.len];exact zl) (X _ S _ N);rw[c1,rz,X _ L _ H,<-hh0,Vq nb V]
 .rw[Ar];exact ap.cost P al
def Ze(hm:2<=m)(P:G8 sz K Z je)(hh:Vx t f M)(hr:M[r]?=some (.dT je))(yk:r≠t) :
 ∃Ec Em M',prog.call m 27 [.ref t,ux K r Z,.int 3] M=.ok (dq Ec Em) M'/\Kq K Z Ec Em/\(∃G,Gn K Z Ec Em G)/\St t f M M':=by
 rw[call_of (a_ (by decide) hm) rfl];have h3:=P.k3;have hl:=P.len;have ht:t<M.length:=by obtain⟨n,h,_⟩:=hh;exact xm h
 have y8:=xm hr;have r0:=asf (W:=⟨prog.call (m-1),prog.cls⟩) (M:=M) (K:=K) (y:=19) (e:=.ix (.v 1) (.i 0)) (ρ:=[sR t,sP K r Z,sI 3,none,none,none,none,none,none,none,none,none,none,none,none,none,none,none,none]) rfl (by simp[Oi]) (a_ h3 (by decide));have g0:Gs t f M.length M (M++List.replicate K (.lst [])):=Gs.app hh (bz _) _;have w0:Rw Z K M.length [] (M++List.replicate K (.lst [])):=⟨λi hi=>by
  rw[ji x_];simp[rowsOf,hi],by simp,by simp[rowsOf],Bs,.nil⟩
 refine hG λ_ _k=>?_
 obtain⟨v,M1,e1,l1,s1,n1⟩:=Dn (many:=4) (m:=m-1) (r_ hm) g0.has (by decide) (by decide);obtain⟨x6,R,e2,⟨H,V,O,N,E,rfl⟩,ad,w2,Wy,g2,n2⟩:=yo (S:=Jq) (W:=⟨prog.call (m-1),prog.cls⟩) (n:=v) rfl
  (ρ:=[sR t,sP K r Z,sI 3,some (.vl (yp M.length K)),none,none,none,none,none]++[none,none,none,none,none,none,none,none,none,none]) (M:=M++List.replicate K (.lst [])) (M1:=M1) (by simp[e1]) (e_ (b_ (o_ l1) (by decide)))
  (λi B M'=>(∃H V O N E:Option D,B=[sR t,sP K r Z,sI 3,some (.vl (yp M.length K)),H,V,O,N,E]++[none,none,none,none,none,none,none,none,none,none])/\∃ad,Rw Z K M.length ad M'/\(∀q∈ad,q.1<i)/\Gs t f M.length M M'/\M'.length=M.length+K)
  ⟨⟨none,none,none,none,none,rfl⟩,[],⟨w0.rs.keep s1 ht,w0.kd,w0.le,w0.nd,w0.ap⟩,by simp,g0.trans (Gs.aga s1),by simp at n1;exact n1⟩
  (λi B R hi hI=>by
   refine hG λ_ _k=>?_
   obtain⟨⟨H,V,O,N,E,rfl⟩,ad,q1,hn,X,q3⟩:=hI;obtain⟨c5,c6,c7,c8,z9,U,e3,k1,Q0,k2,k3⟩:=ayr (m:=m-1) (r:=r) (n:=i) (r_ hm) P X.has ht q1 hn (b5:=V) (b6:=O) (b7:=N) (b8:=E) (rest:=[none,none,none,none,none,none,none,none,none,none]) rfl;apply _k;exact⟨_,.next,_,U,rfl,e3,.inl rfl,⟨some (.int i),c5,c6,c7,c8,rfl⟩,z9,k1,Q0,X.trans k2,k3.trans q3⟩)
 apply _k;refine hG λ_ _k=>?_
 have x7:=n2;obtain⟨ρ3,U,e3,⟨T,A,I,rfl⟩,as,a3,a4,a5,w3,g3,n3⟩:=yo (S:=Jk) (W:=⟨prog.call (m-1),prog.cls⟩) (n:=Z.length) rfl
  (ρ:=[sR t,sP K r Z,sI 3,D.vl (yp M.length K),H,V,O,N,E,sR R.length,none,none,none,none,none,none,none,none,none]) (M:=R++[.lst []]) (M1:=R++[.lst []]) (by simp[Jx,K7]) (a_ hl (by decide))
  (λj B M'=>(∃T A I:Option D,B=[sR t,sP K r Z,sI 3,some (.vl (yp M.length K)),H,V,O,N,E,sR R.length,T,A,I,none,none,none,none,none,none]) /\
   ∃as:List (List Nat),M'[R.length]?=some (.lst (as.map λJ=>.vl (J.map nD)))/\as.length=j/\(∀(j:Nat)(g:F)(J:Y3),Z[j]?=some g->as[j]?=some J->Ae Z je ad j g J)/\Rw Z K M.length ad M'/\Gs t f M.length M M'/\M'.length=R.length+1)
  ⟨⟨none,none,none,rfl⟩,[],by simp,rfl,by simp,⟨λi hi=>yx (w2.rs i hi),w2.kd,w2.le,w2.nd,w2.ap⟩,g2.trans (Gs.app g2.has (by lia) _),by simp⟩
  (λj B U hj hI=>by
   refine hG λ_ _k=>?_
   obtain⟨⟨T,A,I,rfl⟩,as,q1,X,q3,q4,q5,q6⟩:=hI;have C:Z[j]?=some Z[j]:=by simp[hj]
   obtain⟨J,c7,k1⟩:=a6d (m:=m-1) (M:=U) (r:=r) (r_ hm) P (q5.low _ _ y8 yk hr) q4 C (a0:=some (.ref t)) (a2:=some (.int 3)) (a4:=H) (a5:=V) (a6:=O) (a7:=N) (a8:=E) (a9:=some (.ref R.length)) (rest:=[none,none,none,none,none,none]) rfl;have ap:=Es (d:=.vl (J.map nD)) q1 (by simp;exact c_ (f_ X) (b_ hj (a_ hl (by decide))));have pe:∀B,(Tg.names [11,12]).put (eD Z[j]) B=some ((B.set 11 (some (.int Z[j].a))).set 12 (some (.int Z[j].b))):=λ_=>rfl
   simp only[zc,yj]at c7;apply _k;refine⟨_,.next,_,U.set R.length (.lst ((as.map λJ=>.vl (J.map nD))++[.vl (J.map nD)])),rfl,by simp[Pg,Jx,Rt C,pe,Ep q1,c7,ap],.inl rfl,⟨some (.int j),some (.int Z[j].a),some (.int Z[j].b),rfl⟩,as++[J],by rw[qx q1];simp,by simp[X],λj' g q0 hg Y=>?_,⟨λi hi=>?_,q4.kd,q4.le,q4.nd,q4.ap⟩,q5.trans (Gs.asj q5.has (Low.set (by lia)) ht (by simp)),by simp[q6]⟩
   .by_cases z:j'<as.length
    .rw[gn z]at Y;exact q3 j' g q0 hg Y
    .have ze:j'=j:=by have:=(ao.mp Y).1;simp at this;lia
     subst ze;rw[ji (s_ z),X]at Y;simp at Y;subst Y;rw[C]at hg;cases hg;exact k1
   .rw[mj (by lia)];exact q4.rs i hi)
 apply _k;refine hG λ_ _k=>?_
 obtain⟨M4,e4,uk,z0,n4⟩:=amk (W:=⟨prog.call (m-1),prog.cls⟩) (t:=t) (M:=U) (ρ:=[sR t,sP K r Z,sI 3,D.vl (yp M.length K),H,V,O,N,E,sR R.length,T,A,I,none,none,none,none,none,none]) rfl rfl w3.rs h3 w3.le (by lia);have g4:Gs t f M.length M M4:=g3.trans ⟨by obtain⟨n,h,o⟩:=g3.has;exact⟨n,z0 _ _ h,o⟩,λa o _ _ e=>z0 a o e,by lia⟩;have xk:Ac R.length Z (λe=>(rowsOf Z ad e).length) as M4:=⟨z0 _ _ a3,a4,λj g J h1 h2=>⟨(a5 j g J h1 h2).len,(a5 j g J h1 h2).lt⟩⟩;have xw:Cgs Z as Z.length (λe=>List.range (rowsOf Z ad e).length):=λj g J _ h1 h2 x y hx hy e=>by
  have hl:=(a5 j g J h1 h2).len;have ex:(List.range (rowsOf Z ad g.a).length).getD x 0=x:=by simp[<-hl,hx]
  have ey:(List.range (rowsOf Z ad g.a).length).getD y 0=y:=by simp[<-hl,hy]
  simp only[ex,ey]at e;rw[e]
 obtain⟨u,M5,e5,l5,s5,n5⟩:=Dn (many:=4) (m:=m-1) (r_ hm) g4.has (by decide) (by decide);obtain⟨x9,M6,e6,⟨d5,zz,zk,zw,qk,q8,rfl⟩,ms,Q,z3,z5,g6,n6⟩:=yo (S:=Jh) (W:=⟨prog.call (m-1),prog.cls⟩) (n:=u) rfl
  (ρ:=[sR t,sP K r Z,sI 3,D.vl (yp M.length K),H,V,O,N,E,sR R.length,T,A,I,sR (U.length+K),none,none,none,none,none]) (M:=M4) (M1:=M5) (by simp[e5]) (e_ (b_ (o_ l5) (by decide)))
  (λ_ B M'=>(∃V T A I qv q7:Option D,B=[sR t,sP K r Z,sI 3,some (.vl (yp M.length K)),H,V,O,N,E,sR R.length,T,A,I,sR (U.length+K),qv,q7,none,none,none]) /\
   ∃ms,Mk t (U.length+K) K (λe=>(rowsOf Z ad e).length) ms M'/\Cgs Z as Z.length ms/\Ac R.length Z (λe=>(rowsOf Z ad e).length) as M'/\Gs t f M.length M M'/\U.length+K<M'.length)
  ⟨⟨V,T,A,I,none,none,rfl⟩,_,uk.st s5 (by lia),xw,xk.of λo e=>s5.keep _ _ (by lia) e,g4.trans (Gs.aga s5),by lia⟩
  (λi B M6 hi hI=>by
   refine hG λ_ _k=>?_
   obtain⟨⟨V,T,A,I,qv,q7,rfl⟩,ms,q1,qc,X,q3,q4⟩:=hI;obtain⟨c5,y4,uj,y6,jj,Oj,M7,e7,k1,kc,k2,k3⟩:=ay2 (m:=m-1) (r:=r) (p:=M.length) (r_ hm) P q3.has q1 X ht (by lia) q4 (by lia) (by lia) (by lia) w3.le qc (a2:=some (.int 3)) (a3:=some (.vl (yp M.length K))) (b4:=H) (b5:=V) (b6:=O) (b7:=N) (b8:=E) (b10:=some (.int i)) (Kl:=A) (Uq:=I) (b14:=qv) (b15:=q7) (n16:=none) (n17:=none) (n18:=none);apply _k;exact⟨_,.next,_,M7,rfl,e7,.inl rfl,⟨c5,sI i,y4,uj,y6,jj,rfl⟩,Oj,k1,kc,k2,q3.trans k3,by have:=k3.len;exact b_ q4 this⟩)
 apply _k;obtain⟨L,e7,qq,zu⟩:=asy (W:=⟨prog.call (m-1),prog.cls⟩) (M:=M6) (ρ:=[sR t,sP K r Z,sI 3,D.vl (yp M.length K),H,d5,O,N,E,sR R.length,zz,zk,zw,sR (U.length+K),qk,q8,none,none,none]) rfl rfl Q h3 w3.le;have zv:∀e,e<K->∃l,L[e]?=some l/\l.length<=7/\∀x,x∈l↔x∈ms e:=λe he=>by have z:L[e]?=some L[e]:=bx (b_ he (g_ qq));obtain⟨y1,_,y2⟩:=zu e _ z;have:=w3.le e he;exact⟨_,z,a_ y1 this,y2⟩
 refine hG λ_ _k=>?_
 obtain⟨x8,M8,e8,⟨yy,u4,jv,y7,rfl⟩,td,t1,t2,t3,t4,g8,n8⟩:=yo (S:=Jf) (W:=⟨prog.call (m-1),prog.cls⟩) (n:=Z.length) rfl
  (ρ:=[sR t,sP K r Z,sI 3,D.vl (yp M.length K),H,d5,O,N,E,sR R.length,zz,zk,zw,sR (U.length+K),qk,q8,D.vl (L.map Vp),sR M6.length,none]) (M:=M6++[.lst []]) (M1:=M6++[.lst []]) (by simp[Jx,K7]) (a_ hl (by decide))
  (λj B M'=>(∃T A I zq:Option D,B=[sR t,sP K r Z,sI 3,some (.vl (yp M.length K)),H,d5,O,N,E,sR R.length,T,A,I,sR (U.length+K),qk,q8,some (.vl (L.map Vp)),sR M6.length,zq]) /\
   ∃td:List (List Nat),M'[M6.length]?=some (.lst (td.map λJ=>.tup (J.map nD)))/\td.length=j/\(∀(j:Nat)(g:F)(J:Y3),Z[j]?=some g->td[j]?=some J->J.length=(L.map List.length).getD g.a 0/\∀x∈J,x<(L.map List.length).getD g.b 0)/\(∀(j:Nat)(g:F)(J:Y3),Z[j]?=some g->td[j]?=some J->∃s la lb,as[j]?=some s/\L[g.a]?=some la/\L[g.b]?=some lb/\J=Qm ms g s la lb)/\vz M6 M'/\M'.length=M6.length+1)
  ⟨⟨zz,zk,zw,none,rfl⟩,[],by simp,rfl,by simp,by simp,vz.app _ _,by simp⟩
  (λj B M7 hj hI=>by
   refine hG λ_ _k=>?_
   obtain⟨⟨T,A,I,zq,rfl⟩,td,q1,X,q3,qe,q4,q5⟩:=hI;have C:Z[j]?=some Z[j]:=by simp[hj]
   obtain⟨sj,ej,_⟩:=z5.get C;have hg:=bh C;obtain⟨la,x1,x2,x3⟩:=zv _ (P.ahc _ hg);obtain⟨lb,y1,y2,y3⟩:=zv _ (P.Zw _ hg);have xv:=Q.frame (M':=M7) (λa o _ _ e=>q4 a o e) (by lia);have u7:=z5.of (M':=M7) λo e=>q4 _ _ e
   obtain⟨uu,zs,e9,kz,k1,k2⟩:=amn (W:=⟨prog.call (m-1),prog.cls⟩) (r:=r) xv u7 (hl:=L) C ej (P.ahc _ hg) (P.Zw _ hg) x1 y1 x3 y3 x2 q1 (by simp;exact c_ (f_ X) (b_ hj (a_ hl (by decide)))) (a0:=some (.ref t)) (a2:=some (.int 3)) (a3:=some (.vl (yp M.length K))) (b4:=H) (b5:=d5) (b6:=O) (b7:=N) (b8:=E) (Kl:=A) (Uq:=I) (b14:=qk) (b15:=q8) (b18:=zq);apply _k;refine⟨_,.next,_,_,rfl,e9,.inl rfl,⟨some (.int j),some (.int Z[j].a),some (.int Z[j].b),uu,rfl⟩,td++[zs],by rw[qx q1];simp,by simp[X],λj' g q0 Zj Y=>?_,λj' g q0 Zj Y=>?_,λa o e=>?_,by simp[q5]⟩
   .by_cases z:j'<td.length
    .rw[gn z]at Y;exact q3 j' g q0 Zj Y
    .have ze:j'=j:=by have:=(ao.mp Y).1;simp at this;lia
     subst ze;rw[ji (s_ z),X]at Y;simp at Y;subst Y;rw[C]at Zj;cases Zj;have u1:(L.map List.length).getD Z[j'].a 0=la.length:=by simp[cz,x1]
     have u2:(L.map List.length).getD Z[j'].b 0=lb.length:=by simp[cz,y1]
     rw[u1,u2];exact⟨k1,k2⟩
   .by_cases z:j'<td.length
    .rw[gn z]at Y;exact qe j' g q0 Zj Y
    .have ze:j'=j:=by have:=(ao.mp Y).1;simp at this;lia
     subst ze;rw[ji (s_ z),X]at Y;simp at Y;subst Y;rw[C]at Zj;cases Zj;exact⟨sj,la,lb,ej,x1,y1,kz⟩
   .rw[mj (by have:=xm e;exact i_ this)];exact q4 a o e)
 have c1:Jb.den ⟨prog.call (m-1),prog.cls⟩ [sR t,sP K r Z,sI 3,D.vl (yp M.length K),H,d5,O,N,E,sR R.length,yy,u4,jv,sR (U.length+K),qk,q8,D.vl (L.map Vp),sR M6.length,y7] M8=.ok (.vl ((L.map List.length).map nD)) M8:=by
  unfold Jb;rw[Cd (d:=.vl (L.map Vp)) (ds:=L.map Vp) (M1:=M8) (g:=λd=>match d with|.vl l=>.int l.length|_=>.non) (by simp) rfl (by simp;exact a_ (f_ qq) (a_ h3 (by decide))) (λz hz=>by
   obtain⟨l,z4,rfl⟩:=bf.mp hz;refine⟨_,rfl,?_⟩;simp[Vp,qm,U6])]
  simp[Vp,nD]
 apply _k;refine⟨L.map List.length,td,M8,?_,⟨by simp[qq],t2,λx hx=>?_,t3,λj1 j2 g1 g2 z1 z2 h1 h2 eg q1 X x hx=>?_⟩,?_,?_⟩
 .simp only[zc,yj]at e2
  have y9:Jq.den ⟨prog.call (m-1),prog.cls⟩ _ _=_:=e2;have y0:Jk.den ⟨prog.call (m-1),prog.cls⟩ _ _=_:=e3;have y5:Jh.den ⟨prog.call (m-1),prog.cls⟩ _ _=_:=e6;have yv:Jf.den ⟨prog.call (m-1),prog.cls⟩ _ _=_:=e8;have xy:Oa.den ⟨prog.call (m-1),prog.cls⟩ _ _=_:=r0;simp[-List.map_map,Fn.run,T6,T5,xy,y9,MW.new,y0,e4,y5,e7,yv,c1,Fq,qm,Lj (j5 t1),dq]
 .refine hG λ_ _k=>?_
  obtain⟨l,z4,rfl⟩:=bf.mp hx;obtain⟨i,hi,rfl⟩:=p8 z4;obtain⟨l2,y1,y2,_⟩:=zv i (b_ hi (f_ qq));rw[bx hi]at y1;cases y1;apply _k;exact y2
 .refine hG λ_ _k=>?_
  obtain⟨s1,la,lb,i1,i2,i3,rfl⟩:=t4 _ _ _ h1 q1;obtain⟨s2,x5,lc,i4,i5,i6,rfl⟩:=t4 _ _ _ h2 X;rw[<-eg,i3]at i5;cases i5;have u6:x<la.length:=by simpa[Qm]using hx
  apply _k;rcases func P w3.nd Q.len Q.lt Q.fx z3 a5 (λe l he=>(zu e l he).2) h1 h2 eg i1 i4 i2 i3 i6 u6 with⟨e1,e2⟩|⟨j3,e1,e2,e3⟩
  .rw[e2,Dc,dj e1]
  .refine hG λ_ _k=>?_
   have l3:=(ao.mp e2).1;have u3:td[j3]?=some td[j3]:=bx (b_ l3 (g_ t2));obtain⟨s3,la',lc',i7,i8,i9,x4⟩:=t4 _ _ _ e2 u3;have i8:L[g1.a]?=some la':=i8;have i9:L[g2.b]?=some lc':=i9;rw[i2]at i8;cases i8;rw[i6]at i9;cases i9;have nj:¬((j3:Int)=-1):=by lia
   apply _k;rw[e3 _ i7,<-x4,Dc,e1,cj nj];simp[cz,u3]
 .refine gen P w3.nd w3.ap (by have:=aej w3.nd (n:=v) (λx hx=>by obtain⟨q,hq,rfl⟩:=bf.mp hx;exact Wy q hq);rw[dm]at this;lia) w3.kd Q.len Q.lt Q.fx z3 a5 a4 qq (λe l he=>(zu e l he).2) t2 t4
 .have:Gs t f M.length M M8:=g6.trans ⟨by obtain⟨n,h,o⟩:=g6.has;exact⟨n,g8 _ _ h,o⟩,λa o _ _ e=>g8 a o e,by lia⟩
  exact this.st
def xu(l:Y3):D:=.tup (l.map nD)
def Ol(s:Y3)(a:List (List Nat))(M:dz):Bk (dq s a) (.int 0) M=some (xu s):=rfl
def age(s:Y3)(a:List (List Nat))(M:dz):Bk (dq s a) (.int 1) M=some (.tup (a.map xu)):=rfl
def Ry{l:Y3}(h:i<l.length):Bk (xu l) (.int i) M=some (.int (l.getD i 0)):=Ip q_ (by simp[h,nD])
def a0p{a:List (List Nat)}{j:Nat}(h:a[j]?=some Z):Bk (.tup (a.map xu)) (.int j) M=some (xu Z):=Ip q_ (by simp[h])
def Zf(Y:List F)(k:Nat):Br Y k (.int (-1))=k:=by simp[Br]
def agf(P:G8 sz K Z U)(T:.int x∈su Z k)(Y:.int y∈su Z (Br Z k (.int x))) :
 ∃v:Int,bothW Z U x y=some (.int v)/\.int v∈su Z k/\Br Z k (.int v)=Br Z (Br Z k (.int x)) (.int y):=by
 rcases Cy T with q|⟨i,f,q,hf,ef⟩
 .cases q
  rw[Zf]at Y⊢;exact⟨y,by simp[bothW],Y,rfl⟩
 .cases q
  rw[Dp hf]at Y⊢;have J:¬((i:Int)=-1):=by lia
  rcases Cy Y with q|⟨j,g,q,hg,eg⟩
  .cases q
   exact⟨i,by simp[bothW,J],T,by rw[Dp hf,Zf]⟩
  .cases q
   have N:.int (i:Int)∈wT Z k g.a:=jg.mpr ⟨T,by simp[Dp hf,eg]⟩;obtain⟨L,z,_,C,B⟩:=aj5 P hg N;cases z;obtain⟨O,G⟩:=Th B;exact⟨_,C,O,by rw[G,Dp hg]⟩
def Kq.act(w:Kq K hs Ec U){i:Nat}(G:hs[i]?=some g):∃Z,U[i]?=some Z/\(∀th,Dc U th i=Z.getD th 0)/\Z.length=Ec.getD g.a 0/\∀x∈Z,x<Ec.getD g.b 0:=by
 have Y:=(ao.mp G).1;have T:U[i]?=some (U[i]'(by rw[w.la];exact Y)):=bx _;generalize U[i]'(by rw[w.la];exact Y)=Z at T;have J:¬((i:Int)=-1):=by lia
 exact⟨Z,T,λth=>by simp[Dc,J,cz,T],w.ok i g Z G T⟩
def Vr(Y:List (List Nat))(th:Nat):Dc Y th (-1)=th:=by simp[Dc]
def aia(w:Kq K Z U Em)(J:.int x∈su Z k)(Y:th<U.getD k 0):Dc Em th x<U.getD (Br Z k (.int x)) 0:=by
 rcases Cy J with q|⟨i,f,q,hf,ef⟩
 .cases q;rw[Vr,Zf];exact Y
 .cases q
  obtain⟨O,C,G,B,T⟩:=w.act hf;rw[G,Dp hf];exact T _ (getD_mem' (by rw[B,ef];exact Y))
def adm(P:G8 sz K Z je)(w:Kq K Z Ec U)(N:.int x∈su Z k)(B:.int y∈su Z (Br Z k (.int x)))(Y:bothW Z je x y=some (.int v))(T:th<Ec.getD k 0):Dc U (Dc U th x) y=Dc U th v:=by
 rcases Cy N with q|⟨i,f,q,hf,ef⟩
 .cases q
  have:v=y:=by simpa[bothW]using Y.symm
  rw[Vr,this]
 .cases q
  have J:¬((i:Int)=-1):=by lia
  rw[Dp hf]at B;rcases Cy B with q|⟨j,g,q,hg,eg⟩
  .cases q
   have:v=i:=by simpa[bothW,J]using Y.symm
   rw[Vr,this]
  .cases q
   have O:¬((j:Int)=-1):=by lia
   rw[bothW,cj J,cj O]at Y;have:=P.look hf hg eg.symm;have G:v=ent Z f g:=by have:=Y.symm.trans this;simpa using this
   obtain⟨L,R,Q,H,_⟩:=w.act hf;obtain⟨S,E,C,V,_⟩:=w.act hg;rw[Q,C,G];exact w.fu i j f g L S hf hg eg.symm R E th (by rw[H,ef];exact T)
def as7(B:1<=m)(w:Kq K hs Ec U)(O:.int x∈su hs k)(Y:Z<Ec.getD k 0):prog.call m 28 [dq Ec U,.int Z,.int x] M=.ok (.int (Dc U Z x)) M:=by
 rw[call_of B rfl];rcases Cy O with q|⟨i,g,q,hg,rfl⟩
 .cases q
  rw[Vr];simp[Fn.run,Sw,Sv]
 .cases q
  obtain⟨T,L,C,N,_⟩:=w.act hg;rw[C];have G:=Ry (M:=M) (l:=T) (i:=Z) (b_ Y (g_ N));have J:¬((i:Int)<0):=by lia
  generalize T.getD Z 0=y at G;simp[Fn.run,Sw,Sv,J,age,a0p L,G]
section
variable{W:Jy}{ρ:Env}{M:dz}{t:Tg}{it:Q8}{ds:List D}
def Qx{g:Nat->D}(G:it.den W ρ M=.ok (.con ds) M)(C:ds.length<=100000)(h:∀(i:Nat) d,ds[i]?=some d->∃Z,t.put d (ρ++List.replicate k none)=some Z/\e.den W Z M=.ok (g i) M) :
 (Ex.comp true k t it e).den W ρ M=.ok (.vl ((List.range ds.length).map g)) M:=by
 rw[Il,G];obtain⟨E,Y,O,N,rfl⟩:=Jt (fin:=(Src.con ds).fin) (item:=(Src.con ds).item) (body:=λd M=>(Res.v9 (t.put d (ρ++List.replicate k none)) M).bind λT M=>(e.den W T M).bind λx Y=>.ok (some x) Y) (λi B Y=>B=(List.range i).map g/\Y=M) (n:=ds.length) (λi B Y J L=>by
  obtain⟨rfl,rfl⟩:=L;obtain⟨Z,a,b⟩:=h i ds[i] (by simp[J]);exact⟨_,some (g i),Y,by simp[Src.item,J];rfl,by rw[a];simp[b],by simp[qd],rfl⟩) (λ_ _ _=>rfl) ds.length 0 [] M (u5 _) ⟨rfl,rfl⟩
 show(Az (.con ds) _ Y).bind _=_;rw[Az,show(Src.con ds).len=ds.length from rfl,dj C,O,<-N];rfl
def ay7{e:Ex}{n:Nat}(h:e.den W ρ M=.ok (.int (n:Nat)) M)(Y:n<=100000):(Q8.U4 e).den W ρ M=.ok (.con ((List.range n).map nD)) M:=by rw[Qo,h,Res.Ca];show(if(n:Int).natAbs<=100000 then _ else _)=_;rw[dj (by lia)];rfl
def Gb{B:Ex}{n:Nat}{g:Nat->D}(Y:B.den W ρ M=.ok (.int (n:Int)) M)(G:n<=100000)(h:∀i,i<n->∃Z,t.put (.int i) (ρ++List.replicate k none)=some Z/\e.den W Z M=.ok (g i) M) :
 (Ex.comp true k t (.U4 B) e).den W ρ M=.ok (.vl ((List.range n).map g)) M:=by
 have:=Qx (t:=t) (k:=k) (e:=e) (g:=g) (ay7 Y G) (by simpa using G) λi d T=>by
  have J:i<n:=by simpa using(ao.mp T).1
  rw[ig,wy J]at T;cases T;exact h i J
 simpa using this
end
def Zg{Y:Type}{l:List Y}{i:Nat}(h:i<l.length):∃x,l[i]?=some x:=⟨l[i],by simp[h]⟩
def Xc{Y:Type}{l:List Y}{i:Nat}{x d:Y}(h:l[i]?=some x):l.getD i d=x:=by simp[cz,h]
def Kq.s7(w:Kq K Z s a)(k:Nat):s.getD k 0<=7:=by
 rw[cz];cases e:s[k]? with
 |none=>exact jd _|some x=>exact w.sm x (bh e)
noncomputable abbrev Pl:=Nat×Nat
def wI(Y:List F)(k:Nat):List Int:=-1::((List.range Y.length).filter (Jw Y k)).map λ(i:Nat)=>(i:Int)
def Us(Y:List F)(k:Nat):su Y k=(wI Y k).map .int:=by simp[su,wI];exact λ_ _ _=>rfl
def Dq:w∈wI Z k↔.int w∈su Z k:=by rw[Us];simp
abbrev Uv(hs:List F)(Em:List (List Nat))(p:Pl)(w:Int):Pl:=(Br hs p.1 (.int w),Dc Em p.2 w)
def Qz(P:G8 sz K Z U)(w:Kq K Z s a):Plc Pl where
 V p:=p.1<K/\p.2<s.getD p.1 0
 W p:=wI Z p.1
 mv:=Uv Z a
 st p:=⟨by simp[wI],by simp[Uv,Zf,Vr]⟩
 cl h hw:=⟨Xa P h.1 (Dq.mp hw),aia w (Dq.mp hw) h.2⟩
 tw {p x y} h hx hy:=by obtain⟨v,G,Y,T⟩:=agf P (Dq.mp hx) (Dq.mp hy);exact⟨v,Dq.mpr Y,by simp only[Uv];rw[T,adm P w (Dq.mp hx) (Dq.mp hy) G h.2]⟩
def as8(Y:1<=m)(T:.int w∈su Z k):prog.call m 19 [ux K r Z,.int k,.int w] M=.ok (.int (Br Z k (.int w))) M:=by
 rcases Cy T with q|⟨i,f,q,hf,_⟩
 .cases q
  rw[call_of Y rfl,Zf];simp[Fn.run,Mw,Mv]
 .cases q
  rw[Dp hf];exact aj4 Y hf
abbrev KV:=List (List Kx×D)
def val(Y:KV)(q:Pl):Option D:=Af Y (ky q.1 q.2)
def ay8(Y:KV)(p q:Pl)(v:D):val (Dz Y (ky p.1 p.2) v) q=if q=p then some v else val Y q:=by
 rw[val,agc]
 by_cases h:q=p
 .rw[h,dj rfl,dj rfl]
 .rw[cj h,cj λe=>h (by obtain⟨a,b⟩:=ab5 e;exact Prod.ext a b)];rfl
def a6l{T:KV}(h:U5 T=true)(J:j<9)(B:k<9):U5 (Dz T (ky j k) v)=true:=by
 unfold U5 at h⊢;rw[jf]at h⊢;intro p Y;have:p.1=ky j k\/∃q∈T,q.1=p.1:=by
  unfold Dz at Y;split at Y
  .obtain⟨q,G,e⟩:=bf.mp Y
   exact .inr ⟨q,G,by rw[<-e];split<;>rfl⟩
  .rcases dw.mp Y with z|z
   .exact .inr ⟨p,z,rfl⟩
   .rw[ie.mp z];exact .inl rfl
 rcases this with e|⟨q,G,e⟩
 .rw[e];simp[ky];lia
 .rw[<-e];exact h q G
structure Alg(ws:Xs)(hs:List F)(a1 a2:List (List Nat))(p:Pl)(g:Nat)(kv K9:KV):Prop where
 new:∀w∈ws,val K9 (Uv hs a1 p w)=some (nD (Dc a2 g w))
 old:∀q v,val kv q=some v->val K9 q=some v
 no:∀q v,val K9 q=some v->val kv q=some v\/∃w∈ws,q=Uv hs a1 p w
 sm:U5 K9=true
 len:K9.length<=kv.length+ws.length
def Alg.put(h:Alg ws Z a1 a2 p g kv U)(O:val U (Uv Z a1 p w)=none\/val U (Uv Z a1 p w)=some (nD (Dc a2 g w)))(B:(Uv Z a1 p w).1<9)(J:(Uv Z a1 p w).2<9):Alg (ws++[w]) Z a1 a2 p g kv (Dz U (ky (Uv Z a1 p w).1 (Uv Z a1 p w).2) (nD (Dc a2 g w))):=by
 have G:=λq=>ay8 U (Uv Z a1 p w) q (nD (Dc a2 g w))
 refine⟨λu T=>?_,λq v Y=>?_,λq v Y=>?_,a6l h.sm B J,?_⟩
 .rw[G]
  rcases dw.mp T with z|z
  .have c:=h.new u z
   by_cases e:Uv Z a1 p u=Uv Z a1 p w
   .rw[dj e]
    rw[e]at c;rcases O with d|d
    .rw[d]at c;cases c
    .rw[<-d];exact c
   .rw[cj e];exact c
  .rw[ie.mp z,dj rfl]
 .rw[G]
  have c:=h.old q v Y
  by_cases e:q=Uv Z a1 p w
  .rw[dj e]
   rw[e]at c;rcases O with d|d
   .rw[d]at c;cases c
   .rw[<-d];exact c
  .rw[cj e];exact c
 .rw[G]at Y
  by_cases e:q=Uv Z a1 p w
  .exact .inr ⟨w,by simp,e⟩
  .rw[cj e]at Y
   rcases h.no q v Y with z|⟨u,T,z⟩
   .exact .inl z
   .exact .inr ⟨u,qi _ T,z⟩
 .have B:=aka U (ky (Uv Z a1 p w).1 (Uv Z a1 p w).2) (nD (Dc a2 g w))
  have J:=h.len;rw[jc];simp;lia
def a6m(h:M[n]?=some (.dT Z))(Y:Q3 b=some k):Ks .get (.ref n) [b,d] M=.ok ((Af Z k).getD d) M:=by simp[Ks,aof,h,Y]
def akg(h:M[n]?=some (.dT Z)):Oq .get (.ref n) M=true:=by simp[Oq,h]
noncomputable abbrev Er(p:Pl):D:=.tup [.int p.1,.int p.2]
abbrev EA(pt w1 w2:D)(n:Nat)(p:Pl)(g:Nat)(b6 b7 b8 b9:Option D):Env:=[some pt,some w1,some w2,sR n,some (Er p),sI g,b6,b7,b8,b9]
def as9(C:2<=m)(P:G8 sz K Z je)(H:Kq K Z s1 a1)(w2:Kq K Z s2 a2)(hk:p.1<K)(D:p.2<s1.getD p.1 0)(hg:g<s2.getD p.1 0)(hn:M[n]?=some (.dT kv))(L:U5 kv=true)(hl:kv.length<=1000)(hv:∀q v,val kv q=some v->∃y,v=nD y) :
 ∃d U,prog.call m 29 [ux K r Z,dq s1 a1,dq s2 a2,.ref n,Er p,.int g] M=.ok d U/\vz M U/\(d=.non\/∃K9,d=.ref M.length/\U[M.length]?=some (.dT K9)/\Alg (wI Z p.1) Z a1 a2 p g kv K9):=by
 rw[call_of (a_ (by decide) C) rfl];have R:=P.len;have h3:=P.k3;have A:(su Z p.1).length=(wI Z p.1).length:=by rw[Us,dm]
 have go:=avn (S:=Fp) (W:=PW (m-1)) (ρ:=EA (ux K r Z) (dq s1 a1) (dq s2 a2) n p g (sR M.length) none none none) (M:=M++[.dT kv]) (M1:=M++[.dT kv]) (s:=.con (su Z p.1)) (n:=(wI Z p.1).length) rfl
  (by simp[af7 (m:=m-1) (r_ C) R,srcOf]) A
  (λi N U=>(∃E T J,N=EA (ux K r Z) (dq s1 a1) (dq s2 a2) n p g (sR M.length) E T J)/\vz M U/\∃K9,U[M.length]?=some (.dT K9)/\Alg ((wI Z p.1).take i) Z a1 a2 p g kv K9)
  (λd U=>d=.non/\vz M U) ⟨⟨none,none,none,rfl⟩,vz.app _ _,kv,Et,by simp,λ_ _ h=>h,λ_ _ h=>.inl h,L,x_⟩ (λ_ _ _=>rfl)
  (λi N U hi hI=>by
   refine hG λ_ _k=>?_
   obtain⟨⟨E,T,J,rfl⟩,O,K9,G,B⟩:=hI;obtain⟨w,Q⟩:=Zg hi;have Y:.int w∈su Z p.1:=Dq.mp (bh Q);have I:=as8 (m:=m-1) (K:=K) (r:=r) (M:=U) (r_ C) Y;have e2:=as7 (m:=m-1) (M:=U) (r_ C) H Y D;have e3:=as7 (m:=m-1) (M:=U) (r_ C) w2 Y hg;have k1:=Xa P hk Y;have k2:=aia H Y D;have k3:=H.s7 (Br Z p.1 (.int w));have kt:Q3 (.tup [.int (Br Z p.1 (.int w)),.int (Dc a1 p.2 w)])=some (ky (Br Z p.1 (.int w)) (Dc a1 p.2 w)):=rfl;apply _k;have tk:(wI Z p.1).take (i+1)=(wI Z p.1).take i++[w]:=by rw[Ai,Q];rfl
   have F:=a6m (d:=.int (Dc a2 g w)) G kt;have len:=B.len;have qk:((wI Z p.1).take i).length<=6:=a_ (List.length_take_le' i _) (by rw[<-A];exact Uo R)
   have st:=aoq (d:=.int (Dc a2 g w)) G kt (by lia);refine⟨.int w,EA (ux K r Z) (dq s1 a1) (dq s2 a2) n p g (sR M.length) (some (.int w)) T J,by simp[Src.item,Us,Q],rfl,?_⟩;have ok:∀y:Nat,(Af K9 (ky (Br Z p.1 (.int w)) (Dc a1 p.2 w))).getD (.int (Dc a2 g w))=.int y->(y=Dc a2 g w->val K9 (Uv Z a1 p w)=none\/val K9 (Uv Z a1 p w)=some (nD (Dc a2 g w)))->Goes (λi N U=>(∃E T J,N=EA (ux K r Z) (dq s1 a1) (dq s2 a2) n p g (sR M.length) E T J)/\vz M U/\∃K9,U[M.length]?=some (.dT K9)/\Alg ((wI Z p.1).take i) Z a1 a2 p g kv K9) (λd U=>d=.non/\vz M U) (i+1) (Fo.den (PW (m-1)) (EA (ux K r Z) (dq s1 a1) (dq s2 a2) n p g (sR M.length) (some (.int w)) T J) U):=λy hy hc=>by
    rw[hy]at F
    by_cases z:y=Dc a2 g w
    .have pu:=B.put (w:=w) (hc z) (show Br Z p.1 (.int w)<9 by lia) (show Dc a1 p.2 w<9 by lia)
     refine⟨.next,EA (ux K r Z) (dq s1 a1) (dq s2 a2) n p g (sR M.length) (some (.int w)) (some (Er (Uv Z a1 p w))) (sI (Dc a2 g w)),_,?_,.inl ⟨rfl,⟨_,_,_,rfl⟩,λa o ha=>?_,_,qx G,by rw[tk];exact pu⟩⟩
     .simp[Fo,I,e2,e3,akg G,F,st,z];rfl
     .rw[mj (i_ (xm ha))];exact O a o ha
    .have z':¬((y:Int)=(Dc a2 g w:Int)):=λe=>z (D_ e)
     exact⟨.ret .non,EA (ux K r Z) (dq s1 a1) (dq s2 a2) n p g (sR M.length) (some (.int w)) (some (Er (Uv Z a1 p w))) (sI (Dc a2 g w)),U,by simp[Fo,I,e2,e3,akg G,F,z'],.inr ⟨_,rfl,rfl,O⟩⟩
   cases e:val K9 (Uv Z a1 p w)with
   |none =>
    have V:Af K9 (ky (Br Z p.1 (.int w)) (Dc a1 p.2 w))=none:=e;exact ok (Dc a2 g w) (by rw[V];rfl) λ_=>.inl e
   |some v =>
    have V:Af K9 (ky (Br Z p.1 (.int w)) (Dc a1 p.2 w))=some v:=e;obtain⟨y,rfl⟩:∃y,v=nD y:=by
     rcases B.no _ _ e with z|⟨u,hu,z⟩
     .exact hv _ _ z
     .rw[z,B.new u hu]at e;cases e;exact⟨_,rfl⟩
    exact ok y (by rw[V];rfl) λz=>.inr (by rw[e,z]))
 have X:qm .dict [.ref n] M=.ok (.ref M.length) (M++[.dT kv]):=by simp[qm,hn,L,MW.new]
 obtain⟨fl,qq,U,e,⟨rfl,⟨E,T,J,rfl⟩,O,K9,G,B⟩|⟨v,rfl,rfl,O⟩⟩:=go
 .have e:Fp.den _ _ _=_:=e
  rw[Bu]at B;exact⟨_,U,by simp[Fn.run,My,Mx,X,e],O,.inr ⟨K9,rfl,G,B⟩⟩
 .have e:Fp.den _ _ _=_:=e
  exact⟨_,U,by simp[Fn.run,My,Mx,X,e],O,.inl rfl⟩
def Hu(J:it.den W ρ M=.ok d M1)(C:gr M1 d=some U)(O:U.length<=100000)(h:∀x∈U,∃Z,t.put x (ρ++List.replicate k none)=some Z/\c.den W Z M1=.ok (.bl (q x)) M1/\e.den W Z M1=.ok x M1) :
 (Ex.Ef true k t (.val it) c e).den W ρ M=.ok (.vl (U.filter q)) M1:=by
 rw[Pu,J9,J];obtain⟨s,P,T⟩:=Pr (g:=λx=>if q x then some x else none) (body:=λd M=>(Res.v9 (t.put d (ρ++List.replicate k none)) M).bind λY M=>(c.den W Y M).bind λb B =>
  match b with
   |.bl true=>(e.den W Y B).bind λx G=>.ok (some x) G
   |.bl false=>.ok none B|_=>.bad) C O (λx E=>by
  obtain⟨Z,a,b,c⟩:=h x E;rw[a,Res.Dk,Res.Ca,b,Res.Ca];cases e:q x with
  | true=>simp[c]|false=>simp)
 have:U.filterMap (λx=>if q x then some x else none)=U.filter q:=by
  clear C O h T
  induction U with
  |nil=>rfl|cons a l L=>cases e:q a<;>simp[e,L]
 rw[this]at T;rw[Res.Ca,P,Res.Dk,Res.Ca];exact qt (λr:Res (List D)=>r.bind λU N=>if true=true then .ok (.vl U) N else new (.lst U) N) T
def bcu(p q:Pl):zy M (Er p) (Er q)=some (decide (p=q)):=by
 show Tp (Kr M 5) [.int p.1,.int p.2] [.int q.1,.int q.2]=_;rw[Eh (x:=decide (p.1=q.1)) (y:=decide (p.2=q.2)) (by rw[W4];simp[z7]) (by rw[Eh (x:=decide (p.2=q.2)) (y:=true) (by rw[W4];simp[z7]) rfl,Bool.and_true])]
 by_cases h:p=q
 .simp[h]
 .simp[h];intro Y T;exact h (Prod.ext Y T)
def a6o(p:Pl)(Y:List Pl):memD M (Er p) (Y.map Er)=some (decide (p∈Y)):=by
 have:Q4 M (Er p) (Y.map Er)=some (Y.map λq=>decide (q=p)):=by
  induction Y with
  |nil=>rfl|cons q Y G=>simp[Q4,bcu,G]
 rw[memD,this];simp only[wz,List.any_map,Ad];rw[zr,Am,f9];exact⟨λ⟨x,T,J⟩=>by rw[<-kh J];exact T,λh=>⟨p,h,v8 rfl⟩⟩
def akh(h:M[n]?=some (.lst Z))(Y:Z.length+ys.length<100000):Ks .extend (.ref n) [.vl ys] M=.ok .non (M.set n (.lst (Z++ys))):=by simp[Ks,onL,h,Y]
def ata(h:M[n]?=some (.lst Z)):Oq .extend (.ref n) M=true:=by simp[Oq,gr,h]
def atb(G:List F)(a:List (List Nat))(k:Nat)(T:List Pl):Prop:=T.length<=7*k/\∀q,q∈T↔∃(j:Nat)(g:F)(Y:Y3),j<k/\G[j]?=some g/\a[j]?=some Y/\q.1=g.b/\q.2∈Y
def aki(s:Y3)(k:Nat)(Y:List Pl):Prop:=Y.length<=7*k/\∀q,q∈Y↔q.1<k/\q.2<s.getD q.1 0
abbrev Xd(pt w:D)(b2 b3 b4 b5:Option D):Env:=[some pt,some w,b2,b3,b4,b5]
def ay9(P:G8 sz K Z je)(w:Kq K Z s a):∃U M',Hr.den W (Xd (ux K r Z) (dq s a) (sR M.length) none none none) (M++[.lst []])=.ok (.next,U) M' /\
 (∃b3,U=Xd (ux K r Z) (dq s a) (sR M.length) b3 none none)/\vz M M'/\∃ps,M'[M.length]?=some (.lst (ps.map Er))/\atb Z a Z.length ps:=by
 have C:=P.len;refine yo (S:=Hr) (W:=W) (n:=Z.length) (M1:=M++[.lst []]) rfl (by simp[Jx,K7]) (a_ C (by decide))
  (λj U M'=>(∃b3,U=Xd (ux K r Z) (dq s a) (sR M.length) b3 none none)/\vz M M'/\∃ps,M'[M.length]?=some (.lst (ps.map Er))/\atb Z a j ps)
  ⟨⟨none,rfl⟩,vz.app _ _,[],Et,by simp,λq=>⟨λh=>absurd h (by simp),λ⟨_,_,_,h,_⟩=>absurd h (ug _)⟩⟩ (λj ρ M1 I F=>?_)
 refine hG λ_ _k=>?_
 obtain⟨⟨b3,rfl⟩,A,ps,R,h2,X⟩:=F;obtain⟨g,B⟩:=Zg I;obtain⟨T,N,_,jl,_⟩:=w.act B;have l7:=w.s7 g.a;have c:Hq.den W (Xd (ux K r Z) (dq s a) (sR M.length) (sI j) none none) M1=.ok (.vl ((T.map λy=>(g.b,y)).map Er)) M1:=by
  unfold Hq;rw[Ia (ds:=T.map nD) (M1:=M1) (g:=λd=>.tup [.int g.b,d]) (by simp[age,a0p N];rfl) (by simp;lia) (λx hx=>⟨_,rfl,by simp[Jx,Rt B,Wa]⟩)]
  simp;exact λ_ _=>rfl
 have e:=akh R (ys:=(T.map λy=>(g.b,y)).map Er) (by simp;lia);apply _k;refine⟨Xd (ux K r Z) (dq s a) (sR M.length) (sI j) none none,.next,_,M1.set M.length (.lst (ps.map Er++(T.map λy=>(g.b,y)).map Er)),rfl,by simp[-List.map_map,Oe,ata R,c,e];rfl,.inl rfl,⟨_,rfl⟩,λb o H=>?_,ps++T.map (λy=>(g.b,y)),?_,?_,λq=>?_⟩
 .rw[mj (i_ (xm H))];exact A b o H
 .rw[qx R,iu]
 .simp;lia
 .rw[dw,X]
  constructor
  .rintro(⟨E,Q,Y,L,J,G,O⟩|h)
   .exact⟨E,Q,Y,wu L,J,G,O⟩
   .obtain⟨y,D,rfl⟩:=bf.mp h
    exact⟨j,g,T,j4 j,B,N,rfl,D⟩
  .rintro⟨E,Q,Y,L,J,G,O,V⟩
   rcases Nat.lt_or_eq_of_le (Ab L)with z|z
   .exact .inl ⟨E,Q,Y,z,J,G,O,V⟩
   .subst z
    rw[B]at J;cases J;rw[N]at G;cases G;exact .inr (bf.mpr ⟨q.2,V,by rw[<-O]⟩)
def atc(P:G8 sz K hs je)(w:Kq K hs s a):∃Z U,Ho.den W (Xd (ux K r hs) (dq s a) (sR e2) b3 (sR M.length) none) (M++[.lst []])=.ok (.next,Z) U /\
 (∃b5,Z=Xd (ux K r hs) (dq s a) (sR e2) b3 (sR M.length) b5)/\vz M U/\∃ps,U[M.length]?=some (.lst (ps.map Er))/\aki s K ps:=by
 have k3:=P.k3;refine yo (S:=Ho) (W:=W) (n:=K) (M:=M++[.lst []]) (M1:=M++[.lst []]) rfl (by simp[Oi]) (a_ k3 (by decide))
  (λj Z U=>(∃b5,Z=Xd (ux K r hs) (dq s a) (sR e2) b3 (sR M.length) b5)/\vz M U/\∃ps,U[M.length]?=some (.lst (ps.map Er))/\aki s j ps)
  ⟨⟨none,rfl⟩,vz.app _ _,[],Et,by simp,λq=>⟨λh=>absurd h (by simp),λh=>absurd h.1 (ug _)⟩⟩ (λj Q M1 L O=>?_)
 refine hG λ_ _k=>?_
 obtain⟨⟨b5,rfl⟩,C,ps,G,V,R⟩:=O;have N:=w.s7 j;have B:=Ry (M:=M1) (l:=s) (i:=j) (by rw[w.ls];exact L);generalize hz:s.getD j 0=z at N B;have c:Hn.den W (Xd (ux K r hs) (dq s a) (sR e2) b3 (sR M.length) (sI j)) M1=.ok (.vl (((List.range z).map λy=>(j,y)).map Er)) M1:=by unfold Hn;rw[Gb (n:=z) (g:=λy=>Er (j,y)) (by simp[Ol,B]) (by lia) (λx H=>⟨_,rfl,by simp⟩)];simp
 have e:=akh G (ys:=((List.range z).map λy=>(j,y)).map Er) (by simp;lia);apply _k;refine⟨Xd (ux K r hs) (dq s a) (sR e2) b3 (sR M.length) (sI j),.next,_,M1.set M.length (.lst (ps.map Er++((List.range z).map λy=>(j,y)).map Er)),rfl,by simp[-List.map_map,Od,ata G,c,e];rfl,.inl rfl,⟨_,rfl⟩,λb o J=>?_,ps++(List.range z).map (λy=>(j,y)),?_,?_,λq=>?_⟩
 .rw[mj (i_ (xm J))];exact C b o J
 .rw[qx G,iu]
 .simp;lia
 .rw[dw,R]
  constructor
  .rintro(⟨T,Y⟩|h)
   .exact⟨wu T,Y⟩
   .obtain⟨y,E,rfl⟩:=bf.mp h
    exact⟨j4 j,by rw[hz];exact jk.mp E⟩
  .rintro⟨T,Y⟩
   rcases Nat.lt_or_eq_of_le (Ab T)with y|y
   .exact .inl ⟨y,Y⟩
   .exact .inr (bf.mpr ⟨q.2,jk.mpr (by rw[<-hz,<-y];exact Y),by rw[<-y]⟩)
def amq(hm:1<=m)(P:G8 sz K Z je)(w:Kq K Z s a):∃(N E:List Pl)(X:dz),prog.call m 30 [ux K r Z,dq s a] M=.ok (.vl ((N++E).map Er)) X/\vz M X/\(∀p∈N,(Qz P w).V p/\¬(Qz P w).End p)/\(∀q,(Qz P w).V q->¬(Qz P w).End q->q∈N)/\(∀q,q∈N++E↔(Qz P w).V q)/\(N++E).length<=42:=by
 rw[call_of hm rfl];refine hG λ_ _k=>?_
 obtain⟨qk,O,e1,⟨C,rfl⟩,k1,Y,h1,n1,m1⟩:=ay9 (W:=PW (m-1)) (M:=M) (r:=r) P w;obtain⟨qv,M2,e2,⟨I,rfl⟩,k2,T,h2,n2,J⟩:=atc (W:=PW (m-1)) (M:=O) (r:=r) (e2:=M.length) (b3:=C) P w;have k3:=P.k3;have he:M2[M.length]?=some (.lst (Y.map Er)):=k2 _ _ h1;have en:∀q,q∈Y↔(Qz P w).End q:=λq=>by
  rw[m1];constructor
  .rintro⟨j,g,H,_,L,hj,F,A⟩
   refine hG λ_ _k=>?_
   obtain⟨qq,e,R,S,_⟩:=w.act L;rw[hj]at e;cases e;obtain⟨x,G,e⟩:=p8 A;apply _k;refine⟨(g.a,x),⟨P.ahc g (bh L),by rw[<-S];exact G⟩,j,Dq.mpr (Th (asb L rfl)).1,by lia,Prod.ext ?_ ?_⟩
   .show q.1=Br Z g.a (.int j)
    rw[Dp L,F]
   .show q.2=Dc a x j
    rw[R,cz,bx G,e];rfl
  .rintro⟨x,⟨v1,v2⟩,k,hk,nk,rfl⟩
   rcases Cy (Dq.mp hk)with z|⟨i,f,z,hf,ef⟩
   .cases z;exact absurd rfl nk
   .cases z
    obtain⟨H,e,R,S,_⟩:=w.act hf;refine⟨i,f,H,(ao.mp hf).1,hf,e,Dp (k:=x.1) hf,?_⟩;show Dc a x.2 i∈H;rw[R];exact getD_mem' (by rw[S,ef];exact v2)
 have D:∀p,R9 M2 (Er p) (.ref M.length)=some (decide (p∈Y)):=λp=>by simp only[R9,he,Dd,gr,uw];exact a6o p Y
 have U:∀q:Pl->Bool,(T.map Er).filter (λd=>match d with|.tup [.int i,.int j]=>q (i.toNat,j.toNat)|_=>false)=(T.filter q).map Er:=λq=>by rw[List.filter_map];rfl
 apply _k;have B:(T.map Er).length<=100000:=by simp;lia
 have c1:Ob.den (PW (m-1)) (Xd (ux K r Z) (dq s a) (sR M.length) C (sR O.length) I) M2=.ok (.vl ((T.filter λp=>!decide (p∈Y)).map Er)) M2:=by rw[<-U];exact Hu (d:=.ref O.length) (by simp) (j5 h2) B λx G=>by obtain⟨p,_,rfl⟩:=bf.mp G;exact⟨_,rfl,by simp[D],by simp⟩
 have c2:Oc.den (PW (m-1)) (Xd (ux K r Z) (dq s a) (sR M.length) C (sR O.length) I) M2=.ok (.vl ((T.filter λp=>decide (p∈Y)).map Er)) M2:=by rw[<-U];exact Hu (d:=.ref O.length) (by simp) (j5 h2) B λx G=>by obtain⟨p,_,rfl⟩:=bf.mp G;exact⟨_,rfl,by simp[D],by simp⟩
 have R:=qw (λp=>!decide (p∈Y)) T;have S:=qw (λp=>decide (p∈Y)) T;refine⟨T.filter λp=>!decide (p∈Y),T.filter λp=>decide (p∈Y),M2,?_,k1.trans k2,λp hp=>?_,λq Q ne=>?_,λq=>?_,by rw[jc];lia⟩
 .have ad:=U8 (M:=M2) ((T.filter λp=>!decide (p∈Y)).map Er) ((T.filter λp=>decide (p∈Y)).map Er) (by simp only[dm];lia)
  simp[-List.map_append,Fn.run,Ri,Rh,MW.new,e1,e2,c1,c2,ad];rw[iu]
 .obtain⟨F,A⟩:=jg.mp hp
  exact⟨(J p).mp F,λz=>by simp[(en p).mpr z]at A⟩
 .exact jg.mpr ⟨(J q).mpr Q,by simp[(en q),ne]⟩
 .rw[dw,jg,jg]
  constructor
  .rintro(z|z)
   .exact(J q).mp z.1
   .exact(J q).mp z.1
  .intro Q
   by_cases z:q∈Y
   .exact .inr ⟨(J q).mpr Q,by simp[z]⟩
   .exact .inl ⟨(J q).mpr Q,by simp[z]⟩
structure Pm(S:Plc Pl)(a2:List (List Nat))(s2:Y3)(l:List Pl)(kv:KV):Prop where
 dom:∀q,(∃v,val kv q=some v)↔S.Dm l q
 num:∀q v,val kv q=some v->∃y,v=nD y/\y<s2.getD q.1 0
 ev:∀q y,val kv q=some (nD y)->∀w∈S.W q,val kv (S.mv q w)=some (nD (Dc a2 y w))
 sm:U5 kv=true
 le:kv.length<=6*l.length
def Dif(G T:KV):Prop:=∃q v Y,val G q=some v/\val T q=some Y/\v≠Y
def Ext(T Y:KV):Prop:=∀q v,val T q=some v->val Y q=some v
def Dif.ext(h:Dif a b)(J:Ext a Z)(Y:Ext b b'):Dif Z b':=by obtain⟨q,v,O,B,T,G⟩:=h;exact⟨q,v,O,J _ _ B,Y _ _ T,G⟩
def Bd(S:Plc Pl)(Y:List (List Nat))(T:Y3)(l:List Pl):Prop:=∀out:List (Nat×KV),(∀x∈out,Pm S Y T l x.2)->out.Pairwise (λx y=>Dif x.2 y.2)->out.length<=5764801
def atd(Y:KV)(q:Pl):Nat:=match val Y q with|some (.int i)=>i.toNat|_=>0
def Qy(h:val Z q=some (nD y)):atd Z q=y:=by simp[atd,h,nD]
def bcv{S:Plc Pl}(V:Kq K Z s2 a2)(L:∃A:List Pl,A.length<=8/\(∀a∈A,S.Dm l a)/\∀q,S.Dm l q->∃a∈A,S.R a q):Bd S a2 s2 l:=λout T P=>by
 obtain⟨A,Q,W,M⟩:=L;have get:∀{x},x∈out->∀{q},S.Dm l q->∃y,val x.2 q=some (nD y)/\y<s2.getD q.1 0:=fun{x} Y {q} J=>by obtain⟨v,N⟩:=((T x Y).dom q).mpr J;obtain⟨y,rfl,G⟩:=(T x Y).num _ _ N;exact⟨y,N,G⟩
 have:=Plc.count (S:=S) (A:=A) (D:=S.Dm l) (fs:=out.map λx=>atd x.2) (act:=λ_ v w=>Dc a2 v w) Q W M (λf B q J=>by
  obtain⟨x,Y,rfl⟩:=bf.mp B;obtain⟨y,e,G⟩:=get Y J;rw[Qy e];exact b_ G (V.s7 _)) (λf B p H w E=>by
  obtain⟨x,Y,rfl⟩:=bf.mp B;obtain⟨y,e,G⟩:=get Y H;rw[Qy e,Qy ((T x Y).ev _ _ e w E)]) (by
  rw[wk];refine P.imp_of_mem fun{x y} Y G h=>?_
  obtain⟨q,v,I,O,C,F⟩:=h;obtain⟨z,rfl,_⟩:=(T x Y).num _ _ O;obtain⟨X,rfl,_⟩:=(T y G).num _ _ C;exact⟨q,((T x Y).dom q).mp ⟨_,O⟩,by rw[Qy O,Qy C];exact λe=>F (by rw[e])⟩)
 rw[dm]at this;exact this
def akj{S:Plc Pl}:S.Dm (l++[p]) q↔S.Dm l q\/S.R p q:=by
 constructor
 .rintro⟨x,T,Y⟩
  rcases dw.mp T with z|z
  .exact .inl ⟨x,z,Y⟩
  .rw[ie.mp z]at Y;exact .inr Y
 .rintro(⟨x,T,Y⟩|h)
  .exact⟨x,qi _ T,Y⟩
  .exact⟨p,by simp,h⟩
def Pm.nil{S:Plc Pl}:Pm S a2 s2 [] []:=⟨λq=>⟨λ⟨v,h⟩=>by simp[val,Af]at h,λ⟨p,h,_⟩=>by cases h⟩,λq v h=>by simp[val,Af]at h,λq v h=>by simp[val,Af]at h,rfl,jd _⟩
def Pm.stay{S:Plc Pl}(h:Pm S a2 s2 l kv)(Y:S.Dm l p):Pm S a2 s2 (l++[p]) kv:=by refine⟨λq=>?_,h.num,h.ev,h.sm,by have:=h.le;rw[jc];lia⟩;rw[h.dom,akj];exact⟨.inl,λz=>z.elim id λr=>Y.cl r⟩
def Pm.step{P:G8 sz K Z je}{B:Kq K Z s1 a1}(L:Kq K Z s2 a2)(h:Pm (Qz P B) a2 s2 l U)(N:(Qz P B).V p)(S:g<s2.getD p.1 0)(G:Alg (wI Z p.1) Z a1 a2 p g U K9):Pm (Qz P B) a2 s2 (l++[p]) K9:=by
 have O:∀q v,val K9 q=some v->val U q=some v\/∃w∈wI Z p.1,q=Uv Z a1 p w/\v=nD (Dc a2 g w):=λq v T=>by
  rcases G.no q v T with z|⟨w,Y,rfl⟩
  .exact .inl z
  .rw[G.new w Y]at T;cases T
   exact .inr ⟨w,Y,rfl,rfl⟩
 refine⟨λq=>?_,λq v T=>?_,λq y T u J=>?_,G.sm,?_⟩
 .rw[akj]
  constructor
  .rintro⟨v,T⟩
   rcases O q v T with z|⟨w,Y,z,_⟩
   .exact .inl ((h.dom q).mp ⟨v,z⟩)
   .exact .inr ⟨N,w,Y,z⟩
  .rintro(z|⟨_,w,Y,z⟩)
   .obtain⟨v,T⟩:=(h.dom q).mpr z
    exact⟨v,G.old q v T⟩
   .rw[z];exact⟨_,G.new w Y⟩
 .rcases O q v T with z|⟨w,Y,rfl,rfl⟩
  .exact h.num q v z
  .exact⟨_,rfl,aia L (Dq.mp Y) S⟩
 .rcases O q _ T with z|⟨w,Y,rfl,e⟩
  .exact G.old _ _ (h.ev q y z u J)
  .have Q:y=Dc a2 g w:=ah8 e
   obtain⟨v,C,E,R⟩:=agf P (Dq.mp Y) (Dq.mp J);have H:=adm P B (Dq.mp Y) (Dq.mp J) C N.2;have W:=adm P L (Dq.mp Y) (Dq.mp J) C S;have:=G.new v (Dq.mpr E);rw[Q,W,<-this];show val K9 (Uv Z a1 (Uv Z a1 p w) u)=val K9 (Uv Z a1 p v);simp only[Uv];rw[R,H]
 .have C:=h.le
  have E:=G.len;have R:(wI Z p.1).length<=6:=by have:=Uo (k:=p.1) P.len;rw[Us,dm]at this;exact this
  rw[jc];simp;lia
noncomputable abbrev rf(x:Nat×KV):D:=.ref x.1
structure Ot(S:Plc Pl)(a2:List (List Nat))(s2:Y3)(l:List Pl)(d:D)(M:dz)(out:List (Nat×KV)):Prop where
 ls:gr M d=some (out.map rf)
 rw:∀x∈out,M[x.1]?=some (.dT x.2)
 pm:∀x∈out,Pm S a2 s2 l x.2
 df:out.Pairwise λx y=>Dif x.2 y.2
def Ot.keep(h:Ot S a2 s2 l d M out)(k:vz M Z):Ot S a2 s2 l d Z out:=⟨k.gr h.ls,λx Y=>k _ _ (h.rw x Y),h.pm,h.df⟩
def ate(h:gr M (.ref n)=some ds):M[n]?=some (.lst ds):=by
 simp only[gr]at h;cases e:M[n]? with
 |none=>rw[e]at h;cases h|some o=>cases o<;>rw[e]at h<;>cases h;rfl
def Ot.add(h:Ot S a2 s2 l (.ref Z) M out)(b:Bd S a2 s2 l)(B:M[x.1]?=some (.dT x.2))(C:Pm S a2 s2 l x.2)(O:∀y∈out,Dif y.2 x.2) :
 ∃o,Oq .append (.ref Z) M=true/\Ks .append (.ref Z) [.ref x.1] M=.ok .non (M.set Z o)/\Ot S a2 s2 l (.ref Z) (M.set Z o) (out++[x]):=by
 have T:=ate h.ls;have N:=b out h.pm h.df;have G:∀y:Nat×KV,M[y.1]?=some (.dT y.2)->Z≠y.1:=λy Y e=>by rw[e,Y]at T;cases T
 refine⟨.lst (out.map rf++[rf x]),Ep T,abq T (by rw[dm];lia),j5 (by rw[qx T,iu];rfl),λy Y=>?_,λy Y=>?_,?_⟩
 .have:M[y.1]?=some (.dT y.2):=by
   rcases dw.mp Y with z|z
   .exact h.rw y z
   .rw[ie.mp z];exact B
  rw[mj (G y this)];exact this
 .rcases dw.mp Y with z|z
  .exact h.pm y z
  .rw[ie.mp z];exact C
 .refine List.pairwise_append.mpr ⟨h.df,List.pairwise_singleton _ _,λy Y z J=>?_⟩
  rw[ie.mp J];exact O y Y
abbrev EM(pt w1 w2:D)(b3 b4 b5 b6 b7 b8:Option D):Env:=[some pt,some w1,some w2,b3,b4,b5,b6,b7,b8,none,none,none]
def atf(D:3<=m)(P:G8 sz K hs je)(Y:Kq K hs s1 a1)(O:Kq K hs s2 a2)(B:Pm (Qz P Y) a2 s2 l kv)(hl:l.length<=100)(C:(Qz P Y).V p)(bd:Bd (Qz P Y) a2 s2 (l++[p]))(X:M[n]?=some (.dT kv))(ot:Ot (Qz P Y) a2 s2 (l++[p]) (.ref U.length) M out)(kp:vz U M)(fr:∀x∈out,Dif x.2 kv) :
 ∃qq M',Kz.den (PW m) (EM (ux K r hs) (dq s1 a1) (dq s2 a2) b3 (some (Er p)) (sR U.length) (sR n) b7 b8) M=.ok (.next,qq) M' /\
  (∃b7 b8,qq=EM (ux K r hs) (dq s1 a1) (dq s2 a2) b3 (some (Er p)) (sR U.length) (sR n) b7 b8)/\vz U M'/\M'[n]?=some (.dT kv)/\∃Z,Ot (Qz P Y) a2 s2 (l++[p]) (.ref U.length) M' (out++Z)/\∀x∈Z,Ext kv x.2/\∃y,y<s2.getD p.1 0/\val x.2 p=some (nD y):=by
 have A:=Ry (M:=M) (l:=s2) (i:=p.1) (by rw[O.ls];exact C.1);have s7:=O.s7 p.1;refine yo (S:=Kz) (W:=PW m) (n:=s2.getD p.1 0) (M:=M) (M1:=M) rfl (by
  generalize s2.getD p.1 0=z at A;simp[Ol,A]) (a_ s7 (by decide))
  (λg qq M'=>(∃b7 b8,qq=EM (ux K r hs) (dq s1 a1) (dq s2 a2) b3 (some (Er p)) (sR U.length) (sR n) b7 b8)/\vz U M'/\M'[n]?=some (.dT kv)/\∃Z,Ot (Qz P Y) a2 s2 (l++[p]) (.ref U.length) M' (out++Z)/\∀x∈Z,Ext kv x.2/\∃y,y<g/\val x.2 p=some (nD y))
  ⟨⟨b7,b8,rfl⟩,kp,X,[],by rw[Be];exact ot,by simp⟩ (λg ρ T Q hI=>?_)
 refine hG λ_ _k=>?_
 obtain⟨⟨b7,b8,rfl⟩,F,E,Z,L,f1⟩:=hI;obtain⟨d,J,e,k2,z⟩:=as9 (m:=m) (r:=r) (M:=T) (a_ (by decide) D) P Y O C.1 C.2 Q E B.sm (by have:=B.le;lia) (λq v hv=>by obtain⟨y,h,_⟩:=B.num q v hv;exact⟨y,h⟩);apply _k;rcases z with rfl|⟨K9,rfl,h1,al⟩
 .refine⟨EM (ux K r hs) (dq s1 a1) (dq s2 a2) b3 (some (Er p)) (sR U.length) (sR n) (sI g) b8,.next,EM (ux K r hs) (dq s1 a1) (dq s2 a2) b3 (some (Er p)) (sR U.length) (sR n) (sI g) (some .non),J,rfl,?_,.inl rfl,⟨_,_,rfl⟩,F.trans k2,k2 _ _ E,Z,L.keep k2,λx N=>?_⟩
  .have:J1 .isn .non .non J=some false:=rfl
   simp[Ky,e,this]
  .obtain⟨a,y,b,c⟩:=f1 x N
   exact⟨a,y,wu b,c⟩
 .have R:val K9 p=some (nD g):=by
   have:=al.new (-1) (by simp[wI]);rw[Vr]at this;exact(qt (val K9) (((Qz P Y).st p).2).symm).trans this
  obtain⟨o,t1,t2,t3⟩:=(L.keep k2).add bd (x:=(T.length,K9)) h1 (B.step O C Q al) (λy hy=>by
   rcases dw.mp hy with z|z
   .exact(fr y z).ext (λ_ _ h=>h) al.old
   .obtain⟨_,y',h2,h3⟩:=f1 y z
    exact⟨p,_,_,h3,R,λe=>by have:=ah8 e;lia⟩)
  have I:=k2 _ _ E;have G:=ate (L.keep k2).ls;refine⟨EM (ux K r hs) (dq s1 a1) (dq s2 a2) b3 (some (Er p)) (sR U.length) (sR n) (sI g) b8,.next,EM (ux K r hs) (dq s1 a1) (dq s2 a2) b3 (some (Er p)) (sR U.length) (sR n) (sI g) (sR T.length),J.set U.length o,rfl,?_,.inl rfl,⟨_,_,rfl⟩,λa o H=>?_,?_,Z++[(T.length,K9)],by rw[<-wj];exact t3,λx N=>?_⟩
  .have:J1 .isn (.ref T.length) .non J=some true:=rfl
   simp[Ky,e,this,t1,t2]
  .rw[mj (i_ (xm H))];exact k2 _ _ (F _ _ H)
  .rw[mj (λe=>by rw[e,I]at G;cases G)];exact I
  .rcases dw.mp N with z|z
   .obtain⟨a,y,b,c⟩:=f1 x z
    exact⟨a,y,wu b,c⟩
   .rw[ie.mp z]
    exact⟨al.old,g,j4 g,R⟩
def aza(hm:3<=m)(P:G8 sz K U je)(G:Kq K U s1 a1)(w2:Kq K U s2 a2)(hl:l.length<=100)(hp:(Qz P G).V p)(bd:Bd (Qz P G) a2 s2 (l++[p]))(B:Ot (Qz P G) a2 s2 l d M ps) :
 ∃Z M',K3.den (PW m) (EM (ux K r U) (dq s1 a1) (dq s2 a2) (some d) (some (Er p)) b5 b6 b7 b8) M=.ok (.next,Z) M' /\
  (∃b5 b6 b7 b8 d' qq,Z=EM (ux K r U) (dq s1 a1) (dq s2 a2) (some d') (some (Er p)) b5 b6 b7 b8/\Ot (Qz P G) a2 s2 (l++[p]) d' M' qq)/\vz M M':=by
 refine hG λ_ _k=>?_
 obtain⟨Z,M',e,⟨X,qk,I,rfl⟩,O,out,o1,_⟩:=Dl (S:=Rp) (W:=PW m) (d:=d) (ds:=ps.map rf) (ρ:=EM (ux K r U) (dq s1 a1) (dq s2 a2) (some d) (some (Er p)) (sR M.length) b6 b7 b8) (M:=M++[.lst []]) (M1:=M++[.lst []]) rfl (by simp) ((vz.app _ _).gr B.ls)
  (λi Z M'=>(∃b6 b7 b8,Z=EM (ux K r U) (dq s1 a1) (dq s2 a2) (some d) (some (Er p)) (sR M.length) b6 b7 b8)/\vz M M'/\∃out,Ot (Qz P G) a2 s2 (l++[p]) (.ref M.length) M' out/\∀x∈out,∃y∈ps.take i,Ext y.2 x.2)
  ⟨⟨b6,b7,b8,rfl⟩,vz.app _ _,[],⟨j5 Et,by simp,by simp,.nil⟩,by simp⟩ (λi ρ M' h=>h.2.1.gr B.ls)
  (λi x ρ R T hI=>by
   refine hG λ_ _k=>?_
   obtain⟨⟨b6,b7,b8,rfl⟩,O,out,ot,F⟩:=hI;rw[ig]at T;obtain⟨⟨n,kv⟩,H,rfl⟩:=dg.mp T;have C:=bh H;have Q:R[n]?=some (.dT kv):=O _ _ (B.rw _ C);have E:=B.pm _ C;apply _k;have tk:ps.take (i+1)=ps.take i++[(n,kv)]:=by rw[Ai,H];rfl
   have fr:∀x∈out,Dif x.2 kv:=λx T=>by obtain⟨y,N,J⟩:=F x T;have:=(List.take_append_drop i ps▸B.df:(ps.take i++ps.drop i).Pairwise _);have:=(List.pairwise_append.mp this).2.2 y N (n,kv) (bh (i:=0) (by rw[List.getElem?_drop];exact H));exact this.ext J λ_ _ h=>h
   have Y:=azu (M:=R) (b:=Er p) (k:=ky p.1 p.2) Q rfl
   by_cases q:(Qz P G).Dm l p
   .obtain⟨v,L⟩:=(E.dom p).mpr q
    have L:Af kv (ky p.1 p.2)=some v:=L;rw[L]at Y;obtain⟨o,t1,t2,t3⟩:=ot.add bd (x:=(n,kv)) Q (E.stay q) fr;refine⟨EM (ux K r U) (dq s1 a1) (dq s2 a2) (some d) (some (Er p)) (sR M.length) (sR n) b7 b8,.next,EM (ux K r U) (dq s1 a1) (dq s2 a2) (some d) (some (Er p)) (sR M.length) (sR n) b7 b8,R.set M.length o,rfl,by simp[K1,Y,t1,t2],.inl rfl,⟨_,_,_,rfl⟩,λa o ha=>?_,_,t3,λx T=>?_⟩
    .rw[mj (i_ (xm ha))];exact O _ _ ha
    .rw[tk]
     rcases dw.mp T with z|z
     .obtain⟨y,N,J⟩:=F x z
      exact⟨y,qi _ N,J⟩
     .rw[ie.mp z];exact⟨_,by simp,λ_ _ h=>h⟩
   .refine hG λ_ _k=>?_
    have L:Af kv (ky p.1 p.2)=none:=by
     cases e:Af kv (ky p.1 p.2)with
     |none=>rfl|some v=>exact absurd ((E.dom p).mp ⟨v,e⟩) q
    rw[L]at Y;obtain⟨Z,M',e,⟨D,A,rfl⟩,k2,n2,qv,t3,t4⟩:=atf (r:=r) (b3:=some d) (b7:=b7) (b8:=b8) hm P G w2 E hl hp bd Q ot O fr;apply _k;refine⟨EM (ux K r U) (dq s1 a1) (dq s2 a2) (some d) (some (Er p)) (sR M.length) (sR n) b7 b8,.next,EM (ux K r U) (dq s1 a1) (dq s2 a2) (some d) (some (Er p)) (sR M.length) (sR n) D A,M',rfl,by simp[K1,Y,e],.inl rfl,⟨_,_,_,rfl⟩,k2,_,t3,λx T=>?_⟩;rw[tk];rcases dw.mp T with z|z
    .obtain⟨y,N,J⟩:=F x z
     exact⟨y,qi _ N,J⟩
    .exact⟨_,by simp,(t4 x z).1⟩)
 apply _k;exact⟨EM (ux K r U) (dq s1 a1) (dq s2 a2) (sR M.length) (some (Er p)) (sR M.length) X qk I,M',by simp[K3,MW.new,e],⟨_,_,_,_,_,out,rfl,o1⟩,O⟩
def Om(Y:Y3)(T:KV)(k:Nat):List Nat:=(List.range (Y.getD k 0)).map λx=>atd T (k,x)
abbrev EF(pt w1 w2:D)(b3 b4 b5 b6 b7 b8 b9 b10 Kl:Option D):Env:=[some pt,some w1,some w2,b3,b4,b5,b6,b7,b8,b9,b10,Kl]
def azb(P:G8 sz K hs je)(B:Kq K hs s1 a1)(E:Pm (Qz P B) a2 s2 l Z)(u:∀q,(Qz P B).V q->q∈l)(H:M[n]?=some (.dT Z))(I:M[U]?=some (.lst ds))(D:ds.length<6000000) :
 ∃M',Kw.den W (EF (ux K r hs) (dq s1 a1) w b3 b4 b5 (sR n) b7 b8 (sR U) b10 Kl) M=.ok (.next,EF (ux K r hs) (dq s1 a1) w b3 b4 b5 (sR n) b7 b8 (sR U) (sR M.length) (if K=0 then Kl else sI (K-1:Nat))) M' /\
  M'[U]?=some (.lst (ds++[.tup ((List.range K).map λk=>xu (Om s1 Z k))]))/\∀a o,a≠U->M[a]?=some o->M'[a]?=some o:=by
 have k3:=P.k3;obtain⟨J,M',e,rfl,T,G⟩:=yo (S:=Rm) (W:=W) (n:=K) (ρ:=EF (ux K r hs) (dq s1 a1) w b3 b4 b5 (sR n) b7 b8 (sR U) (sR M.length) Kl) (M:=M++[.lst []]) (M1:=M++[.lst []]) rfl (by simp[Oi]) (a_ k3 (by decide))
  (λk J M'=>J=EF (ux K r hs) (dq s1 a1) w b3 b4 b5 (sR n) b7 b8 (sR U) (sR M.length) (if k=0 then Kl else sI (k-1:Nat))/\M'[M.length]?=some (.lst ((List.range k).map λk=>xu (Om s1 Z k)))/\vz M M')
  ⟨rfl,Et,vz.app _ _⟩ (λk F M1 C A=>by
   obtain⟨rfl,T,G⟩:=A;have Q:=Ry (M:=M1) (l:=s1) (i:=k) (by rw[B.ls];exact C);have s7:=B.s7 k;have c:Kv.den W (EF (ux K r hs) (dq s1 a1) w b3 b4 b5 (sR n) b7 b8 (sR U) (sR M.length) (sI k)) M1=.ok (.vl ((Om s1 Z k).map nD)) M1:=by
    unfold Kv;rw[Gb (n:=s1.getD k 0) (g:=λx=>nD (atd Z (k,x))) (by
     generalize s1.getD k 0=z at Q;simp[Ol,Q]) (a_ s7 (by decide)) (λx L=>by
     obtain⟨v,N⟩:=(E.dom (k,x)).mpr ⟨(k,x),u _ ⟨C,L⟩,Plc.R.avl ⟨C,L⟩⟩;obtain⟨y,rfl,_⟩:=E.num _ _ N;have:=aaf (b:=Er (k,x)) (k:=ky k x) (G _ _ H) rfl;rw[show Af Z (ky k x)=some (nD y)from N]at this;exact⟨_,rfl,by simp[this,Qy N]⟩)]
    simp[Om]
   have ap:=Es (d:=.tup ((Om s1 Z k).map nD)) T (by simp;lia);refine⟨EF (ux K r hs) (dq s1 a1) w b3 b4 b5 (sR n) b7 b8 (sR U) (sR M.length) (sI k),.next,_,M1.set M.length (.lst (((List.range k).map λk=>xu (Om s1 Z k))++[.tup ((Om s1 Z k).map nD)])),rfl,by simp[Rj,Ep T,c,Fq,ap],.inl rfl,rfl,by rw[qx T,qd];simp[xu],λa o O=>?_⟩;rw[mj (i_ (xm O))];exact G _ _ O)
 have Y:=G _ _ I;have ap:=abq (d:=.tup ((List.range K).map λk=>xu (Om s1 Z k))) Y D;refine⟨_,by simp[Kw,MW.new,e,Ep Y,qm,Lj (j5 T),ap],qx Y,λa o X O=>?_⟩;rw[mj (km X)];exact G _ _ O
def amr(l:Y3):au4 (xu l)=some l.length:=by show(Wz (l.map nD)).map (·.length)=_;rw[X8];simp
def azc(f:Nat->List Nat)(l:Y3):Tv (l.map λk=>xu (f k))=some (l.map λk=>(f k).length):=by
 induction l with
 |nil=>rfl|cons a l Y=>simp[Tv,amr,Y]
def ams(T:Kq K Z s1 a1)(G:KV):ag3 (.tup ((List.range K).map λk=>xu (Om s1 G k)))=some s1:=by
 show Tv _=_;rw[azc]
 congr 1
 apply t7;intro i
 by_cases h:i<K
 .have Y:i<s1.length:=b_ h (g_ T.ls)
  simp[Om,h,Y]
 .have Y:¬i<s1.length:=λz=>h (b_ z (f_ T.ls))
  simp[h,Y]
def azd(hm:4<=m)(P:G8 sz K hs je)(F:Kq K hs s1 a1)(w2:Kq K hs s2 a2)(G:∃G,Gn K hs s1 a1 G):∃q U n Z,prog.call m 31 [ux K r hs,dq s1 a1,dq s2 a2] M=.ok (.ref q) Z/\Z[q]?=some (.lst (Xu q U n))/\M.length<=q/\vz M Z/\(n=0\/U=s1)/\n<6000000:=by
 rw[call_of (a_ (by decide) hm) rfl];refine hG λ_ _k=>?_
 have k1:=P.k1;obtain⟨N,E,M1,e1,I,hN,hA,hV,hl⟩:=amq (m:=m-1) (r:=r) (M:=M++[.dT []]) (r_ (a_ (by decide) hm)) P F;have bd:∀j,Bd (Qz P F) a2 s2 ((N++E).take j):=λj=>by
  obtain⟨G,g⟩:=G;refine bcv w2 (Plc.gens (G:=G) g.v (λq hq=>?_) ?_ hN hA j)
  .obtain⟨x,Y,w,hw,e⟩:=g.g q.1 q.2 hq.1 hq.2
   obtain⟨h1,h2⟩:=Th hw;exact⟨x,Y,g.v x Y,w,Dq.mpr h1,Prod.ext h2.symm e⟩
  .refine gf (Nat.le_of_eq ?_) g.c
   simp only[Plc.cost,Qz,Us,dm]
 obtain⟨q2,L,e2,⟨d,A,O,T,B,C,H,rfl,R⟩,q0⟩:=Dl (S:=Rq) (W:=PW (m-1)) (d:=.vl ((N++E).map Er)) (ds:=(N++E).map Er) (ρ:=EM (ux K r hs) (dq s1 a1) (dq s2 a2) (some (.vl [.ref M.length])) none none none none none) (M:=M++[.dT []]) (M1:=M1) rfl (by simp[-List.map_append,e1]) rfl
  (λj Q Z=>(∃d A O T B C H,Q=EM (ux K r hs) (dq s1 a1) (dq s2 a2) (some d) A O T B C/\Ot (Qz P F) a2 s2 ((N++E).take j) d Z H)/\vz M Z)
  ⟨⟨_,none,none,none,none,none,[(M.length,[])],rfl,rfl,λx Y=>by rw[ie.mp Y];exact I _ _ Et,λx Y=>by rw[ie.mp Y];exact Pm.nil,List.pairwise_singleton _ _⟩,(vz.app _ _).trans I⟩ (λ_ _ _ _=>rfl)
  (λj x ρ L Y hI=>by
   refine hG λ_ _k=>?_
   obtain⟨⟨d,A,O,T,B,C,H,rfl,R⟩,V⟩:=hI;rw[ig]at Y;obtain⟨p,hp,rfl⟩:=dg.mp Y;apply _k;have tk:(N++E).take (j+1)=(N++E).take j++[p]:=by rw[Ai,hp];rfl
   refine hG λ_ _k=>?_
   obtain⟨Q,M3,e,⟨O,T,B,C,d',qv,rfl,o3⟩,k3⟩:=aza (m:=m-1) (r:=r) (b5:=O) (b6:=T) (b7:=B) (b8:=C) (r_ hm) P F w2 (a_ (List.length_take_le' j _) (a_ hl (by decide))) ((hV p).mp (bh hp)) (by rw[<-tk];exact bd _) R;apply _k;exact⟨_,.next,_,M3,rfl,e,.inl rfl,⟨d',_,_,_,_,_,qv,rfl,by rw[tk];exact o3⟩,V.trans k3⟩)
 have hb:=bd _ H R.pm R.df;rw[dm,Bu]at R;obtain⟨q1,M3,e3,⟨T,J,X,rfl⟩,h3,qk⟩:=Dl (S:=Ro) (W:=PW (m-1)) (d:=d) (ds:=H.map rf) (ρ:=EF (ux K r hs) (dq s1 a1) (dq s2 a2) (some d) A O T B C (sR L.length) none none) (M:=L++[.lst []]) (M1:=L++[.lst []]) rfl (by simp) ((vz.app _ _).gr R.ls)
  (λi Q Z=>(∃T J X,Q=EF (ux K r hs) (dq s1 a1) (dq s2 a2) (some d) A O T B C (sR L.length) J X)/\Z[L.length]?=some (.lst ((H.take i).map λx=>.tup ((List.range K).map λk=>xu (Om s1 x.2 k))))/\vz L Z)
  ⟨⟨T,none,none,rfl⟩,Et,vz.app _ _⟩ (λi ρ Z h=>h.2.2.gr R.ls)
  (λi x ρ M3 Y hI=>by
   refine hG λ_ _k=>?_
   obtain⟨⟨T,J,X,rfl⟩,h3,V⟩:=hI;rw[ig]at Y;obtain⟨⟨n,kv⟩,hi,rfl⟩:=dg.mp Y;have qq:=bh hi;obtain⟨M4,e4,f4,k4⟩:=azb (W:=PW (m-1)) (r:=r) (w:=dq s2 a2) (b3:=some d) (b4:=A) (b5:=O) (b7:=B) (b8:=C) (b10:=J) (Kl:=X) P F (R.pm _ qq) (λq hq=>(hV q).mpr hq) (V _ _ (R.rw _ qq)) h3 (by rw[dm];exact c_ (List.length_take_le' i _) (c_ hb (by decide)));apply _k;refine⟨_,.next,_,M4,rfl,e4,.inl rfl,⟨_,_,_,rfl⟩,?_,λa o ha=>k4 _ _ (h_ (xm ha)) (V _ _ ha)⟩;rw[f4,Ai,hi,iu];rfl)
 rw[dm,Bu]at h3;have V:=q0.trans qk;generalize hds:(H.map λx=>D.tup ((List.range K).map λk=>xu (Om s1 x.2 k)))=ds at h3;apply _k;have hn:ds.length<6000000:=by rw[<-hds,dm];exact c_ hb (by decide)
 have srt:∃U,qm .sorted [.ref L.length] M3=.ok (.ref M3.length) (M3++[.lst (Xu M3.length U ds.length)])/\(ds.length=0\/U=s1):=by
  have:qm .sorted [.ref L.length] M3=ad5 ds M3:=by simp[qm,j5 h3]
  rw[this];cases bcw:ds with
  |nil=>exact⟨[],rfl,.inl rfl⟩
  |cons d0 dr =>
   have all:∀x∈d0::dr,ag3 x=some s1:=λx Y=>by rw[<-bcw,<-hds]at Y;obtain⟨y,_,rfl⟩:=bf.mp Y;exact ams F y.2
   have ne:s1≠[]:=λz=>by have:=F.ls;rw[z]at this;simp at this;lia
   rw[bcw]at hn;refine⟨s1,?_,.inr rfl⟩;simp only[ad5,all d0 (by simp)];rw[dj ⟨ne,all,hn⟩];rfl
 obtain⟨U,e5,h5⟩:=srt;refine⟨M3.length,U,ds.length,M3++[.lst (Xu M3.length U ds.length)],?_,Et,V.len,V.trans (vz.app _ _),h5,hn⟩;simp[Fn.run,Vw,Vv,MW.new,e2,e3,e5]
def aze(n:Nat):allB (List.replicate n (.bl true))=some true:=by
 induction n with
 |zero=>rfl|succ n Y=>rw[List.replicate_succ,allB,Y];rfl
inductive Smp:Nat->D->Prop
 |int:Smp (n+1) (.int i)
 |sy:Smp (n+1) (.sy a b c d)
 |tup:ds.length<=100000->(∀d∈ds,Smp n d)->Smp (n+1) (.tup ds)
def zip_get{i:Nat}(h:(Im ls n)[i]?=some d):i<n/\d=.tup (ls.map λl=>l.getD i .non):=by
 have Y:i<n:=by simpa[Im]using(ao.mp h).1
 simp[Im,Y]at h;exact⟨Y,h.symm⟩
def akk(h:Smp n d):∀{m M},n<=m->prog.call m 34 [d,d] M=.ok (.bl true) M:=by
 induction h with
 |int =>
  intro m M Y;have T:qm .isSeq [.int i] M=.ok (.bl false) M:=rfl;have G:qm .isBool [.int i] M=.ok (.bl false) M:=rfl;rw[call_of (a_ y_ Y) rfl];simp[Fn.run,Kh,Kg,T,G]
 |sy =>
  intro m M Y;have T:qm .isSeq [.sy a b c d_1] M=.ok (.bl false) M:=rfl;have G:qm .isBool [.sy a b c d_1] M=.ok (.bl false) M:=rfl;have J:zy M (.sy a b c d_1) (.sy a b c d_1)=some true:=by simp[zy,Kr]
  rw[call_of (a_ y_ Y) rfl];simp[Fn.run,Kh,Kg,T,G,J]
 |tup C _ O =>
  intro m M Y;rw[call_of (a_ y_ Y) rfl];have T:qm .isSeq [.tup ds] M=.ok (.bl true) M:=rfl;have G:qm .isTuple [.tup ds] M=.ok (.bl true) M:=rfl;have J:qm .isList [.tup ds] M=.ok (.bl false) M:=rfl;have N:qm .len [.tup ds] M=.ok (.int ds.length) M:=rfl;have c:K4.den (PW (m-1)) [some (.tup ds),some (.tup ds)] M=.ok (.vl (List.replicate ds.length (.bl true))) M:=by
   unfold K4;rw[Qx (ds:=Im [ds,ds] ds.length) (g:=λ_=>.bl true) (by simp[ak2]) (by simpa[Im]using C) (λi d E=>by
    obtain⟨B,rfl⟩:=zip_get E;have:=O ds[i] (my B) (m:=m-1) (M:=M) (r_ Y);exact⟨[some (.tup ds),some (.tup ds),some ds[i],some ds[i]],by simp[Tg.put,Gj,B],by simp[this]⟩)]
   simp[List.map_const',Im]
  have L:qm .all [.vl (List.replicate ds.length (.bl true))] M=.ok (.bl true) M:=by show Res.v9 ((allB _).map D.bl) M=_;rw[aze];rfl
  simp[Fn.run,Kh,Kg,c,T,G,J,N,L]
def rD(r:List (List Nat)):D:=.tup (r.map xu)
def akl(Y:l.length<=100000):Smp (n+2) (xu l):=.tup (by rw[dm];exact Y) λd T=>by obtain⟨x,_,rfl⟩:=bf.mp T;exact .int
def Zh(T:q.length<=100000)(Y:∀l∈q,l.length<=100000):Smp (n+3) (rD q):=.tup (by rw[dm];exact T) λd G=>by obtain⟨x,h,rfl⟩:=bf.mp G;exact akl (Y x h)
structure Wd(K:Nat)(hs:List F)(s:Y3)(a:List (List Nat)):Prop where
 ls:s.length=K
 la:a.length=hs.length
 sm:∀k,s.getD k 0<=1000
 al:∀k,(a.getD k []).length<=1000
def Kq.wd(P:G8 sz K Z U)(w:Kq K Z s a):Wd K Z s a:=⟨w.ls,w.la,λk=>a_ (w.s7 k) (by decide),λk=>by
 by_cases h:k<Z.length
 .obtain⟨g,Y⟩:=Zg h
  obtain⟨T,e,_,l,_⟩:=w.act Y;rw[Xc e,l];exact a_ (w.s7 _) (by decide)
 .rw[cz,pq (by rw[w.la];exact s_ h)];exact jd _⟩
noncomputable def bK(Y:List F)(j:Nat):Nat:=match Y[j]? with|some g=>g.b|none=>0
noncomputable def Tq(l:Y3)(n:Nat):List Nat:=l.map λx=>x+n
noncomputable def Mp(K:Nat)(s Y:Y3):List Nat:=(List.range K).map λk=>s.getD k 0+Y.getD k 0
def Ij(Y:List F)(s:Y3)(a T:List (List Nat))(n:Nat):List (List Nat):=(List.range n).map λj=>a.getD j []++Tq (T.getD j []) (s.getD (bK Y j) 0)
noncomputable def stays(K:Nat)(s:Y3):List (List Nat):=(List.range K).map λk=>List.range (s.getD k 0)
def rights(K:Nat)(s Y:Y3):List (List Nat):=(List.range K).map λk=>Tq (List.range (Y.getD k 0)) (s.getD k 0)
def a6p(K:Nat)(Y:List F)(s T:Y3)(a G:List (List Nat)):D:=.tup [dq (Mp K s T) (Ij Y s a G Y.length),rD (stays K s),rD (rights K s T)]
def amt{f:Nat->Nat}(h:i<n):((List.range n).map f).getD i 0=f i:=by simp[cz,h]
def amu{f:Nat->List Nat}(h:i<n):((List.range n).map f).getD i []=f i:=by simp[cz,h]
def akm{a:List (List Nat)}(h:j<a.length):Bk (.tup (a.map xu)) (.int j) M=some (xu (a.getD j [])):=Ip q_ (by simp[h])
def abb(G:1<=m)(Y:l.length<=100000):prog.call m 24 [xu l,.int (n:Nat)] M=.ok (xu (Tq l n)) M:=by
 rw[call_of G rfl];have c:Ss.den (PW (m-1)) [some (xu l),sI n] M=.ok (.vl ((Tq l n).map nD)) M:=by
  unfold Ss;rw[Ia (ds:=l.map nD) (M1:=M) (g:=λd=>match d with|.int i=>.int (i+n)|_=>.non) (by simp[xu]) (by simpa using Y) (λx T=>by
   obtain⟨y,_,rfl⟩:=bf.mp T;exact⟨_,rfl,by simp[nD]⟩)]
  simp[Tq,nD]
 simp[Fn.run,aec,aeb,c,Fq];rfl
def Zi(G:1<=m)(w:Wd K Z s a)(J:K<=3):prog.call m 22 [dq s a] M=.ok (rD (stays K s)) M:=by
 rw[call_of G rfl];have c:Pa.den (PW (m-1)) [some (dq s a)] M=.ok (.vl ((stays K s).map xu)) M:=by
  unfold Pa;rw[Qx (ds:=s.map nD) (g:=λi=>xu (List.range (s.getD i 0))) (by simp[Ol,srcOf,xu]) (by rw[dm,w.ls];exact a_ J (by decide)) (λi d T=>by
   rw[ig]at T;obtain⟨y,B,rfl⟩:=dg.mp T;have Y:=w.sm i;rw[Xc B]at Y⊢;have:y<=100000:=a_ Y (by decide)
   exact⟨_,rfl,by simp[this,xu,nD]⟩)]
  simp[stays,w.ls]
 simp[Fn.run,aai,aah,c,Fq,rD]
abbrev ES(pt w1 w2:D)(b3 b4 b5 b6 b7:Option D):Env:=[some pt,some w1,some w2,b3,b4,b5,b6,b7]
def a0r{j:Nat}(h:Z[j]?=some g):bK Z j=g.b:=by simp[bK,h]
def ath(B:2<=m)(P:G8 sz K U je)(h:Made n r K U je M)(T:Wd K U s a)(N:Wd K U s' Z) :
 ∃qq M',Sh.den (PW m) (ES (.ref n) (dq s a) (dq s' Z) b3 (sR M.length) b5 b6 none) (M++[.lst []])=.ok (.next,qq) M' /\
  (∃b5 b6,qq=ES (.ref n) (dq s a) (dq s' Z) b3 (sR M.length) b5 b6 none)/\M'[M.length]?=some (.lst ((Ij U s a Z U.length).map xu))/\vz M M':=by
 have D:=P.len;have A:(Ex.meth (.v 0) 0).den (PW m) (ES (.ref n) (dq s a) (dq s' Z) b3 (sR M.length) b5 b6 none) (M++[.lst []])=.ok (Jz U) (M++[.lst []]):=by have L:=h.keep (vz.app M [.lst []]);have cl:(PW m).cls[2]?=some ⟨0,[(0,2)]⟩:=rfl;rw[ad7];simp[-List.getElem?_append,L.1,cl,List.lookup,amg (a_ (by decide) B) L]
 have:=Px (S:=Sh) (W:=PW m) (ds:=U.map eD) (ρ:=ES (.ref n) (dq s a) (dq s' Z) b3 (sR M.length) b5 b6 none) (M:=M++[.lst []]) (M1:=M++[.lst []]) rfl A
  (λj qq M'=>(∃b5 b6,qq=ES (.ref n) (dq s a) (dq s' Z) b3 (sR M.length) b5 b6 none)/\M'[M.length]?=some (.lst ((Ij U s a Z j).map xu))/\vz M M')
  ⟨⟨b5,b6,rfl⟩,Et,vz.app _ _⟩ (λj x R M1 O Q=>by
   obtain⟨⟨b5,b6,rfl⟩,G,H⟩:=Q;rw[ig]at O;obtain⟨g,Y,rfl⟩:=dg.mp O;have C:=(ao.mp Y).1;have F:=akm (M:=M1) (a:=a) (j:=j) (b_ C (g_ T.la));have E:=akm (M:=M1) (a:=Z) (j:=j) (b_ C (g_ N.la));have q:=Ry (M:=M1) (l:=s) (i:=g.b) (by rw[T.ls];exact P.Zw g (bh Y));have c:=T.al j;have X:=N.al j;have V:=abb (m:=m) (l:=Z.getD j []) (n:=s.getD g.b 0) (M:=M1) (a_ (by decide) B) (a_ X (by decide));have I:Ij U s a Z (j+1)=Ij U s a Z j++[a.getD j []++Tq (Z.getD j []) (s.getD g.b 0)]:=by simp[Ij,qd,a0r Y]
   rw[I];generalize a.getD j []=u at *;generalize Z.getD j []=u' at *;generalize s.getD g.b 0=z at *;have y:Ey .add (xu u) (xu (Tq u' z)) M1=.ok (xu (u++Tq u' z)) M1:=by
    have:(u.map nD).length+((Tq u' z).map nD).length<=100000:=by simp[Tq];lia
    show Xr (.tup _) (.tup _) M1=_;simp only[Xr,dj this,<-iu];rfl
   have ap:=Es (d:=xu (u++Tq u' z)) G (by simp[Ij];lia);refine⟨ES (.ref n) (dq s a) (dq s' Z) b3 (sR M.length) (sI j) (some (eD g)) none,.next,ES (.ref n) (dq s a) (dq s' Z) b3 (sR M.length) (sI j) (some (eD g)) none,M1.set M.length (.lst ((Ij U s a Z j).map xu++[xu (u++Tq u' z)])),rfl,by simp[-List.map_append,Xx,Ep G,age,Ol,F,E,Wa,q,V,y,ap],.inl rfl,⟨_,_,rfl⟩,by rw[qx G,iu];rfl,λb o J=>?_⟩;rw[mj (i_ (xm J))];exact H _ _ J)
 rw[dm]at this;exact this
def a6q(T:3<=m)(P:G8 sz K hs je)(h:Made n r K hs je M)(L:Wd K hs s a)(J:Wd K hs Z U):∃M',prog.call m 23 [.ref n,dq s a,dq Z U] M=.ok (a6p K hs s Z a U) M'/\vz M M':=by
 rw[call_of (a_ (by decide) T) rfl];have k3:=P.k3;have E:=L.ls;have Q:=J.ls;have H:Sq.den (PW (m-1)) (ES (.ref n) (dq s a) (dq Z U) none none none none none) M=.ok (.vl ((Mp K s Z).map nD)) M:=by
  unfold Sq;rw[Qx (ds:=Im [s.map nD,Z.map nD] Z.length) (g:=λi=>nD (s.getD i 0+Z.getD i 0)) (by simp[Ol,ak2,xu,E,Q]) (by simp[Im];lia) (λi d C=>by
   obtain⟨G,rfl⟩:=zip_get C;have Y:i<s.length:=by lia
   exact⟨ES (.ref n) (dq s a) (dq Z U) none none none none none++[some (nD s[i]),some (nD Z[i])],by simp[Tg.put,Gj,G,Y],by simp[nD,G,Y]⟩)]
  simp[Mp,Im,Q]
 obtain⟨X,M',e,⟨O,S,rfl⟩,A,V⟩:=ath (m:=m-1) (b3:=some (xu (Mp K s Z))) (b5:=none) (b6:=none) (r_ T) P h L J;have R:=Zi (m:=m-1) (M:=M') (r_ (a_ (by decide) T)) J k3;have B:=Zi (m:=m-1) (M:=M') (r_ (a_ (by decide) T)) L k3;have W:Sd.den (PW (m-1)) (ES (.ref n) (dq s a) (dq Z U) (some (xu (Mp K s Z))) (sR M.length) O S none) M'=.ok (.vl ((rights K s Z).map xu)) M':=by
  unfold Sd;rw[Qx (ds:=Im [(stays K Z).map xu,s.map nD] s.length) (g:=λi=>xu (Tq (List.range (Z.getD i 0)) (s.getD i 0))) (by simp[Ol,ak2,xu,rD,R,E,stays]) (by simp[Im];lia) (λi d C=>by
   obtain⟨G,rfl⟩:=zip_get C;have Y:i<K:=by lia
   have F:=J.sm i;have N:=abb (m:=m-1) (l:=List.range (Z.getD i 0)) (n:=s.getD i 0) (M:=M') (r_ (a_ (by decide) T)) (by rw[yh];exact a_ F (by decide));have I:s.getD i 0=s[i]:=by simp[G]
   rw[I]at N⊢;refine⟨ES (.ref n) (dq s a) (dq Z U) (some (xu (Mp K s Z))) (sR M.length) O S none++[some (xu (List.range (Z.getD i 0))),some (nD s[i])],by simp[Tg.put,Gj,G,Y,stays],?_⟩;generalize Z.getD i 0=z at N⊢;simp[nD,N])]
  simp[rights,Im,E]
 refine⟨M',?_,V⟩;have D:qm .tuple [.vl ((Mp K s Z).map nD)] M=.ok (xu (Mp K s Z)) M:=Fq _ _;have t2:qm .tuple [.vl ((rights K s Z).map xu)] M'=.ok (rD (rights K s Z)) M':=Fq _ _;have t3:qm .tuple [.ref M.length] M'=.ok (rD (Ij hs s a U hs.length)) M':=by simp[qm,Lj (j5 A),rD]
 simp[Fn.run,aea,ad9,H,MW.new,e,W,B,D,t2,t3];rfl
def agg(I:1<=m)(P:G8 sz K Z je)(B:Wd K Z s a)(V:Wd K Z s' U):∃M',prog.call m 32 [ux K r Z,dq s a,dq s' U] M=.ok (dq (Mp K s s') (Ij Z s a U Z.length)) M'/\vz M M':=by
 rw[call_of I rfl];have k3:=P.k3;have Q:=P.len;obtain⟨J,M',e,⟨C,T,rfl⟩,O,E⟩:=yo (S:=Pk) (W:=PW (m-1)) (n:=Z.length) (ρ:=Xd (ux K r Z) (dq s a) (some (dq s' U)) (sR M.length) none none) (M:=M++[.lst []]) (M1:=M++[.lst []]) rfl (by simp[Jx,K7]) (a_ Q (by decide))
  (λj J M'=>(∃C T,J=Xd (ux K r Z) (dq s a) (some (dq s' U)) (sR M.length) C T)/\M'[M.length]?=some (.lst ((Ij Z s a U j).map xu))/\vz M M')
  ⟨⟨none,none,rfl⟩,Et,vz.app _ _⟩ (λj X Y H q=>by
   obtain⟨⟨C,T,rfl⟩,O,E⟩:=q;obtain⟨g,L⟩:=Zg H;have R:=akm (M:=Y) (a:=a) (j:=j) (b_ H (g_ B.la));have l1:=B.al j;have l2:=V.al j;have p:Ij Z s a U (j+1)=Ij Z s a U j++[a.getD j []++Tq (U.getD j []) (s.getD g.b 0)]:=by simp[Ij,qd,a0r L]
   have N:∀M,Bk (.tup (U.map xu)) (.int j) M=some (xu (U.getD j [])):=λM=>akm (b_ H (g_ V.la))
   have i3:∀M,Bk (xu s) (.int g.b) M=some (.int (s.getD g.b 0)):=λM=>Ry (by rw[B.ls];exact P.Zw g (bh L))
   rw[p];generalize a.getD j []=u at *;generalize U.getD j []=u' at *;generalize s.getD g.b 0=z at *;have t:qm .list [xu u] Y=.ok (.ref Y.length) (Y++[.lst (u.map nD)]):=by simp[qm,xu,MW.new]
   have G:(Y++[.lst (u.map nD)])[M.length]?=_:=yx O;have c:Js.den (PW (m-1)) (Xd (ux K r Z) (dq s a) (some (dq s' U)) (sR M.length) (sI j) (sI g.b)) (Y++[.lst (u.map nD)])=.ok (.vl ((Tq u' z).map nD)) (Y++[.lst (u.map nD)]):=by
    unfold Js;rw[Ia (ds:=u'.map nD) (M1:=Y++[.lst (u.map nD)]) (g:=λd=>match d with|.int i=>.int (i+z)|_=>.non) (by simp[age,N];rfl) (by simp;lia) (λx v=>by
     obtain⟨y,_,rfl⟩:=bf.mp v;exact⟨_,rfl,by simp[nD,Ol,i3,Int.add_comm]⟩)]
    simp[Tq,nD]
   have e2:Ey .add (.ref Y.length) (.vl ((Tq u' z).map nD)) (Y++[.lst (u.map nD)])=.ok (.vl ((u++Tq u' z).map nD)) (Y++[.lst (u.map nD)]):=by
    have:(u.map nD).length+((Tq u' z).map nD).length<=100000:=by simp[Tq];lia
    show Xr (.ref Y.length) (.vl _) _=_;simp only[Xr,j5 Et,aae,dj this,<-iu]
   have ap:=Es (d:=.tup ((u++Tq u' z).map nD)) G (by simp[Ij];lia);refine⟨Xd (ux K r Z) (dq s a) (some (dq s' U)) (sR M.length) (sI j) T,.next,Xd (ux K r Z) (dq s a) (some (dq s' U)) (sR M.length) (sI j) (sI g.b),(Y++[MO.lst (u.map nD)]).set M.length (MO.lst ((Ij Z s a U j).map xu++[D.tup ((u++Tq u' z).map nD)])),rfl,by simp[-List.map_append,Pj,Ep O,Jx,Rt L,Wa,age,R,t,c,e2,Fq,ap],.inl rfl,⟨_,_,rfl⟩,by rw[qx G,iu (f:=xu)];rfl,λb o F=>?_⟩;rw[mj (i_ (xm F))];exact yx (E _ _ F))
 have k:Jr.den (PW (m-1)) (Xd (ux K r Z) (dq s a) (some (dq s' U)) (sR M.length) C T) M'=.ok (.vl ((Mp K s s').map nD)) M':=by
  unfold Jr;rw[Gb (n:=K) (g:=λi=>nD (s.getD i 0+s'.getD i 0)) (by simp[Oi]) (a_ k3 (by decide)) (λi A=>by
   have R:=Ry (M:=M') (l:=s) (i:=i) (by rw[B.ls];exact A);have N:=Ry (M:=M') (l:=s') (i:=i) (by rw[V.ls];exact A);generalize s.getD i 0=z at *;generalize s'.getD i 0=z' at *;exact⟨_,rfl,by simp[Ol,R,N,nD]⟩)]
  simp[Mp]
 have t1:qm .tuple [.vl ((Mp K s s').map nD)] M'=.ok (xu (Mp K s s')) M':=Fq _ _;have t3:qm .tuple [.ref M.length] M'=.ok (rD (Ij Z s a U Z.length)) M':=by simp[qm,Lj (j5 O),rD]
 exact⟨M',by simp[Fn.run,T8,T7,MW.new,e,k,t1,t3];rfl,E⟩
def azf(Q:2<=m)(P:G8 sz K U je)(C:Wd K U s a)(N:Wd K U Z a'):∃M',prog.call m 35 [ux K r U,dq s a,dq Z a'] M=.ok (a6p K U s Z a a') M'/\vz M M':=by
 rw[call_of (a_ (by decide) Q) rfl];have k3:=P.k3;obtain⟨G,M',e,⟨B,rfl⟩,T,L,O⟩:=yo (S:=Ua) (W:=PW (m-1)) (n:=K) (ρ:=Xd (ux K r U) (dq s a) (some (dq Z a')) (sR M.length) (sR (M.length+1)) none) (M:=M++[.lst []]++[.lst []]) (M1:=M++[.lst []]++[.lst []]) rfl (by simp[Oi]) (a_ k3 (by decide))
  (λk G M'=>(∃B,G=Xd (ux K r U) (dq s a) (some (dq Z a')) (sR M.length) (sR (M.length+1)) B)/\M'[M.length]?=some (.lst ((stays k s).map xu))/\M'[M.length+1]?=some (.lst ((rights k s Z).map xu))/\vz M M')
  ⟨⟨none,rfl⟩,yx Et,by simp[stays,rights],(vz.app _ _).trans (vz.app _ _)⟩ (λk A M1 H I=>by
   obtain⟨⟨B,rfl⟩,T,L,O⟩:=I;have V:∀M,Bk (xu s) (.int k) M=some (.int (s.getD k 0)):=λM=>Ry (by rw[C.ls];exact H)
   have F:∀M,Bk (xu Z) (.int k) M=some (.int (Z.getD k 0)):=λM=>Ry (by rw[N.ls];exact H)
   have X:=C.sm k;have q:=N.sm k;have D:stays (k+1) s=stays k s++[List.range (s.getD k 0)]:=by simp[stays,qd]
   have E:rights (k+1) s Z=rights k s Z++[Tq (List.range (Z.getD k 0)) (s.getD k 0)]:=by simp[rights,qd]
   rw[D,E];generalize s.getD k 0=z at *;generalize Z.getD k 0=z' at *;have ap:=Es (d:=xu (List.range z)) T (by simp[stays];lia);have Y:(M1.set M.length (.lst ((stays k s).map xu++[xu (List.range z)])))[M.length+1]?=some (.lst ((rights k s Z).map xu)):=by rw[mj (h_ (j4 _))];exact L
   have c:Mz.den (PW (m-1)) (Xd (ux K r U) (dq s a) (some (dq Z a')) (sR M.length) (sR (M.length+1)) (sI k)) (M1.set M.length (.lst ((stays k s).map xu++[xu (List.range z)])))=.ok (.vl ((Tq (List.range z') z).map nD)) (M1.set M.length (.lst ((stays k s).map xu++[xu (List.range z)]))):=by unfold Mz;rw[Gb (n:=z') (g:=λi=>nD (i+z)) (by simp[Ol,F]) (a_ q (by decide)) (λi l=>⟨_,rfl,by simp[Ol,V,nD,Int.add_comm]⟩)];simp[Tq]
   have J:=Es (d:=.tup ((Tq (List.range z') z).map nD)) Y (by simp[rights];lia);have y:(Ex.Zu (.ix (.ix (.v 1) (.i 0)) (.v 5))).den (PW (m-1)) (Xd (ux K r U) (dq s a) (some (dq Z a')) (sR M.length) (sR (M.length+1)) (sI k)) M1=.ok (xu (List.range z)) M1:=by
    have:z<=100000:=a_ X (by decide)
    simp[Ol,V,this];rfl
   refine⟨Xd (ux K r U) (dq s a) (some (dq Z a')) (sR M.length) (sR (M.length+1)) (sI k),.next,Xd (ux K r U) (dq s a) (some (dq Z a')) (sR M.length) (sR (M.length+1)) (sI k),(M1.set M.length (.lst ((stays k s).map xu++[xu (List.range z)]))).set (M.length+1) (.lst ((rights k s Z).map xu++[.tup ((Tq (List.range z') z).map nD)])),rfl,by simp[-ad8,-List.map_append,T9,Ep T,y,ap,Ep Y,c,Fq,J],.inl rfl,⟨_,rfl⟩,?_,by rw[qx Y,iu];rfl,λb o R=>?_⟩
   .rw[mj (i_ (j4 _)),qx T,iu];rfl
   .have:=xm R
    rw[mj (by lia),mj (i_ this)];exact O _ _ R)
 obtain⟨M2,E,k2⟩:=agg (m:=m-1) (r:=r) (M:=M') (r_ Q) P C N;have u:qm .tuple [.ref M.length] M2=.ok (rD (stays K s)) M2:=by simp[qm,Lj (j5 (k2 _ _ T)),rD]
 have t2:qm .tuple [.ref (M.length+1)] M2=.ok (rD (rights K s Z)) M2:=by simp[qm,Lj (j5 (k2 _ _ L)),rD]
 refine⟨M2,?_,O.trans k2⟩;have j:(M++[MO.lst []]).length=M.length+1:=by simp
 simp only[wj,zc,yj]at e;simp[Fn.run,Xz,Xy,MW.new,e,E,u,t2];rfl
noncomputable def tR(K:Nat)(f:Nat->List D):D:=.tup ((List.range K).map λk=>.tup (f k))
noncomputable def Ut(n e:Nat)(Y:Y3)(k:Nat):List D:=(List.range (Y.getD k 0)).map (.sy n e k)
def a6r(h:ls.length=K):syM n e ls=tR K (Ut n e ls):=by
 subst h;show D.tup _=D.tup _
 congr 1
 apply t7;intro i
 by_cases h:i<ls.length
 .simp[h,syR,Ut]
 .simp[h]
def bcx(h:k<K):Bk (tR K f) (.int k) M=some (.tup (f k)):=Ip q_ (by simp[h])
def akn(h:Z.length+U.length<=100000):Ey .add (.tup Z) (.tup U) M=.ok (.tup (Z++U)) M:=dj h
def amv(Y:1<=m)(B:K<=3)(G:∀k,(f k).length+(g k).length<=100000):prog.call m 25 [tR K f,tR K g] M=.ok (tR K λk=>f k++g k) M:=by
 rw[call_of Y rfl];have c:Su.den (PW (m-1)) [some (tR K f),some (tR K g)] M=.ok (.vl ((List.range K).map λk=>.tup (f k++g k))) M:=by
  unfold Su;rw[Qx (ds:=Im [(List.range K).map λk=>.tup (f k),(List.range K).map λk=>.tup (g k)] K) (g:=λk=>.tup (f k++g k)) (by simp[ak2,tR]) (by simp[Im];lia) (λi d J=>by
   obtain⟨T,rfl⟩:=zip_get J;exact⟨[some (tR K f),some (tR K g),some (.tup (f i)),some (.tup (g i))],by simp[Tg.put,Gj,T],by simp[akn (G i)]⟩)]
  simp[Im]
 simp[Fn.run,aee,aed,c,Fq];rfl
def a6s(J:K<=3)(T:∀k,(f k).length<=100000)(Y:∀k,∀d∈f k,Smp 1 d):Smp 3 (tR K f):=.tup (by simp;lia) λd G=>by obtain⟨k,_,rfl⟩:=bf.mp G;exact .tup (T k) (Y k)
def ako(w:Kq K Z s a):(Ut n e s k).length<=7:=by have:=w.s7 k;rw[Ut,dm,yh];exact this
def akp:∀d∈Ut n e s k,Smp 1 d:=λd Y=>by obtain⟨x,_,rfl⟩:=bf.mp Y;exact .sy
def ati(Y:2<=m)(J:Vx t f M)(G:M[a]?=some (.lst (Xu a ls n)))(B:t<a)(C:n<6000000):∃d Z,prog.call m 33 [.ref t,.ref a] M=.ok d Z/\St t f M Z/\(d=.non\/n≠0/\∃v,d=syM a v ls):=by
 rw[call_of (a_ (by decide) Y) rfl];have T:qm .len [.ref a] M=.ok (.int n) M:=by rw[len_list (j5 G)];simp[Xu]
 by_cases z:n=0
 .subst z
  exact⟨.non,M,by simp[Fn.run,Pq,Pn,T],St.of J (vz.refl _),.inl rfl⟩
 .obtain⟨v,Z,e,l,s,_⟩:=Dn (m:=m-1) (many:=(n:Int)) (r_ Y) J (by lia) (by lia)
  have O:Bk (.ref a) (.int v) Z=some (syM a v ls):=Ea (j5 (s.keep _ _ (i_ B) G)) q_ (by simp[Xu,o_ l]);exact⟨_,Z,by simp[Fn.run,Pq,Pn,T,z,e,O],s,.inr ⟨z,v,rfl⟩⟩
def akq(B:5<=m)(P:G8 sz K U je)(O:Kq K U s1 a1)(F:Kq K U s2 a2)(G:∃G,Gn K U s1 a1 G)(C:Vx t f M)
 (H:e0.den (PW m) ρ M=.ok (.ref t) M) (W:∀Z,e1.den (PW m) ρ Z=.ok (ux K r U) Z) (A:∀Z,e2.den (PW m) ρ Z=.ok (dq s1 a1) Z) (I:∀Z,e3.den (PW m) ρ Z=.ok (dq s2 a2) Z) :
 ∃d Z,(Ex.call 33 (.p e0 (.call 31 (.q e1 e2 e3)))).den (PW m) ρ M=.ok d Z/\St t f M Z/\(d=.non\/∃a v,d=tR K (Ut a v s1)):=by
 refine hG λ_ _k=>?_
 obtain⟨q,D,n,X,e,Q,R,S,T,N⟩:=azd (m:=m) (r:=r) (M:=M) (a_ (by decide) B) P O F G;have Y:=St.of C S;obtain⟨d,E,V,J,L⟩:=ati (m:=m) (a_ (by decide) B) Y.has Q (b_ (by obtain⟨_,h,_⟩:=C;exact xm h) R) N;apply _k;refine⟨d,E,by simp[H,W,A,I,e,V],Y.trans J,?_⟩;rcases L with rfl|⟨z,v,rfl⟩
 .exact .inl rfl
 .rcases T with y|rfl
  .exact absurd y z
  .exact .inr ⟨_,v,a6r O.ls⟩
abbrev EP(t:Nat)(pt w1 w2 w3:D)(b5 b6 b7 b8:Option D):Env:=[sR t,some pt,some w1,some w2,some w3,b5,b6,b7,b8]
def atj(J:6<=m)(P:G8 sz K Z je)(F:Kq K Z s1 a1)(D:Kq K Z s2 a2)(A:Kq K Z s3 U)(o:∃G,Gn K Z s1 a1 G)(G2:∃G,Gn K Z s2 a2 G)(a:Vx t f M) :
 ∃M',prog.call m 36 [.ref t,ux K r Z,dq s1 a1,dq s2 a2,dq s3 U] M=.ok (.bl true) M'/\St t f M M':=by
 rw[call_of (a_ (by decide) J) rfl];have k3:=P.k3;obtain⟨qq,M',e,_,st⟩:=yo (S:=Gg) (W:=PW (m-1)) (n:=2) (ρ:=EP t (ux K r Z) (dq s1 a1) (dq s2 a2) (dq s3 U) none none none none) (M:=M) (M1:=M) rfl rfl (by decide)
  (λ_ B M'=>(∃V E O Y,B=EP t (ux K r Z) (dq s1 a1) (dq s2 a2) (dq s3 U) V E O Y)/\St t f M M') ⟨⟨none,none,none,none,rfl⟩,St.of a (vz.refl _)⟩
  (λi B M1 hi z=>by
   refine hG λ_ _k=>?_
   obtain⟨⟨V,E,O,Y,rfl⟩,st⟩:=z;obtain⟨d1,M2,L,N,h2⟩:=akq (m:=m-1) (r:=r) (e0:=.v 0) (e1:=.v 1) (e2:=.v 2) (e3:=.v 4) (ρ:=EP t (ux K r Z) (dq s1 a1) (dq s2 a2) (dq s3 U) (sI i) E O Y) (r_ J) P F A o st.has (by simp) (by simp) (by simp) (by simp);obtain⟨j,M3,C,Q,h3⟩:=akq (m:=m-1) (r:=r) (e0:=.v 0) (e1:=.v 1) (e2:=.v 3) (e3:=.v 4) (ρ:=EP t (ux K r Z) (dq s1 a1) (dq s2 a2) (dq s3 U) (sI i) (some d1) O Y) (r_ J) P D A G2 N.has (by simp) (by simp) (by simp) (by simp);have T:=st.trans (N.trans Q);have H:J1 .isn .non .non M3=some false:=rfl;have I:∀f,J1 .isn (tR K f) .non M3=some true:=λ_=>rfl
   apply _k;refine⟨EP t (ux K r Z) (dq s1 a1) (dq s2 a2) (dq s3 U) (sI i) E O Y,.next,?_⟩;rcases h2 with rfl|⟨x,u,rfl⟩
   .exact⟨EP t (ux K r Z) (dq s1 a1) (dq s2 a2) (dq s3 U) (sI i) (some .non) (some j) Y,M3,rfl,by simp[-T3,Cr,L,C,H],.inl rfl,⟨_,_,_,_,rfl⟩,T⟩
   .rcases h3 with rfl|⟨y,v,rfl⟩
    .exact⟨EP t (ux K r Z) (dq s1 a1) (dq s2 a2) (dq s3 U) (sI i) (some (tR K (Ut x u s1))) (some .non) Y,M3,rfl,by simp[-T3,Cr,L,C,H,I],.inl rfl,⟨_,_,_,_,rfl⟩,T⟩
    .have R:∀k,(Ut x u s1 k).length+(Ut y v s2 k).length<=14:=λk=>Nat.add_le_add (ako F) (ako D)
     have b:=amv (m:=m-1) (M:=M3) (f:=Ut x u s1) (g:=Ut y v s2) (r_ (a_ (by decide) J)) k3 λk=>a_ (R k) (by decide)
     have sm:=akk (m:=m-1) (M:=M3) (a6s (f:=λk=>Ut x u s1 k++Ut y v s2 k) k3 (λk=>by rw[jc];exact a_ (R k) (by decide)) λk d l=>(dw.mp l).elim (akp d) (akp d)) (r_ (a_ (by decide) J));have c:Dw.den (PW (m-1)) (EP t (ux K r Z) (dq s1 a1) (dq s2 a2) (dq s3 U) (sI i) (some (tR K (Ut x u s1))) (some (tR K (Ut y v s2))) Y) M3=.ok (.vl ((List.range K).map λk=>.tup (Ut x u s1 k++Ut y v s2 k))) M3:=by unfold Dw;exact Gb (n:=K) (g:=λk=>.tup (Ut x u s1 k++Ut y v s2 k)) (by simp[Oi]) (a_ k3 (by decide)) (λk s=>⟨_,rfl,by simp[bcx s,akn (a_ (R k) (by decide))]⟩)
     have X:qm .tuple [.vl ((List.range K).map λk=>.tup (Ut x u s1 k++Ut y v s2 k))] M3=.ok (tR K λk=>Ut x u s1 k++Ut y v s2 k) M3:=Fq _ _;generalize(tR K λk=>Ut x u s1 k++Ut y v s2 k)=due at *;have q:(Ex.call 34 (.p (.call 25 (.p (.v 6) (.v 7))) (.v 8))).den (PW (m-1)) (EP t (ux K r Z) (dq s1 a1) (dq s2 a2) (dq s3 U) (sI i) (some (tR K (Ut x u s1))) (some (tR K (Ut y v s2))) (some due)) M3=.ok (.bl true) M3:=by simp[b,sm]
     exact⟨EP t (ux K r Z) (dq s1 a1) (dq s2 a2) (dq s3 U) (sI i) (some (tR K (Ut x u s1))) (some (tR K (Ut y v s2))) (some due),M3,rfl,by simp[-T3,Cr,L,C,I,c,X,q],.inl rfl,⟨_,_,_,_,rfl⟩,T⟩)
 exact⟨M',by simp[Fn.run,Hy,Hx,e],st⟩
def akr(M:dz)(a:MO):(M++[a])[M.length]?=some a:=by simp
def Kq.sum(P:G8 sz K Z je)(T:Kq K Z s a)(Y:Kq K Z U a'):Wd K Z (Mp K s U) (Ij Z s a a' Z.length):=by
 have N:=Kq.wd P T;have R:=Kq.wd P Y;refine⟨by simp[Mp],by simp[Ij],λk=>?_,λk=>?_⟩
 .have:=T.s7 k
  have:=Y.s7 k
  by_cases h:k<K
  .rw[Mp,amt h];lia
  .simp[Mp,h]
 .by_cases h:k<Z.length
  .obtain⟨g,G⟩:=Zg h
   obtain⟨C,J,_,L,_⟩:=T.act G;obtain⟨O,B,_,E,_⟩:=Y.act G;have:=T.s7 g.a;have:=Y.s7 g.a;rw[Ij,amu h,Xc J,Xc B,jc,Tq,dm];lia
  .simp[Ij,h]
def atk(K:Nat)(Y:List F):Wd K Y (List.replicate K 0) (List.replicate Y.length []):=by
 refine⟨by simp,by simp,λk=>?_,λk=>?_⟩
 .by_cases h:k<K<;>simp[cz,h]
 .by_cases h:k<Y.length<;>simp[cz,h]
def azg(P:G8 sz K Z je)(J:Wd K Z s a)(G:Wd K Z U a'):Smp 5 (a6p K Z s U a a'):=by
 have k3:=P.k3;have B:=P.len;refine .tup (by show 3<=100000;decide) λd Y=>?_
 rcases dh.mp Y with rfl|Y
 .refine .tup (ds:=[xu (Mp K s U),rD (Ij Z s a a' Z.length)]) (by show 2<=100000;decide) λd Y=>?_
  rcases dh.mp Y with rfl|Y
  .exact akl (by simp[Mp];lia)
  .rw[ie.mp Y]
   refine Zh (by simp[Ij];lia) λl T=>?_
   obtain⟨j,_,rfl⟩:=bf.mp T;have:=J.al j;have:=G.al j;rw[jc,Tq,dm];lia
 .rcases dh.mp Y with rfl|Y
  .refine Zh (by simp[stays];lia) λl T=>?_
   obtain⟨j,_,rfl⟩:=bf.mp T;have:=J.sm j;rw[yh];lia
  .rw[ie.mp Y]
   refine Zh (by simp[rights];lia) λl T=>?_
   obtain⟨j,_,rfl⟩:=bf.mp T;have:=G.sm j;rw[Tq,dm,yh];lia
abbrev EL(sc:D)(t:Nat)(pt:D)(n:Nat)(w1 w2 w3:D)(b7 b8 b9 b10:Option D):Env:=[some sc,sR t,some pt,sR n,some w1,some w2,some w3,b7,b8,b9,b10]
def atl(Y:5<=m)(P:G8 sz K Z je)(L:Made n r' K Z je M)(T:Wd K Z s a)(G:Wd K Z U a') :
 ∃M',abu.den (PW m) (EL sc t (ux K r Z) n x1 x2 x3 b7 b8 (some (dq s a)) (some (dq U a'))) M=.ok (.next,EL sc t (ux K r Z) n x1 x2 x3 b7 b8 (some (dq s a)) (some (dq U a'))) M'/\vz M M':=by
 obtain⟨B,O,N⟩:=a6q (m:=m) (a_ (by decide) Y) P L T G;obtain⟨J,C,k2⟩:=azf (m:=m) (r:=r) (M:=B) (a_ (by decide) Y) P T G;have sm:=akk (m:=m) (M:=J) (azg P T G) Y;exact⟨J,by simp[abu,O,C,sm],N.trans k2⟩
def a6t{m:Nat}{ns:Xs}{M:dz}(N:7<=m):∃M',prog.call m 37 [.fz (ns.map D.int)] M=.ok (.bl true) M':=by
 rw[call_of (a_ (by decide) N) rfl];obtain⟨p,f0,s0,o0⟩:=aoz (m:=m-1) (k:=0) (ns:=ns) (M:=M) (r_ (a_ (by decide) N));have s0:prog.call (m-1) 13 [.fz (ns.map D.int),.int 0] M=_:=s0;have b:Vx M.length f0 (M++[.lst [.int p,.bl f0]]):=⟨p,by simp,o0⟩;obtain⟨K,r,sz,Y,B,M1,e0,z,lr,P,t0⟩:=ahd (m:=m-1) (r_ (a_ (by decide) N)) b;have e0:prog.call (m-1) 17 [.ref M.length] (M++[.lst [.int p,.bl f0]])=.ok (ux K r Y) M1:=e0;have T:r≠M.length:=by have:=lr;simp at this;lia
 have di:qm .dict [.ref r] M1=.ok (.ref M1.length) (M1++[.dT B]):=by show W0 M1 (.ref r)=_;simp[W0,z,P.sm,MW.new]
 have nn:(M1++[.dT B]++[.ins 2 []])[(M1++[MO.dT B]).length]?=some (.ins 2 []):=akr _ _;obtain⟨M2,a0,g,md,la,lb,k0⟩:=avx (M:=M1++[.dT B]++[.ins 2 []]) (m:=m-1) (r:=M1.length) (n:=(M1++[MO.dT B]).length) (r_ (a_ (by decide) N)) P (yx (akr _ _)) nn;have L:vz M1 M2:=λa o h=>k0 a o (by have:=xm h;simp;lia) (yx (yx h))
 have q2:M.length<M1.length:=by obtain⟨k,h,o⟩:=t0.has;exact xm h
 have mk:(Ex.make 2 (.q (.ix (.v 2) (.i 0)) (.ix (.v 2) (.i 1)) (.blt .dict (.o (.ix (.v 2) (.i 2)))))).den (PW (m-1)) [some (.fz (ns.map D.int)),sR M.length,sP K r Y,none,none,none,none,none,none,none,none] M1=.ok (.ref (M1++[MO.dT B]).length) M2:=by have cl:(prog.cls)[2]?=some ⟨0,[(0,2)]⟩:=rfl;generalize j:(M1++[MO.dT B]).length=q at g;simp only[wj]at g;simp[Oi,Jx,a0k,di,cl,<-j]at g⊢;simp[g]
 have nt:(M1++[MO.dT B]).length≠M.length:=by simp;lia
 generalize(M1++[MO.dT B]).length=n at mk md nt;have qv:Vx M.length f0 M2:=by obtain⟨k,h,o⟩:=t0.has;exact⟨k,L _ _ h,o⟩
 have qq:a0≠M.length:=by have:=la;simp at this;lia
 have h3:=P.k3;have l5:=P.len;have m1:2<=m-1:=r_ (a_ (by decide) N)
 obtain⟨G,J,M3,e3,F,G1,y⟩:=Ze (m:=m-1) (r:=r) m1 P qv (L _ _ z) T;obtain⟨C,O,M4,e4,X,G2,s4⟩:=Ze (m:=m-1) (r:=r) m1 P y.has (y.keep _ _ T (L _ _ z)) T;obtain⟨Q,R,M5,e5,l,G3,A⟩:=Ze (m:=m-1) (r:=r) m1 P s4.has (s4.keep _ _ T (y.keep _ _ T (L _ _ z))) T;have V:=y.trans (s4.trans A);have U:Made n a0 K Y B M5:=⟨V.keep _ _ nt md.1,V.keep _ _ qq md.2⟩;have c1:abv.den (PW (m-1)) [some (.fz (ns.map D.int)),sR M.length,sP K r Y,sR n,none,none,none,none,none,none,none] M2=.ok (.vl [dq G J,dq C O,dq Q R]) M5:=by unfold abv;rw[Il];simp[srcOf,Az,Src.len,Eg,Src.item,Src.fin,Tg.put,qd,e3,e4,e5]
 have qk:Ey .mul (.tup [.int 0]) (.int K) M5=.ok (xu (List.replicate K 0)) M5:=by
  have:(0:Int)<=K/\(K:Int)<=100000:=by lia
  simp[Ey,ad2,this,xu,nD]
 have f:Ey .mul (.tup [.tup []]) (.int Y.length) M5=.ok (rD (List.replicate Y.length [])) M5:=by
  have:(0:Int)<=Y.length/\(Y.length:Int)<=100000:=by lia
  simp[Ey,ad2,this,rD,xu]
 obtain⟨M6,e6,k6⟩:=agg (m:=m-1) (r:=r) (M:=M5) (r_ (a_ (by decide) N)) P (Kq.wd P F) (Kq.wd P X);have em:∀M,zy M (.bl true) (.bl true)=some true:=λ_=>rfl
 have c:=Kq.wd P F;have e:=Kq.wd P X;have v3:=Kq.wd P l;have u:=Kq.sum P F X;have v5:=atk K Y;generalize hw:Mp K G C=sw at e6 u;generalize hw':Ij Y G J O Y.length=aw at e6 u;have q0:=St.of A.has k6;obtain⟨q1,M7,e7,⟨Z,E,rfl⟩,I⟩:=Dl (S:=ait) (W:=PW (m-1)) (ρ:=EL (.fz (ns.map D.int)) M.length (ux K r Y) n (dq G J) (dq C O) (dq Q R) (some (dq (List.replicate K 0) (List.replicate Y.length []))) (some (dq sw aw)) none none) (M:=M6) (M1:=M6) rfl
  (d:=.vl ([((G,J),(C,O)),((Q,R),(sw,aw)),((sw,aw),(G,J)),((List.replicate K 0,List.replicate Y.length []),(G,J)),((C,O),(List.replicate K 0,List.replicate Y.length [])),((G,J),(C,O))].map λq=>.tup [dq q.1.1 q.1.2,dq q.2.1 q.2.2])) (by simp) rfl
  (λ_ H M'=>(∃Z E,H=EL (.fz (ns.map D.int)) M.length (ux K r Y) n (dq G J) (dq C O) (dq Q R) (some (dq (List.replicate K 0) (List.replicate Y.length []))) (some (dq sw aw)) Z E)/\vz M6 M') ⟨⟨none,none,rfl⟩,vz.refl _⟩ (λ_ _ _ _=>rfl)
  (λi x H M7 hx hI=>by
   obtain⟨⟨Z,E,rfl⟩,I⟩:=hI;obtain⟨q,j,rfl⟩:=bf.mp (bh hx);have vv:Wd K Y q.1.1 q.1.2/\Wd K Y q.2.1 q.2.2:=by
    simp only[dh,vq,or_false]at j;rcases j with rfl|rfl|rfl|rfl|rfl|rfl
    .exact⟨c,e⟩
    .exact⟨v3,u⟩
    .exact⟨u,c⟩
    .exact⟨v5,c⟩
    .exact⟨e,v5⟩
    .exact⟨c,e⟩
   obtain⟨M8,e8,k8⟩:=atl (m:=m-1) (r:=r) (sc:=.fz (ns.map D.int)) (t:=M.length) (x1:=dq G J) (x2:=dq C O) (x3:=dq Q R) (b7:=some (dq (List.replicate K 0) (List.replicate Y.length []))) (b8:=some (dq sw aw)) (r_ (a_ (by decide) N)) P (U.keep (k6.trans I)) vv.1 vv.2;exact⟨_,.next,_,M8,rfl,e8,.inl rfl,⟨_,_,rfl⟩,I.trans k8⟩)
 have s:=St.of q0.has I;obtain⟨M8,e8,s8⟩:=atj (m:=m-1) (r:=r) (r_ N) P F X l G1 G2 s.has;obtain⟨M9,e9,s9⟩:=atj (m:=m-1) (r:=r) (r_ N) P l l F G3 G3 s8.has;have tu:∀H,(Tg.names [4,5,6]).put (.vl [dq G J,dq C O,dq Q R]) H=some (Gj [4,5,6] [dq G J,dq C O,dq Q R] H):=λ_=>rfl
 have we:D.tup [xu (List.replicate K 0),rD (List.replicate Y.length [])]=dq (List.replicate K 0) (List.replicate Y.length []):=rfl;exact⟨M9,by simp[-ad6,Fn.run,aou,azx,s0,e0,mk,c1,tu,Oi,Jx,K7,qk,f,we,e6,e7,e8,e9]⟩
open PySem L2
open PySem.W
def mid{T:Type}{l r:List T}{x y z:T}(Y:l.length=15)(G:r.length=15)(h:(l++x::(r++[y]))[31]?=some z):z=y:=by rw[ji (by rw[Y];decide),Y]at h;replace h:(r++[y])[15]?=some z:=h;rw[ji (by rw[G];decide),G]at h;cases h;rfl
set_option maxHeartbeats 0 in
def all_mk{l:OpenLaw}{K:Frag}{fs gs:X9}{cs ds:List FuncData}{C G Y:Addr}{S T:FuncData}(N:mg "law"= some (.ref U))
 (R:Ck.Tf K mg tab (G::Y::Y::Y::Y::Y::(fs++Y::(gs++[U]))) tab.cls [none,none,some C] prog.cls) (B:Ck.Y8 mg tab.fns (G::Y::Y::Y::Y::Y::(fs++Y::(gs++[U])))) (A:Ck.af5 K Ds sts (G::Y::Y::Y::Y::Y::(fs++Y::(gs++[U]))) (S::T::T::T::T::T::(cs++T::(ds++[fnOf "law" "law" (Ie (top 42)) (Ft (top 42)) (Bx (top 42)) .none kW dc pm an cd ct])))) (aV:Ck.ar9 mg tab.ax1) (L:Ck.AllB mg Ck.Ql) (M:fs.length=15) (D:gs.length=15) (h3:cs.length=15) (I:ds.length=15) :
 ∃fd:FuncData,(∀(s:Shared)(v:Value),BindsTo s fd ⟨[v],[]⟩ [("script",v)])/\∀Z:Heap,K.In Z->Z.Ns mainGlobals mg->Hs l.prog w K mg Z CX0 170 U fd ["script"] (Ck.aj3 K):=by
 refine⟨fnOf "law" "law" (Ie (top 42)) (Ft (top 42)) (Bx (top 42)) .none kW dc pm an cd ct,λs v=>.of_eq rfl,λZ _ _=>?_⟩;obtain⟨d,a,f,V,O,X,g4,J⟩:=Ck.a5x (P:=l.prog) (w:=w) (base:=Z) (n:=10) (i:=37) (F:=aou) bhl chk bhm bhn bho A B R aV L rfl;cases V;cases mid M D O;cases mid h3 I X;exact J.imp λvs H Q E W=>Ck.ayo (λns hl=>a6t (by decide)) W
end K33
open PySem PySem.W PyProof.Rows
namespace PySem.W.Fast
def tw18092468924584340255:=Nat
def tw4150578858290848561:=Nat
def tw3377009301104472890:=Nat
def tw10034776658554723598:=Nat
def tw8992295036183037669:=Nat
def tw16757385636170035650:=Nat
def tw5422472738558229024:=Nat
def tw7875616585747484605:=Nat
def tw18067914264218823007:=Nat
def tw13607582722047166543:=Nat
def tw2216326939814965173:=Nat
def tw5728905729397192275:=Nat
def tw10170664167952703259:=Nat
def tw16708992325620495:=Nat
def tw9865319005609537560:=Nat
def tw1684773245825930287:=Nat
def tw17611935501619078536:=Nat
def tw3591828776597469922:=Nat
def tw6170544435854815819:=Nat
def tw12213524801693737200:=Nat
def tw1203135059075812106:=Nat
def tw663133786741972088:=Nat
def tw16456138074028421772:=Nat
def tw6044535248887028585:=Nat
def tw4197364338651684937:=Nat
def tw13804120930114494218:=Nat
def tw5028730028097607594:=Nat
def tw9132837576879904099:=Nat
def tw1439828801753956240:=Nat
def tw16225385469779931676:=Nat
def tw17071027189083657280:=Nat
def tw7783886317334429091:=Nat
def tw7156804260387141319:=Nat
def tw2879399398034068432:=Nat
def tw7872213544593816086:=Nat
def tw14274062926652831651:=Nat
def tw13224651162817606102:=Nat
def tw15478141783785503935:=Nat
def tw811581182230781779:=Nat
def tw3705244546857575432:=Nat
def tw2527392536590116555:=Nat
def tw13893442592370266668:=Nat
def tw17417425125131999913:=Nat
def tw13627398324783844995:=Nat
def tw4396233897672400014:=Nat
def tw863808138098871180:=Nat
def tw12160948511450632942:=Nat
def tw1859289977381817908:=Nat
def tw17174096939236079006:=Nat
def tw5194033268682293169:=Nat
def tw15365984408383635416:=Nat
def tw6397300776286982067:=Nat
def tw804580412543498639:=Nat
def tw9602229461125173746:=Nat
def tw16842543111555105418:=Nat
def tw12032647165493350790:=Nat
def tw12356384561126156535:=Nat
def tw9382162358064050377:=Nat
def tw18233160783616016408:=Nat
def tw9908657761703340682:=Nat
def tw2756330656100012742:=Nat
def tw12689477907158671721:=Nat
def tw6067081774964868283:=Nat
def tw40225304756281216:=Nat
def tw2338023574211487134:=Nat
def tw10177111883337016596:=Nat
def tw1021252508600455491:=Nat
def tw6205403670384930986:=Nat
def tw8408882029018027616:=Nat
def tw16908316623592899198:=Nat
def tw12518403789455288275:=Nat
def tw13992360712722630834:=Nat
def tw13398147200969953194:=Nat
def tw1199059614785816987:=Nat
def tw1093076185721618740:=Nat
def tw15063673446586027914:=Nat
def tw13264509507358456187:=Nat
def tw6559018384394878817:=Nat
def tw16416615834457296556:=Nat
def tw1841642987324836719:=Nat
def tw12457882771003818347:=Nat
def tw17292459114891270436:=Nat
def tw1942477644430521180:=Nat
def tw13880844208567113962:=Nat
def tw2080723121878061042:=Nat
def tw4615991072334982690:=Nat
def tw13690155408484075350:=Nat
def tw10065649680197817097:=Nat
def tw2671085283301800734:=Nat
def tw15118322462852156886:=Nat
def tw6002239160294455899:=Nat
def tw12656101553965377002:=Nat
def tw13252524278788381266:=Nat
def tw5723443447958418569:=Nat
def tw16087848461990088298:=Nat
def tw11419272053768175838:=Nat
def tw2490098663276794703:=Nat
def tw7039119742206577370:=Nat
def tw280802539300863022:=Nat
def tw6321022585238198900:=Nat
def tw819444981132722865:=Nat
def tw8007816228884252948:=Nat
def tw15771764442126605039:=Nat
def tw12872344131041453113:=Nat
def tw985509629263708019:=Nat
def tw8538376481078053981:=Nat
def tw2516314780464288787:=Nat
def tw10436123066843599218:=Nat
def tw12010402483900563394:=Nat
def tw14948664915703256611:=Nat
def tw18381572401619293259:=Nat
def tw8410867060018147568:=Nat
def tw3588868360408653950:=Nat
def tw3040468526774352106:=Nat
def tw2940482097909841092:=Nat
def tw5179332169793928689:=Nat
def tw8697457919069444429:=Nat
def tw7884407651033083268:=Nat
def tw7648746447301644126:=Nat
def tw6433042412158942937:=Nat
def tw1047998757079559394:=Nat
def tw18080963813695552618:=Nat
def tw10952640907904436559:=Nat
def tw11903531467207143460:=Nat
def tw10665389079497043082:=Nat
def tw2310094873495134586:=Nat
def tw1595427109810443391:=Nat
def tw16965293018849978158:=Nat
def tw2769739544612241136:=Nat
def tw10617143706009658967:=Nat
def tw370336570589020312:=Nat
def tw14604427463701911363:=Nat
def tw2916374194042699559:=Nat
def tw14930637643350659761:=Nat
def tw5776035625667739001:=Nat
def tw11526072678506662784:=Nat
def tw11307075878318156714:=Nat
def tw9057783820118828543:=Nat
def tw17555425269254356034:=Nat
def tw9388983679738143629:=Nat
def tw11376276614678110483:=Nat
def tw7417447636299501541:=Nat
def tw9200499078451823335:=Nat
def tw9134261907036029095:=Nat
def tw8101522084405062548:=Nat
def tw5279697104779322120:=Nat
def tw2170544589074634552:=Nat
def tw1081649094739402976:=Nat
def tw5061429163313957572:=Nat
def tw9092791570114219903:=Nat
def tw6278038177860128203:=Nat
def tw363504681161988920:=Nat
def tw12049921603841558405:=Nat
def tw18300809207991772865:=Nat
def tw17549102387427376019:=Nat
def tw18205097050789639887:=Nat
def tw13680123251448261897:=Nat
def tw5099520613138243463:=Nat
def tw12454602328542921211:=Nat
def tw11356814026582147882:=Nat
def tw5914524364915319175:=Nat
def tw1488417282184341799:=Nat
def tw4638427601109273197:=Nat
def tw1318387845398883915:=Nat
def tw18437628688118741788:=Nat
def tw11362114305538491274:=Nat
def tw2252132877915920855:=Nat
def tw11741115134966802381:=Nat
def tw4369138561299504306:=Nat
def tw7931031217875082052:=Nat
def tw15005609415929982299:=Nat
def tw17122981481281115799:=Nat
def tw3318414802591321277:=Nat
def tw18023686097622840433:=Nat
def tw12082683619837935100:=Nat
def tw6743519997441227452:=Nat
def tw14559087219929315615:=Nat
def tw3428207843917181333:=Nat
def tw8921346264074441513:=Nat
def tw17266092614596539981:=Nat
def tw18142883958078364147:=Nat
def tw4271073795173924740:=Nat
def tw4196034910514624337:=Nat
def tw3928135571314458994:=Nat
def tw1620815432504621508:=Nat
def tw7917988347272553136:=Nat
end PySem.W.Fast
set_option maxRecDepth 100000 in
set_option maxHeartbeats 0 in
theorem PySem.Challenge.cw_mapwright_k33_sums_holds : PySem.Challenge.rw_mapwright_k33_sums.Holds := by
 w_on;o_law;k_head;(case hw=>w_witness2)
 k_fill
 refine Ck.walk (l:=PySem.Challenge.rw_mapwright_k33_sums) rfl rfl (λw h Y=>PySem.W.kIn_of Y) ?F
 case F =>
  intro w mg fa h KX G hmg;have hl:=mg_of KX G (n :="law") (v:=.ref _) (by k_is);cases hmg.symm.trans hl;exact K33.all_mk (fs:=[_,_,_,_,_,_,_,_,_,_,_,_,_,_,_]) (gs:=[_,_,_,_,_,_,_,_,_,_,_,_,_,_,_]) (cs:=[_,_,_,_,_,_,_,_,_,_,_,_,_,_,_]) (ds:=[_,_,_,_,_,_,_,_,_,_,_,_,_,_,_]) hmg
   (by
    refine Ck.cO (Ck.cO (Ck.cS ⟨mg_of KX G (by k_is),⟨by k_is,by k_is,by k_is,by k_is⟩,⟨_,rfl,⟨by k_is,by k_is,by k_is,by k_is⟩⟩,?_,?_⟩ Ck.cN))
    .repeat (first|exact Ck.mN|refine Ck.mC rfl rfl ⟨by k_is,by k_is,by k_is⟩ ?_)
    .repeat (first|exact Ck.nN|refine Ck.nC (by k_is) ?_))
   (by repeat (first|exact Ck.gN|refine Ck.gO ?_|refine Ck.gS (mg_of KX G (by k_is)) ?_))
   (by dsimp only[K33.Ds,K33.fd];repeat (first|exact Ck.fN|refine Ck.fE ⟨by k_is,by k_is,by k_is⟩ ?_))
   (by repeat (first|exact Ck.vN|refine Ck.vC (mg_of KX G (by k_is)) ?_))
   (by repeat (first|exact Ck.bN|refine Ck.bC (mg_none_of KX G (by k_is)) ?_)) rfl rfl rfl rfl
