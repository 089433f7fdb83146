import PyProof.Rows.All
import Wide.All
import OpenK.AllK
import Wide.FinOn
import Lean
import PyProof.EqAt
import PyProof.EqKinds
import PyProof.TupleCall
import PyProof.Rows.ListMul
import PyProof.NeKinds
import PyProof.SetScanFacts
import PyProof.TupleKey
import PyProof.SetKind
import PyProof.IsRules
import PyProof.Rules
import PyProof.Rows.SetFrom
import PyProof.SetRoads
import KE.KDictOf
import PyProof.Rows.MinMaxN
import PyProof.ListRange
import PyProof.TupleOfGen
import PyProof.EnumMake
import PyProof.ZipIter
import PyProof.Rows.ZipGen
import PyProof.CollectWalk
import PyProof.ForAny
import PyProof.Rows.SortWalk
import PyProof.CollectIter
import PyProof.Rows.SortRuns
import KE.KSortTup
import KE.KDictSum
import PyProof.FactsAll.tuple_2
import PySem.Challenge.RW_mapwright_k31_products
set_option Elab.async false
set_option linter.all false
set_option tactic.hygienic false
set_option genSizeOf false
set_option bootstrap.genMatcherCode false
set_option compiler.extract_closed false
set_option compiler.reuse false
set_option genInjectivity false
set_option maxRecDepth 100000
theorem zE1_2{X:Sort _}{A B:X→Prop}{G:Prop}(h:∃x,A x∧B x)(f:∀x,A x→B x→G):G:=by obtain⟨x,a,b⟩:=h;exact f x a b
theorem zE3_4{X:Sort _}{Y:Sort _}{Z:Sort _}{A B C D:X→Y→Z→Prop}{G:Prop}(h:∃x y z,A x y z∧B x y z∧C x y z∧D x y z)(f:∀x y z,A x y z→B x y z→C x y z→D x y z→G):G:=by obtain⟨x,y,z,a,b,c,d⟩:=h;exact f x y z a b c d
theorem zE1_1{X:Sort _}{A:X→Prop}{G:Prop}(h:∃x,A x)(f:∀x,A x→G):G:=by obtain⟨x,a⟩:=h;exact f x a
theorem zE0_2{A B:Prop}{G:Prop}(h:A∧B)(f:A→B→G):G:=by obtain⟨a,b⟩:=h;exact f a b
theorem zE2_4{X:Sort _}{Y:Sort _}{A B C D:X→Y→Prop}{G:Prop}(h:∃x y,A x y∧B x y∧C x y∧D x y)(f:∀x y,A x y→B x y→C x y→D x y→G):G:=by obtain⟨x,y,a,b,c,d⟩:=h;exact f x y a b c d
theorem zE2_2{X:Sort _}{Y:Sort _}{A B:X→Y→Prop}{G:Prop}(h:∃x y,A x y∧B x y)(f:∀x y,A x y→B x y→G):G:=by obtain⟨x,y,a,b⟩:=h;exact f x y a b
theorem zE1_3{X:Sort _}{A B C:X→Prop}{G:Prop}(h:∃x,A x∧B x∧C x)(f:∀x,A x→B x→C x→G):G:=by obtain⟨x,a,b,c⟩:=h;exact f x a b c
theorem zE2_3{X:Sort _}{Y:Sort _}{A B C:X→Y→Prop}{G:Prop}(h:∃x y,A x y∧B x y∧C x y)(f:∀x y,A x y→B x y→C x y→G):G:=by obtain⟨x,y,a,b,c⟩:=h;exact f x y a b c
theorem zE0_3{A B C:Prop}{G:Prop}(h:A∧B∧C)(f:A→B→C→G):G:=by obtain⟨a,b,c⟩:=h;exact f a b c
theorem zE5_4{X:Sort _}{Y:Sort _}{Z:Sort _}{U:Sort _}{V:Sort _}{A B C D:X→Y→Z→U→V→Prop}{G:Prop}(h:∃x y z u v,A x y z u v∧B x y z u v∧C x y z u v∧D x y z u v)(f:∀x y z u v,A x y z u v→B x y z u v→C x y z u v→D x y z u v→G):G:=by obtain⟨x,y,z,u,v,a,b,c,d⟩:=h;exact f x y z u v a b c d
theorem zE3_3{X:Sort _}{Y:Sort _}{Z:Sort _}{A B C:X→Y→Z→Prop}{G:Prop}(h:∃x y z,A x y z∧B x y z∧C x y z)(f:∀x y z,A x y z→B x y z→C x y z→G):G:=by obtain⟨x,y,z,a,b,c⟩:=h;exact f x y z a b c
theorem zE1_4{X:Sort _}{A B C D:X→Prop}{G:Prop}(h:∃x,A x∧B x∧C x∧D x)(f:∀x,A x→B x→C x→D x→G):G:=by obtain⟨x,a,b,c,d⟩:=h;exact f x a b c d
theorem zE2_1{X:Sort _}{Y:Sort _}{A:X→Y→Prop}{G:Prop}(h:∃x y,A x y)(f:∀x y,A x y→G):G:=by obtain⟨x,y,a⟩:=h;exact f x y a
theorem zE4_6{X:Sort _}{Y:Sort _}{Z:Sort _}{U:Sort _}{A B C D E I:X→Y→Z→U→Prop}{G:Prop}(h:∃x y z u,A x y z u∧B x y z u∧C x y z u∧D x y z u∧E x y z u∧I x y z u)(f:∀x y z u,A x y z u→B x y z u→C x y z u→D x y z u→E x y z u→I x y z u→G):G:=by obtain⟨x,y,z,u,a,b,c,d,e,i⟩:=h;exact f x y z u a b c d e i
theorem zE4_4{X:Sort _}{Y:Sort _}{Z:Sort _}{U:Sort _}{A B C D:X→Y→Z→U→Prop}{G:Prop}(h:∃x y z u,A x y z u∧B x y z u∧C x y z u∧D x y z u)(f:∀x y z u,A x y z u→B x y z u→C x y z u→D x y z u→G):G:=by obtain⟨x,y,z,u,a,b,c,d⟩:=h;exact f x y z u a b c d
theorem zE2_5{X:Sort _}{Y:Sort _}{A B C D E:X→Y→Prop}{G:Prop}(h:∃x y,A x y∧B x y∧C x y∧D x y∧E x y)(f:∀x y,A x y→B x y→C x y→D x y→E x y→G):G:=by obtain⟨x,y,a,b,c,d,e⟩:=h;exact f x y a b c d e
theorem zE5_5{X:Sort _}{Y:Sort _}{Z:Sort _}{U:Sort _}{V:Sort _}{A B C D E:X→Y→Z→U→V→Prop}{G:Prop}(h:∃x y z u v,A x y z u v∧B x y z u v∧C x y z u v∧D x y z u v∧E x y z u v)(f:∀x y z u v,A x y z u v→B x y z u v→C x y z u v→D x y z u v→E x y z u v→G):G:=by obtain⟨x,y,z,u,v,a,b,c,d,e⟩:=h;exact f x y z u v a b c d e
theorem zE4_7{X:Sort _}{Y:Sort _}{Z:Sort _}{U:Sort _}{A B C D E I J:X→Y→Z→U→Prop}{G:Prop}(h:∃x y z u,A x y z u∧B x y z u∧C x y z u∧D x y z u∧E x y z u∧I x y z u∧J x y z u)(f:∀x y z u,A x y z u→B x y z u→C x y z u→D x y z u→E x y z u→I x y z u→J x y z u→G):G:=by obtain⟨x,y,z,u,a,b,c,d,e,i,j⟩:=h;exact f x y z u a b c d e i j
theorem zE0_5{A B C D E:Prop}{G:Prop}(h:A∧B∧C∧D∧E)(f:A→B→C→D→E→G):G:=by obtain⟨a,b,c,d,e⟩:=h;exact f a b c d e
theorem zE4_5{X:Sort _}{Y:Sort _}{Z:Sort _}{U:Sort _}{A B C D E:X→Y→Z→U→Prop}{G:Prop}(h:∃x y z u,A x y z u∧B x y z u∧C x y z u∧D x y z u∧E x y z u)(f:∀x y z u,A x y z u→B x y z u→C x y z u→D x y z u→E x y z u→G):G:=by obtain⟨x,y,z,u,a,b,c,d,e⟩:=h;exact f x y z u a b c d e
theorem zE5_3{X:Sort _}{Y:Sort _}{Z:Sort _}{U:Sort _}{V:Sort _}{A B C:X→Y→Z→U→V→Prop}{G:Prop}(h:∃x y z u v,A x y z u v∧B x y z u v∧C x y z u v)(f:∀x y z u v,A x y z u v→B x y z u v→C x y z u v→G):G:=by obtain⟨x,y,z,u,v,a,b,c⟩:=h;exact f x y z u v a b c
theorem zE0_4{A B C D:Prop}{G:Prop}(h:A∧B∧C∧D)(f:A→B→C→D→G):G:=by obtain⟨a,b,c,d⟩:=h;exact f a b c d
theorem zE0_6{A B C D E I:Prop}{G:Prop}(h:A∧B∧C∧D∧E∧I)(f:A→B→C→D→E→I→G):G:=by obtain⟨a,b,c,d,e,i⟩:=h;exact f a b c d e i
theorem zE6_7{X:Sort _}{Y:Sort _}{Z:Sort _}{U:Sort _}{V:Sort _}{W:Sort _}{A B C D E I J:X→Y→Z→U→V→W→Prop}{G:Prop}(h:∃x y z u v w,A x y z u v w∧B x y z u v w∧C x y z u v w∧D x y z u v w∧E x y z u v w∧I x y z u v w∧J x y z u v w)(f:∀x y z u v w,A x y z u v w→B x y z u v w→C x y z u v w→D x y z u v w→E x y z u v w→I x y z u v w→J x y z u v w→G):G:=by obtain⟨x,y,z,u,v,w,a,b,c,d,e,i,j⟩:=h;exact f x y z u v w a b c d e i j
theorem zE3_6{X:Sort _}{Y:Sort _}{Z:Sort _}{A B C D E I:X→Y→Z→Prop}{G:Prop}(h:∃x y z,A x y z∧B x y z∧C x y z∧D x y z∧E x y z∧I x y z)(f:∀x y z,A x y z→B x y z→C x y z→D x y z→E x y z→I x y z→G):G:=by obtain⟨x,y,z,a,b,c,d,e,i⟩:=h;exact f x y z a b c d e i
theorem zE3_2{X:Sort _}{Y:Sort _}{Z:Sort _}{A B:X→Y→Z→Prop}{G:Prop}(h:∃x y z,A x y z∧B x y z)(f:∀x y z,A x y z→B x y z→G):G:=by obtain⟨x,y,z,a,b⟩:=h;exact f x y z a b
theorem zE1_5{X:Sort _}{A B C D E:X→Prop}{G:Prop}(h:∃x,A x∧B x∧C x∧D x∧E x)(f:∀x,A x→B x→C x→D x→E x→G):G:=by obtain⟨x,a,b,c,d,e⟩:=h;exact f x a b c d e
theorem zE6_5{X:Sort _}{Y:Sort _}{Z:Sort _}{U:Sort _}{V:Sort _}{W:Sort _}{A B C D E:X→Y→Z→U→V→W→Prop}{G:Prop}(h:∃x y z u v w,A x y z u v w∧B x y z u v w∧C x y z u v w∧D x y z u v w∧E x y z u v w)(f:∀x y z u v w,A x y z u v w→B x y z u v w→C x y z u v w→D x y z u v w→E x y z u v w→G):G:=by obtain⟨x,y,z,u,v,w,a,b,c,d,e⟩:=h;exact f x y z u v w a b c d e
open Lean in
local macro_rules|`(tactic|let $p:term:=$e)=>let k s a:=mkNode (`Lean.Parser.Tactic++s) a;let m x:=k `rcasesPatMed #[mkNullNode #[x]];let K (a:Array Syntax):=#[a[1]![0]]++a[1]![2].getSepArgs;do
 let q:=p.raw.rewriteBottomUp λs=>match s with|.ident ..=>k `rcasesPat.one #[s]|.node _ `Lean.Parser.Term.hole _=>k `rcasesPat.ignore #[mkAtom "_"]|.node _ `Lean.Parser.Term.tuple a=>k `rcasesPat.tuple #[mkAtom "⟨",mkNullNode (mkSepArray ((K a).map λx=>k `rcasesPatLo #[m x,mkNullNode]) (mkAtom ",")),mkAtom "⟩"]|_=>s
 let o←`(tactic|obtain $(⟨m q⟩):rcasesPatMed:=$e)
 let c:=K p.raw.getArgs
 let n:=c.size
 if c.any (·.isOfKind `Lean.Parser.Term.tuple) then return o
 let z i:=mkIdent (.mkSimple s!"r_{i}")
 let u:=(Array.range n).filter λi=>c[i]!.getId==`rfl
 let x:Array Term:=(Array.range n).map λi=>⟨if u.contains i then z i else c[i]!⟩
 let U←u.mapM λi=>`(tactic|subst $(z i))
 if u.size>0&&!e.raw.isIdent&&(e.raw.find? λs=>s.isIdent&&x.any (·.raw.getId==s.getId.getRoot)).isSome then return o
 let mut r:=o
 for i in [0:n] do
  let k:=n-1-i
  if [(1,2),(3,4),(1,1),(0,2),(2,4),(2,2),(1,3),(2,3),(0,3),(5,4),(3,3),(1,4),(2,1),(4,6),(4,4),(2,5),(5,5),(4,7),(0,5),(4,5),(5,3),(0,4),(0,6),(6,7),(3,6),(3,2),(1,5),(6,5)].contains (k,n-k) then
   let l:=mkIdent (.mkSimple s!"zE{k}_{n-k}")
   let f←`(λ$x*=>?_)
   let v←if e.raw.isIdent then `(tactic|(revert $(⟨e.raw⟩):ident;refine λr_=>$l r_ $f;clear r_)) else `(tactic|refine $l $e $f)
   let q←`(tactic|($[$(#[v]++U):tactic];*))
   r←`(tactic|first|$q:tactic|$r:tactic)
 return r
local macro_rules|`(($a,$b,*))=>`(⟨$a,$b,*⟩)
local macro_rules|`($a\$b)=>`($a=some $b)
local macro_rules|`(⋯)=>`((by decide))
local macro_rules|`(∅)=>`((by decide+kernel))
set_option hygiene false in
local macro_rules|`(tactic|symm)=>`(tactic|refine hG λ_ _k=>?_)
theorem aU1(_:True:=by first|exact .inl rfl|exact .inr rfl|assumption):True:=trivial
theorem aU2(_:True:=by decide):True:=trivial
theorem aU3(_:True:=by first|exact af2 _ (by decide) (by decide)|rfl):True:=trivial
theorem aU4(_:True:=by intro _;rfl):True:=trivial
theorem aU5(_:True:=by rfl):True:=trivial
theorem aU6(_:True:=by with_unfolding_all rfl):True:=trivial
theorem aU7(_:True:=by (repeat intro _);rfl):True:=trivial
local macro_rules|`(tactic|refine_lift $e)=>`(tactic|refine $e)
abbrev Zl:=List PySem.Value
abbrev Zp:=List (PySem.Addr×PySem.Obj)
abbrev Zs:=PySem.Str->Option PySem.Value
abbrev Y1:=PySem.Value->PySem.Shared->Prop
abbrev Y2:=Option (PySem.Str×Nat)
abbrev Y3:=List Nat
abbrev Ya:=List PySem.Expr
abbrev Yf:=List PySem.Str
abbrev X0:=List (PySem.Str×PySem.NameKind)
abbrev X9:=List PySem.Addr
abbrev Xs:=List Int
abbrev Xt:=List (PySem.Str×PySem.Addr)
abbrev U1:=Array PySem.Value
def j6:=@Array.getElem?_eq_some_iff
def m9:=@Array.getElem?_toList
def u5:=@Array.length_toList
def Bk:=@Array.toList_push
def Bl:=@Array.toList_setIfInBounds
def az:=@Bool.and_eq_true
def Cq:=@Bool.eq_iff_iff
def dq:=@Bool.false_eq_true
def zr:=@Bool.false_ne_true
def Ai:=@Bool.not_false
def rm:=@Bool.not_true
def xj:=@Classical.byContradiction
def Bc:=@Int.emod_lt_of_pos
def Cr:=@Int.emod_nonneg
def z8:=@Int.ofNat_inj
def wz:=@Int.toNat_natCast
def Aj:=@List.Perm.refl
def jg:=@List.all_eq_true
def Ao:=@List.any_eq_true
def w5:=@List.append_assoc
def Cu:=@List.append_nil
def Cv:=@List.cons.injEq
def zg:=@List.cons_append
def zy:=@List.drop_eq_getElem_cons
def q9:=@List.ext_getElem?
def Aq:=@List.filter_cons
def uf:=@List.find?_cons
def xm:=@List.findIdx?_eq_none_iff
def t8:=@List.findIdx?_eq_some_iff_getElem
def bx:=@List.getD_eq_getElem?_getD
def gq:=@List.getElem?_append_left
def jk:=@List.getElem?_append_right
def bw:=@List.getElem?_eq_getElem
def my:=@List.getElem?_eq_none
def ao:=@List.getElem?_eq_some_iff
def ir:=@List.getElem?_map
def u9:=@List.getElem?_range
def v8:=@List.getElem?_set_ne
def Az:=@List.getElem?_set_self
def Aa:=@List.getElem?_zipIdx
def m5:=@List.getElem_mem
def qg:=@List.getElem_of_mem
def uc:=@List.isEmpty_iff
def jw:=@List.length_append
def ie:=@List.length_cons
def Ak:=@List.length_eq_zero_iff
def qy:=@List.length_filter_le
def du:=@List.length_map
def Bo:=@List.length_range
def ye:=@List.length_replicate
def Bs:=@List.length_take_le'
def qp:=@List.lookup_cons
def jc:=@List.map_append
def yz:=@List.map_congr_left
def f9:=@List.map_cons
def Aw:=@List.map_map
def Bu:=@List.map_nil
def dz:=@List.mem_append
def qu:=@List.mem_append_left
def jo:=@List.mem_append_right
def dh:=@List.mem_cons
def bu:=@List.mem_cons_of_mem
def dw:=@List.mem_cons_self
def je:=@List.mem_filter
def Ar:=@List.mem_flatMap
def vg:=@List.mem_iff_getElem?
def bh:=@List.mem_map
def bf:=@List.mem_of_getElem?
def jh:=@List.mem_range
def ig:=@List.mem_singleton
def z6:=@List.nil_append
def Ab:=@List.nodup_append
def ug:=@List.nodup_cons
def m6:=@List.nodup_iff_pairwise_ne
def Bt:=@List.nodup_nil
def yg:=@List.not_mem_nil
def Bf:=@List.of_mem_zip
def zx:=@List.pairwise_cons
def w6:=@List.pairwise_map
def qi:=@List.range_succ
def gw:=@List.size_toArray
def uz:=@List.sum_cons
def yh:=@List.take_length
def Ba:=@List.take_of_length_le
def yp:=@List.take_succ
def Ca:=@Nat.add_le_add_left
def Bg:=@Nat.le_add_left
def zj:=@Nat.le_add_right
def xq:=@Nat.le_of_lt
def Ad:=@Nat.le_of_lt_succ
def bz:=@Nat.le_refl
def v9:=@Nat.le_succ
def gh:=@Nat.le_trans
def o8:=@Nat.lt_irrefl
def Cw:=@Nat.lt_of_le_of_lt
def iu:=@Nat.lt_of_lt_of_le
def Ax:=@Nat.lt_or_ge
def kh:=@Nat.lt_succ_of_lt
def jy:=@Nat.lt_succ_self
def wj:=@Nat.mul_le_mul
def xr:=@Nat.ne_of_gt
def gn:=@Nat.ne_of_lt
def su:=@Nat.not_lt_zero
def Cy:=@Nat.pos_of_ne_zero
def u0:=@Nat.zero_add
def jd:=@Nat.zero_le
def lg:=@Ne.symm
def iw:=@Option.bind_eq_some_iff
def uw:=@Option.bind_some
def zp:=@Option.getD_some
def qx:=@Option.isSome_iff_exists
def dj:=@Option.map_eq_some_iff
def xd:=@Option.map_some
def mj:=@Option.some.inj
def Af:=@Option.some.injEq
def ux:=@PyProof.Rows.F.entry_set_update_loop
def o5:=@PyProof.Rows.F.plain_set_update_loop
def xu:=@PyProof.Rows.callWith_builtin1
def j0:=@PyProof.Rows.callWith_type1
def ak:=@PyProof.Rows.wpS_bind
def iz:=@PyProof.Rows.wpS_forRange
def j4:=@PyProof.Rows.wpS_mono
def aq:=@PyProof.Rows.wpS_pure
def m7:=@PySem.Around.under_plainId
def mz:=@PySem.Calls.spliced_cons
def uh:=@PySem.Calls.spliced_nil
def vq:=@PySem.F.called_set
def za:=@PySem.F.slot_enumerate_next
def wk:=@PySem.F.slot_tuple_iterator_next
def zf:=@PySem.F.slot_tuple_mul
def jz:=@PySem.Heap.SameBut.update
def au:=@PySem.Heap.get?_push_of_some
def dg:=@PySem.Heap.get?_push_size
def vo:=@PySem.Heap.get?_update_other
def ph:=@PySem.Heap.get?_update_self
def cj:=@PySem.Heap.lt_size
def jm:=@PySem.Heap.size_push
def qd:=@PySem.codeAny_builtin
def yj:=@PySem.codeAny_mono
def Am:=@PySem.mem_of_lookup
def ue:=@PySem.sizeLine_eq
def yq:=@PySem.tupleKind_room_in1
def jn:=@PySem.wpAny_Call_Name_kw
def xf:=@PySem.wpAny_attempt
def aa:=@PySem.wpAny_bind
def m8:=@PySem.wpAny_callSpecial?_slot
def jt:=@PySem.wpAny_call_entry
def um:=@PySem.wpAny_dictEntries
def jx:=@PySem.wpAny_field
def qw:=@PySem.wpAny_forIn_list
def ji:=@PySem.wpAny_holding
def o7:=@PySem.wpAny_isInstance
def yf:=@PySem.wpAny_ite_false
def kj:=@PySem.wpAny_mono
def uo:=@PySem.wpAny_newObj_type
def vh:=@PySem.wpAny_passesOwn
def aj:=@PySem.wpAny_pure
def yu:=@PySem.wpAny_pyIter_list
def o6:=@PySem.wpAny_rule
def ur:=@PySem.wpAny_seqItems
def ou:=@PySem.wpAny_setEntries_of
def jr:=@PySem.wpAny_setField_rec
def j8:=@PySem.wpAny_setState_of
def nq:=@PySem.wpAny_truthy_bool
def vy:=@PySem.wpAny_typeOf
def vd:=@beq_eq_false_iff_ne
def Cd:=@beq_iff_eq
def Av:=@beq_self_eq_true
def yw:=@bne_self_eq_false
def t7:=@congrArg
def lz:=@decide_eq_false
def wu:=@decide_eq_true
def gf:=@decide_eq_true_eq
def jq:=@if_false
def cz:=@if_neg
def dm:=@if_pos
def mq:=@if_true
def km:=@of_decide_eq_true
abbrev Fg:=PySem.W.Frag
noncomputable section
namespace Sr
open PySem PyProof.Rows
noncomputable def av1:Bool->Keyed->Array Keyed->Nat->Nat->Nat->StateT SortSt Sem (Option Nat):=sortPriv% PySem.Builtin.gallop
noncomputable def ao5:Array Keyed->Array Keyed->StateT SortSt Sem (Array Keyed):=sortPriv% PySem.Builtin.mergeLo
noncomputable def ao6:Array Keyed->Array Keyed->StateT SortSt Sem (Array Keyed):=sortPriv% PySem.Builtin.mergeHi
noncomputable abbrev setG(sx:SortSt)(g:Nat):SortSt:=SortSt.mk' (kindOf sx) (arrOf sx) (pendingOf sx) g (failedOf sx)
def Sg(T Y:SortSt):Prop:=∃g,Y=setG T g
def Sg.kd(h:Sg sx Z):kindOf Z=kindOf sx:=by let(g,rfl):=h;rfl
def Sg.gal(h:Sg U Z):Sg U (setG Z g):=by let(g,rfl):=h;exact(_,rfl)
def Al(p:Keyed->Prop)(a:Array Keyed):Prop:=∀x,x∈a.toList->p x
section
variable{p:Keyed->Prop}{a b:Array Keyed}
theorem Al.push(h:Al p a)(T:p x):Al p (a.push x):=λy Y=>by
 rw[Bk]at Y;rcases dz.mp Y with z|z
 .exact h y z
 .rw[ig.mp z];exact T
def Al.app(h:Al p a)(g:Al p b):Al p (a++b):=λy Y=>by rw[Array.toList_append]at Y;exact(dz.mp Y).elim (h y) (g y)
def Al.ext(h:Al p a)(i j:Nat):Al p (a.extract i j):=λy Y=>by rw[Array.toList_extract,List.extract_eq_take_drop]at Y;exact h y (List.mem_of_mem_drop (List.mem_of_mem_take Y))
def Al.rev(h:Al p a):Al p a.reverse:=λy Y=>by rw[Array.toList_reverse]at Y;exact h y (List.mem_reverse.mp Y)
def Al.at(h:Al p a)(Y:i<a.size):∃x,a[i]?\x/\p x:=(a[i],Array.getElem?_eq_getElem Y,h _ (by simp))
end
section
variable{prog:Program}{w:World}{A:Around}{E:Y1}{s:Shared}{sx:SortSt}{κ:SortKind}{p:Keyed->Prop}
def z7{M:Model}{Y G:Type}{c:Prop}[Decidable c]{J T:StateT Y Sem G}{Q:G->Y->Prop}{sx:Y}(O:c->wpS M A E s J Q sx)(B:¬c->wpS M A E s T Q sx):wpS M A E s (if c then J else T) Q sx:=by
 by_cases h:c
 .rw[dm h];exact O h
 .rw[cz h];exact B h
def Dh{M:Model}{Y G:Type}{x y:Nat}{J T:StateT Y Sem G}{Q:G->Y->Prop}{sx:Y}(O:x=y->wpS M A E s J Q sx)(B:x≠y->wpS M A E s T Q sx):wpS M A E s (if(x==y)=true then J else T) Q sx:=
 z7 (λh=>O (Cd.mp h)) (λh=>B λz=>h (Cd.mpr z))
def ao8{M:Model}{Y T G:Type}{c:Prop}[Decidable c]{F:G->StateT Y Sem T}{x y:G}{Q:T->Y->Prop}{sx:Y}(h:∀z,wpS M A E s (F z) Q sx):wpS M A E s (if c then F x else F y) Q sx:=z7 (λ_=>h _) λ_=>h _
def aju{M:Model}{Y T G J:Type}{F:G->J->StateT Y Sem T}{m:StateT Y Sem T}{Q:T->Y->Prop}{sx:Y}(P:G->J->Prop)(B:∀x y,P x y->wpS M A E s (F x y) Q sx)(h:(∀x y,P x y->wpS M A E s (F x y) Q sx)->wpS M A E s m Q sx):wpS M A E s m Q sx:=h B
def Rk(prog:Program)(w:World)(A:Around)(s:Shared)(κ:SortKind)(p:Keyed->Prop):Prop:=
 ∀x y (E:Y1) (Q:Bool->Shared->Prop),p x->p y->(∀b,Q b s)->wpAny (model prog w) A (keyLt' κ x.1 y.1) Q E s
def ae6{Q:Option Bool->SortSt->Prop}(K:Rk prog w A s κ p)(G:kindOf sx=κ)(Y:p x)(T:p y)(h:∀b,Q (some b) sx):wpS (model prog w) A E s (lt' x y) Q sx:=by rw[lt'_eq];refine ak (wpS_get ?_);rw[G];exact ak (wpS_lift (xf (K x y _ _ Y T λb=>(rfl,aq (h b)))))
def An{Q:Keyed->SortSt->Prop}(e:arr[i]?\x)(h:Q x sx):wpS (model prog w) A E s (elem' arr i) Q sx:=by rw[elem'_eq,e];exact aq h
def gal{Q:Option Nat->SortSt->Prop}(K:Rk prog w A s κ p)(T:kindOf sx=κ)(B:p key)(R:∀i,i<n->∃x,arr[base+i]?\x/\p x)(P:hint<n)(h:∀k,k<=n->Q (some k) sx) :
 wpS (model prog w) A E s (av1 left key arr base n hint) Q sx:=by
 have C:∀i (Q:Option Bool->SortSt->Prop),i<n->(∀b,Q (some b) sx)->wpS (model prog w) A E s (elem' arr (base+i)>>=λx=>if left=true then lt' x key else lt' key x>>=λo=>pure (o.map λb=>!b)) Q sx:=λi Q G q=>by
  let(x,e,L):=R i G;refine ak (An e ?_);cases left with
  |true=>exact ae6 K T L B q|false=>exact ak (ae6 K T B L λb=>aq (q !b))
 have J:∀N G (Q:Option (Option Nat)×Nat×Nat->SortSt->Prop),G<=n->(∀l k,k<=n->Q (none,l,k) sx)->wpS (model prog w) A E s (forIn [:n] ((none,N,G):Option (Option Nat)×Nat×Nat) (λ_ q=>if q.2.1 >= q.2.2 then pure (.done (none,q.2.1,q.2.2))else do
  let x<-elem' arr (base+(q.2.1+(q.2.2-q.2.1)/2))>>=λx=>if left=true then lt' x key else lt' key x>>=λo=>pure (o.map λb=>!b)
  match x with
  |some m=>if m=true then pure (.yield (none,q.2.1+(q.2.2-q.2.1)/2+1,q.2.2))else pure (.yield (none,q.2.1,q.2.1+(q.2.2-q.2.1)/2))
  | _=>pure (.done (some none,q.2.1,q.2.2)))) Q sx:=λN G Q O h=>by
  refine iz (I:=λ_ (q:Option (Option Nat)×Nat×Nat) Y=>Y=sx/\∃l k,q=(none,l,k)/\k<=n) ?_ (λq Y (e,l,k,e',T)=>by rw[e,e'];exact h l k T) (rfl,N,G,rfl,O);rintro t q Y _ _ ⟨rfl,l,k,rfl,O⟩;refine z7 (λz=>aq (h l k O)) λz=>?_
  have z:¬l >= k:=z;refine ak (C _ _ (by show l+(k-l)/2<n;omega) λb=>?_);cases b with
  |true=>exact aq (rfl,_,_,rfl,O)|false=>exact aq (rfl,_,_,rfl,by show l+(k-l)/2<=n;omega)
 refine ak (C hint _ P λb=>?_);cases b with
 |true =>
  refine ak (j4 (iz (Q:=λq Y=>Y=sx/\q.1=none) (I:=λ_ q Y=>Y=sx/\q.1=none) ?_ (λq Y h=>h) (rfl,rfl)) ?_)
  .rintro t ⟨o,l,k⟩ Y _ _ ⟨rfl,_⟩
   refine z7 (λz=>aq (rfl,rfl)) λz=>?_
   have z:¬k >= n-hint:=z;refine ak (C _ _ (by show hint+k<n;omega) λb=>?_);cases b<;>exact aq (rfl,rfl)
  .rintro⟨o,l,k⟩ Y ⟨rfl,rfl⟩
   exact ak (J _ _ _ (by show hint+min k (n-hint)<=n;omega) λl k T=>aq (h k T))
 |false =>
  refine ak (j4 (iz (Q:=λq Y=>Y=sx/\q.1=none) (I:=λ_ q Y=>Y=sx/\q.1=none) ?_ (λq Y h=>h) (rfl,rfl)) ?_)
  .rintro t ⟨o,l,k⟩ Y _ _ ⟨rfl,_⟩
   refine z7 (λz=>aq (rfl,rfl)) λz=>?_
   refine ak (C _ _ (by show hint-k<n;omega) λb=>?_);cases b<;>exact aq (rfl,rfl)
  .rintro⟨o,l,k⟩ Y ⟨rfl,rfl⟩
   exact ak (J _ _ _ (by show hint-l<=n;omega) λl k T=>aq (h k T))
end
structure Iv(p:Keyed->Prop)(a b:Array Keyed)(t:Nat)(out:Array Keyed)(ia ib:Nat):Prop where
 L:Al p out
 ba:ia+1<a.size
 bb:ib<b.size
 bt:t<ia+ib
def Ps(p:Keyed->Prop)(a b:Array Keyed)(t:Nat)(o:Option (Array Keyed))(out:Array Keyed)(Y T:Nat):Prop:=(∃x,o\x/\Al p x)\/(o=none/\Iv p a b t out Y T)
def Iv.le(h:Iv p a b t out Z ib)(z:u<=t):Iv p a b u out Z ib:=(h.L,h.ba,h.bb,Cw z h.bt)
def Ps.go(h:Iv p a b t out Z ib):Ps p a b t none out Z ib:=.inr (rfl,h)
def Ps.gd(h:Al p x):Ps p a b t (some x) out Z ib:=.inl (x,rfl,h)
section
variable{prog:Program}{w:World}{A:Around}{E:Y1}{s:Shared}{sx:SortSt}{κ:SortKind}{p:Keyed->Prop}{a b:Array Keyed}
def mlo{Q:Array Keyed->SortSt->Prop}(K:Rk prog w A s κ p)(H:kindOf sx=κ)(B:Al p a)(G:Al p b)(h1:0<a.size)(h2:0<b.size)(h:∀Z out,Sg sx Z->Al p out->Q out Z):wpS (model prog w) A E s (ao5 a b) Q sx:=by
 have S0:Sg sx sx:=(gallopOf sx,rfl);refine ak (wpS_lift (o6 (rfl,?_)))
 extract_lets -underBinder total done last
 let(y,ey,hy):=G.at h2;refine ak (An ey ?_);have L0:Al p #[y]:=λx hx=>by rw[ig.mp hx];exact hy
 have D:∀{out T ib},Al p out->Al p (done out T ib):=λL=>(L.app (B.ext _ _)).app (G.ext _ _)
 have M:∀{out T ib},Al p out->Al p (last out T ib):=λL=>(L.app (G.ext _ _)).app (B.ext _ _)
 have ht:total=a.size+b.size:=rfl
 clear_value done last total
 extract_lets -underBinder o0 i0 i1
 refine Dh (λc1=>aq (h _ _ S0 (D L0))) λc1=>Dh (λc2=>aq (h _ _ S0 (M L0))) λc2=>ak (wpS_get ?_)
 refine ak (j4 (iz (Q:=λq Z=>Sg sx Z/\∃o,q.1\o/\Al p o) (I:=λt q Z=>Sg sx Z/\q.1=none/\Iv p a b t q.2.1 q.2.2.1 q.2.2.2.1) ?_ ?_ (S0,rfl,show Iv p a b 0 #[y] 0 1 from(L0,by lia,by lia,by lia))) ?_)
 .intro t q Z _ _ I
  let(S,_,I):=I
  extract_lets -underBinder s1 out s2 T s3 ib mg
  have I:Iv p a b t out T ib:=I
  clear_value out T ib mg
  refine ak (j4 (iz (Q:=λq Y=>Y=Z/\Ps p a b (t+1) q.1 q.2.1 q.2.2.1 q.2.2.2.1) (I:=λu q Y=>Y=Z/\q.1=none/\Iv p a b (t+u) q.2.1 q.2.2.1 q.2.2.2.1) ?_ ?_ (rfl,rfl,I)) ?_)
  .intro u q Z _ hu I
   let(rfl,_,I):=I
   extract_lets -underBinder s1 out s2 T s3 ib s4 ac bc
   have I:Iv p a b (t+u) out T ib:=I
   clear_value out T ib ac bc
   let(L,X,P,b3):=I;let(x,R,C):=G.at P;let(o,W,O):=B.at (i:=T) (by lia);refine ak (An R (ak (An W (ak (ae6 K (S.kd.trans H) C O λ_=>?_)))));refine z7 (λz=>ak (An R ?_)) λz=>ak (An W ?_)
   .exact Dh (λw=>aq (rfl,.gd (D (L.push C)))) λw=>have J:Iv p a b (t+u+1) (out.push x) T (ib+1):=(L.push C,X,by lia,by lia);z7 (λ_=>aq (rfl,.go (J.le (by lia)))) λ_=>aq (rfl,rfl,J)
   .exact Dh (λw=>aq (rfl,.gd (M (L.push O)))) λw=>have J:Iv p a b (t+u+1) (out.push o) (T+1) ib:=(L.push O,by lia,P,by lia);z7 (λ_=>aq (rfl,.go (J.le (by lia)))) λ_=>aq (rfl,rfl,J)
  .intro q Y I
   exact(I.1,.inr (I.2.1,I.2.2.le (by lia)))
  .intro q Z I
   let(o,q):=q;obtain⟨rfl,⟨x,rfl,z⟩|⟨rfl,I⟩⟩:=I
   .exact aq (S,x,rfl,z)
   .extract_lets -underBinder o1 s1 out s2 T s3 ib s4 ac bc
    have I:Iv p a b (t+1) out T ib:=I
    clear_value out T ib ac bc
    refine ak (wpS_lift (o6 (rfl,?_)));refine ak (j4 (iz (Q:=λq Y=>Sg sx Y/\Ps p a b (t+1) q.1 q.2.1 q.2.2.1 q.2.2.2.1) (I:=λu q Y=>Sg sx Y/\q.1=none/\Iv p a b (t+1) q.2.1 q.2.2.1 q.2.2.2.1) ?_ ?_ (S,rfl,I)) ?_)
    .intro u q Z _ hu I
     let(S,_,I):=I
     extract_lets -underBinder s1 out s2 T s3 ib s4 mg s5 ac bc jp
     have I:Iv p a b (t+1) out T ib:=I
     clear_value out T ib mg ac bc
     let(L,X,P,b3):=I;let(x,R,C):=G.at P;refine ao8 (F:=jp ()) λm=>?_
     refine ak (wpS_modify ?_);have H:kindOf (setG Z m)=κ:=S.kd.trans H;have S:Sg sx (setG Z m):=S.gal;refine ak (An R (ak (gal K H C (λi hi=>B.at (by lia)) (by lia) λk d1=>?_)));dsimp -zeta only
     extract_lets -underBinder ac jp2
     refine aju (F:=jp2 ()) (λout V=>Al p out/\T<=V/\V+1<a.size) (λout V J=>?_) λN=>?_
     .let(L1,a1,a2):=J
      let(o,W,O):=B.at (i:=V) (by lia);refine ak (An R ?_)
      extract_lets -underBinder ao9 ib2
      have U:Al p ao9:=L1.push C;have q:ib2=ib+1:=rfl
      clear_value ao9 ib2
      refine Dh (λw=>aq (S,.gd (D U))) λw=>?_
      refine ak (An W (ak (gal K H O (λi hi=>G.at (by lia)) (by lia) λk1 e1=>?_)));dsimp -zeta only
      extract_lets -underBinder bc jp3
      refine aju (F:=jp3 ()) (λout jb=>Al p out/\ib2<=jb/\jb<b.size) (λout jb J=>?_) λN=>?_
      .let(L4,c1,c2):=J
       exact ak (An W (Dh (λw=>aq (S,.gd (M (L4.push O)))) λw=>have J:Iv p a b (t+1) (out.push o) (V+1) jb:=(L4.push O,by lia,c2,by lia);z7 (λ_=>aq (S,.go J)) λ_=>aq (S,rfl,J)))
      .clear_value jp3 bc
       exact z7 (λz=>Dh (λw=>aq (S,.gd (D (U.app (G.ext _ _))))) λw=>N _ _ (U.app (G.ext _ _),by lia,by lia)) λz=>N _ _ (U,bz _,by lia)
     .clear_value jp2 ac
      exact z7 (λz=>Dh (λw=>aq (S,.gd (M (L.app (B.ext _ _))))) λw=>Dh (λw=>aq (S,.gd (D (L.app (B.ext _ _))))) λw=>N _ _ (L.app (B.ext _ _),by lia,by lia)) λz=>N _ _ (L,bz _,X)
    .intro q Y I
     exact(I.1,.inr I.2)
    .intro q Z I
     let(o,q):=q;obtain⟨S,⟨x,rfl,z⟩|⟨rfl,I⟩⟩:=I
     .exact aq (S,x,rfl,z)
     .exact ak (wpS_modify (aq (S.gal,rfl,I)))
 .intro q Z I
  let(_,_,_,X,P,b3):=I
  lia
 .intro q Z I
  let(o,q):=q;let(S,x,rfl,z):=I;exact aq (h _ _ S z)
end
structure Ih(p:Keyed->Prop)(a b:Array Keyed)(t:Nat)(na nb:Nat)(out:Array Keyed):Prop where
 L:Al p out
 ba:0<na
 bb:1<nb
 bt:t+na+nb<a.size+b.size
 sa:na<a.size
 sb:nb<=b.size
def Ph(p:Keyed->Prop)(a b:Array Keyed)(t:Nat)(o:Option (Array Keyed))(Y T:Nat)(out:Array Keyed):Prop:=(∃x,o\x/\Al p x)\/(o=none/\Ih p a b t Y T out)
def Ih.le(h:Ih p a b t na nb out)(z:u<=t):Ih p a b u na nb out:=(h.L,h.ba,h.bb,by have:=h.bt;lia,h.sa,h.sb)
def Ph.go(h:Ih p a b t na nb out):Ph p a b t none na nb out:=.inr (rfl,h)
def Ph.gd(h:Al p x):Ph p a b t (some x) na nb out:=.inl (x,rfl,h)
section
variable{prog:Program}{w:World}{A:Around}{E:Y1}{s:Shared}{sx:SortSt}{κ:SortKind}{p:Keyed->Prop}{a b:Array Keyed}
def mhi{Q:Array Keyed->SortSt->Prop}(K:Rk prog w A s κ p)(V:kindOf sx=κ)(O:Al p a)(N:Al p b)(h1:0<a.size)(h2:0<b.size)(h:∀Z out,Sg sx Z->Al p out->Q out Z):wpS (model prog w) A E s (ao6 a b) Q sx:=by
 have S0:Sg sx sx:=(gallopOf sx,rfl);refine ak (wpS_lift (o6 (rfl,?_)))
 extract_lets -underBinder total done first Y T
 let(x,ex,hx):=O.at (i:=a.size-1) (by lia);refine ak (An ex ?_);have L0:Al p #[x]:=λy hy=>by rw[ig.mp hy];exact hx
 have D:∀{out Y T},Al p out->Al p (done out Y T):=λL=>((O.ext _ _).app (N.ext _ _)).app L.rev
 have F:∀{out Y T},Al p out->Al p (first out Y T):=λL=>((N.ext _ _).app (O.ext _ _)).app L.rev
 have ht:total=a.size+b.size:=rfl;have qa:Y=a.size-1:=rfl;have qb:T=b.size:=rfl
 clear_value done first total Y T
 extract_lets -underBinder o0
 refine Dh (λc1=>aq (h _ _ S0 (D L0))) λc1=>Dh (λc2=>aq (h _ _ S0 (F L0))) λc2=>ak (wpS_get ?_)
 refine ak (j4 (iz (Q:=λq Z=>Sg sx Z/\∃o,q.1\o/\Al p o) (I:=λt q Z=>Sg sx Z/\q.1=none/\Ih p a b t q.2.1 q.2.2.1 q.2.2.2.1) ?_ ?_ (S0,rfl,show Ih p a b 0 Y T #[x]from(L0,by lia,by lia,by lia,by lia,by lia))) ?_)
 .intro t q Z _ _ I
  let(S,_,I):=I
  extract_lets -underBinder s1 Y s2 T s3 out mg ac bc
  have I:Ih p a b t Y T out:=I
  clear_value out Y T mg
  refine ak (j4 (iz (Q:=λq G=>G=Z/\Ph p a b (t+1) q.1 q.2.1 q.2.2.1 q.2.2.2.1) (I:=λu q G=>G=Z/\q.1=none/\Ih p a b (t+u) q.2.1 q.2.2.1 q.2.2.2.1) ?_ ?_ (rfl,rfl,I)) ?_)
  .intro u q Z _ hu I
   let(rfl,_,I):=I
   extract_lets -underBinder s1 Y s2 T s3 out s4 ac bc
   have I:Ih p a b (t+u) Y T out:=I
   clear_value out Y T ac bc
   let(L,U,b2,b3,b4,b5):=I;obtain⟨n,rfl⟩:∃n,Y=n+1:=(Y-1,by lia);obtain⟨m,rfl⟩:∃m,T=m+1:=(T-1,by lia);let(x,H,P):=N.at (i:=m) (by lia);let(o,M,C):=O.at (i:=n) (by lia);refine ak (An H (ak (An M (ak (ae6 K (S.kd.trans V) P C λ_=>?_)))));refine z7 (λz=>ak (An M ?_)) λz=>ak (An H ?_)
   .exact Dh (λw=>aq (rfl,.gd (D (L.push C)))) λw=>have J:Ih p a b (t+u+1) n (m+1) (out.push o):=(L.push C,Cy w,b2,by lia,by lia,b5);z7 (λ_=>aq (rfl,.go (J.le (by lia)))) λ_=>aq (rfl,rfl,J)
   .exact Dh (λw=>aq (rfl,.gd (F (L.push P)))) λw=>have w:m≠1:=w;have J:Ih p a b (t+u+1) (n+1) m (out.push x):=(L.push P,U,by lia,by lia,b4,by lia);z7 (λ_=>aq (rfl,.go (J.le (by lia)))) λ_=>aq (rfl,rfl,J)
  .intro q G I
   exact(I.1,.inr (I.2.1,I.2.2.le (by lia)))
  .intro q Z I
   let(o,q):=q;obtain⟨rfl,⟨x,rfl,z⟩|⟨rfl,I⟩⟩:=I
   .exact aq (S,x,rfl,z)
   .extract_lets -underBinder o1 s1 Y s2 T s3 out s4 ac bc
    have I:Ih p a b (t+1) Y T out:=I
    clear_value out Y T ac bc
    refine ak (wpS_lift (o6 (rfl,?_)));refine ak (j4 (iz (Q:=λq G=>Sg sx G/\Ph p a b (t+1) q.1 q.2.1 q.2.2.1 q.2.2.2.1) (I:=λu q G=>Sg sx G/\q.1=none/\Ih p a b (t+1) q.2.1 q.2.2.1 q.2.2.2.1) ?_ ?_ (S,rfl,I)) ?_)
    .intro u q Z _ hu I
     let(S,_,I):=I
     extract_lets -underBinder s1 Y s2 T s3 out s4 mg s5 ac bc jp
     have I:Ih p a b (t+1) Y T out:=I
     clear_value out Y T mg ac bc
     let(L,U,b2,b3,b4,b5):=I;obtain⟨m,rfl⟩:∃m,T=m+1:=(T-1,by lia);let(x,H,P):=N.at (i:=m) (by lia);refine ao8 (F:=jp ()) λg=>?_
     refine ak (wpS_modify ?_);have V:kindOf (setG Z g)=κ:=S.kd.trans V;have S:Sg sx (setG Z g):=S.gal;refine ak (An H (ak (gal K V P (λi hi=>O.at (by lia)) (by lia) λk d1=>?_)));dsimp -zeta only
     extract_lets -underBinder k' ac jp2
     have qk:k'=Y-k:=rfl;refine aju (F:=jp2 ()) (λW out=>Al p out/\W<=Y/\0<W) (λW out J=>?_) λR=>?_
     .let(L1,a1,a2):=J
      obtain⟨n,rfl⟩:∃n,W=n+1:=(W-1,by lia);let(o,M,C):=O.at (i:=n) (by lia);refine ak (An H ?_)
      extract_lets -underBinder ao9
      have L3:Al p ao9:=L1.push P
      clear_value ao9
      refine Dh (λw=>aq (S,.gd (F L3))) λw=>?_
      have w:m≠1:=w;refine ak (An M (ak (gal (n:=m) K V C (λi hi=>N.at (by lia)) (show m-1<m by lia) λk1 e1=>?_)));dsimp -zeta only
      extract_lets -underBinder k2 bc jp3
      have qk:k2=m-k1:=rfl;refine aju (F:=jp3 ()) (λX out=>Al p out/\X<=m/\1<X) (λX out J=>?_) λR=>?_
      .let(B,c1,c2):=J
       exact ak (An M (Dh (λw=>aq (S,.gd (D (B.push C)))) λw=>have J:Ih p a b (t+1) n X (out.push o):=(B.push C,Cy w,c2,by lia,by lia,by lia);z7 (λ_=>aq (S,.go J)) λ_=>aq (S,rfl,J)))
      .clear_value jp3 bc k2
       have B:=L3.app (N.ext k1 m).rev;exact z7 (λz=>Dh (λw=>aq (S,.gd (F B))) λw=>Dh (λv=>aq (S,.gd (D B))) λv=>have w:k1≠1:=w;have v:k1≠0:=v;R _ _ (B,e1,by lia)) λz=>R _ _ (L3,bz _,by lia)
     .clear_value jp2 ac k'
      have B:=L.app (O.ext k Y).rev;exact z7 (λz=>Dh (λw=>aq (S,.gd (D B))) λw=>R _ _ (B,d1,Cy w)) λz=>R _ _ (L,bz _,U)
    .intro q G I
     exact(I.1,.inr I.2)
    .intro q Z I
     let(o,q):=q;obtain⟨S,⟨x,rfl,z⟩|⟨rfl,I⟩⟩:=I
     .exact aq (S,x,rfl,z)
     .exact ak (wpS_modify (aq (S.gal,rfl,I)))
 .intro q Z I
  let(_,_,_,U,b2,b3,_):=I
  lia
 .intro q Z I
  let(o,q):=q;let(S,x,rfl,z):=I;exact aq (h _ _ S z)
end
structure Cg(p:Keyed->Prop)(st0 sx:SortSt):Prop where
 eq:sx=setArr st0 (arrOf sx)
 al:Al p (arrOf sx)
 sz:(arrOf sx).size=(arrOf st0).size
def Cg.kd(h:Cg p st0 Z):kindOf Z=kindOf st0:=by rw[h.eq]
def Cg.ar(h:Cg p st0 Z)(Y:U.Perm (arrOf Z)):Cg p st0 (setArr Z U):=(by rw[h.eq],λx T=>h.al x ((Array.perm_iff_toList_perm.mp Y).mem_iff.mp T),Y.size_eq.trans h.sz)
def Cg.mir(h:Cg p st0 Z):Cg p st0 (setArr Z (mirror (arrOf Z) i j k)):=h.ar (mirror_perm _ _ _ _)
section
variable{prog:Program}{w:World}{A:Around}{E:Y1}{s:Shared}{st0 sx:SortSt}{κ:SortKind}{p:Keyed->Prop}
def ltA{Q:Option Bool->SortSt->Prop}(K:Rk prog w A s κ p)(G:kindOf st0=κ)(C:Cg p st0 sx)(B:i<(arrOf st0).size)(J:j<(arrOf st0).size)(h:∀b,Q (some b) sx):wpS (model prog w) A E s (ltAt' i j) Q sx:=by let(x,Y,O):=C.al.at (i:=i) (by rw[C.sz];exact B);let(y,N,T):=C.al.at (i:=j) (by rw[C.sz];exact J);rw[ltAt'_eq];exact ak (wpS_get (ak (An Y (ak (An N (ae6 K (C.kd.trans G) O T h))))))
def asc{Q:Option (Option Nat)×Nat->SortSt->Prop}(K:Rk prog w A s κ p)(J:kindOf st0=κ)(C:Cg p st0 sx)(B:1<=a)(T:a<=nrem)(N:Z+nrem<=(arrOf st0).size)(h:∀n,a<=n->n<=nrem->Q (none,n) sx) :
 wpS (model prog w) A E s (forIn [a:nrem] ((none,a):Option (Option Nat)×Nat) λ_ q=>do
  let x<-ltAt' (Z+q.2) (Z+q.2-1)
  match x with
  |some z=>if z=true then pure (.done (none,q.2))else pure (.yield (none,q.2+1))
  | _=>pure (.done (some none,q.2))) Q sx:=by
 refine iz (I:=λt q Y=>Y=sx/\q=(none,t)) ?_ ?_ (rfl,rfl)
 .rintro t q Y G O ⟨rfl,rfl⟩
  exact ak (ltA K J C (by show Z+t<_;lia) (by show Z+t-1<_;lia) λ_=>z7 (λz=>aq (h t G (by lia))) λz=>aq (rfl,rfl))
 .rintro q Y ⟨rfl,rfl⟩
  rw[show max a nrem=nrem by lia];exact h nrem T (bz _)
def bfv{Q:Option Nat->SortSt->Prop}(K:Rk prog w A s κ p)(B:kindOf st0=κ)(Y:Cg p st0 st0)(W:1<=nrem)(V:Z+nrem<=(arrOf st0).size)
 (h:∀m sx,Cg p st0 sx->1<=m->m<=nrem->Q (some m) sx):wpS (model prog w) A E s (countRun' Z nrem) Q st0:=by
 refine ak (asc K B Y (bz 1) W V λn H S=>?_);refine Dh (λv=>aq (h n _ Y H S)) λv=>?_
 have v:n≠nrem:=v
 extract_lets -underBinder jp
 have G:∀sx,Cg p st0 sx->wpS (model prog w) A E s (jp ()) Q sx:=λsx C=>by
  refine ak (wpS_lift (o6 (rfl,?_)));refine ak (j4 (iz (Q:=λq sx=>q.1=none/\Cg p st0 sx/\n+1<=q.2.1/\q.2.1<=nrem) (I:=λt q sx=>q.1=none/\q.2.1=t/\Cg p st0 sx) ?_ ?_ (rfl,rfl,C)) ?_)
  .rintro t ⟨N,x,O⟩ sx b1 b2 ⟨_,T,C⟩
   have T:x=t:=T;subst T;refine ak (ltA K B C (by show Z+x<_;lia) (by show Z+x-1<_;lia) λ_=>z7 (λz=>?_) λz=>?_)
   .exact z7 (λy=>ak (wpS_reverse (aq (rfl,rfl,C.mir)))) λy=>aq (rfl,rfl,C)
   .exact ak (ltA K B C (by show Z+x-1<_;lia) (by show Z+x<_;lia) λ_=>z7 (λy=>aq (rfl,C,b1,by show x<=_;lia)) λy=>aq (rfl,rfl,C))
  .rintro⟨N,x,O⟩ sx ⟨J,T,C⟩
   have T:x=max (n+1) nrem:=T;exact(J,C,by show _<=x;lia,by show x<=_;lia)
  .rintro⟨N,x,O⟩ sx ⟨J,C,P,L⟩
   have J:N=none:=J;subst J;have P:n+1<=x:=P
   have L:x<=nrem:=L
   extract_lets -underBinder o1 s1 x' bml
   have F:o1=none:=rfl
   clear_value o1
   subst F;dsimp -zeta only
   extract_lets -underBinder jp2
   have G:∀sx,Cg p st0 sx->wpS (model prog w) A E s (jp2 ()) Q sx:=λsx C=>by exact ak (wpS_reverse (ak (asc K B C.mir (show 1<=x by lia) L V λm R M=>aq (h m _ C.mir (by have R:x<=m:=R;lia) M))))
   exact z7 (λy=>ak (wpS_reverse (G _ C.mir))) λy=>G _ C
 clear_value jp
 exact z7 (λg=>ak (ltA K B Y (by show Z<_;lia) (by show Z+n-1<_;lia) λ_=>z7 (λz=>aq (h n _ Y H S)) λz=>ak (wpS_reverse (G _ Y.mir)))) λg=>G _ Y
def bfw{Q:Bool->SortSt->Prop}(K:Rk prog w A s κ p)(J:kindOf st0=κ)(C:Cg p st0 sx)(N:Z+n<=(arrOf st0).size)(h:∀sx,Cg p st0 sx->Q true sx):wpS (model prog w) A E s (binarySort' Z n ok) Q sx:=by
 refine ak (j4 (iz (I:=λt q sx=>q.1=none/\Cg p st0 sx) (Q:=λq sx=>q.1=none/\Cg p st0 sx) ?_ (λq sx h=>h) (rfl,C)) ?_)
 .rintro k q sx O B ⟨_,C⟩
  refine ak (j4 (iz (I:=λt q Y=>Y=sx/\q.1=none/\q.2.2<=k) (Q:=λq Y=>Y=sx/\q.1=none) ?_ (λq sx h=>(h.1,h.2.1)) (rfl,rfl,bz _)) ?_)
  .rintro t ⟨o,l,q⟩ Y _ b3 ⟨rfl,T,G⟩
   have G:q<=k:=G
   refine z7 (λz=>aq (rfl,rfl)) λz=>?_
   have z:¬l >= q:=z;exact ak (ltA K J C (by show Z+k<_;lia) (by show Z+(l+q)/2<_;lia) λ_=>z7 (λy=>aq (rfl,rfl,by show(l+q)/2<=k;lia)) λy=>aq (rfl,rfl,G))
  .rintro⟨o,l,q⟩ Y ⟨rfl,T⟩
   have T:o=none:=T;subst T;show wpS _ _ _ _ (moveDown' (Z+k) (Z+l)>>=λ_=>pure (ForInStep.yield (Prod.mk none ()))) _ _;rw[moveDown'_eq];exact ak (wpS_modify (aq (rfl,C.ar (bubble_perm _ _ _))))
 .rintro⟨o,q⟩ sx ⟨T,C⟩
  have T:o=none:=T;subst T;exact aq (h sx C)
end
inductive Rn:Nat->Nat->List (Nat×Nat)->Prop
 |nil:Rn s s []
 |cons:0<l->Rn (s+l) e q->Rn s e ((s,l)::q)
def Rn.le(h:Rn s e q):s<=e:=by
 induction h with
 |nil=>exact bz _|cons _ _ Y=>lia
def Rn.snoc(h:Rn s e q)(T:0<l):Rn s (e+l) (q++[(e,l)]):=by
 induction h with
 |nil=>exact .cons T .nil|cons z _ Y=>exact .cons z Y
def Rn.cut{Y:List (Nat×Nat)}(h:Rn s e (Y++(a,l)::(b,m)::Z)):b=a+l/\0<l/\0<m/\b+m<=e/\Rn s e (Y++(a,l+m)::Z):=by
 induction Y generalizing s with
 |nil=>cases h with
  |cons z t=>cases t with
   |cons y t=>exact(rfl,z,y,t.le,.cons (by lia) (by rw[<-Nat.add_assoc];exact t))
 |cons x Y J=>cases h with
  |cons z t=>let(B,G,T,O,C):=J t;exact(B,G,T,O,.cons z C)
noncomputable def pr(q:List (Nat×Nat×Nat)):List (Nat×Nat):=q.map λq=>(q.1,q.2.1)
structure Gw(κ:SortKind)(p:Keyed->Prop)(N:Nat)(l0:Nat)(sx:SortSt):Prop where
 kd:kindOf sx=κ
 fl:failedOf sx=none
 al:Al p (arrOf sx)
 sz:(arrOf sx).size=N
 ru:Rn 0 l0 (pr (pendingOf sx).toList)
 le:l0<=N
def a2z{l:List (Keyed×Nat)}(G:∀q∈l,p q.1)(T:Al p Z):Al p (l.foldl (λa (q:Keyed×Nat)=>a.setIfInBounds (c+q.2) q.1) Z)/\(l.foldl (λa (q:Keyed×Nat)=>a.setIfInBounds (c+q.2) q.1) Z).size=Z.size:=by
 induction l generalizing Z with
 |nil=>exact(T,rfl)
 |cons q l J =>
  have:=J (λx Y=>G x (bu _ Y)) (show Al p (Z.setIfInBounds (c+q.2) q.1)from λx Y=>by
   rw[Bl]at Y;rcases List.mem_or_eq_of_mem_set Y with z|z
   .exact T x z
   .rw[z];exact G q (by simp))
  rw[Array.size_setIfInBounds]at this;exact this
def av2{M:Model}{A:Around}{E:Y1}{s:Shared}{Y:Type}{x:Y}{Q:PUnit->Y->Prop}{sx:Y}(h:Q ⟨⟩ x):wpS M A E s (set x:StateT Y Sem PUnit) Q sx:=by unfold wpS;rw[StateT.run_set];exact aj (rfl,h)
section
variable{prog:Program}{w:World}{A:Around}{E:Y1}{s:Shared}{sx:SortSt}{κ:SortKind}{p:Keyed->Prop}
def mag{Q:Bool->SortSt->Prop}(K:Rk prog w A s κ p)(G:Gw κ p N Z sx)(I:i+1<(pendingOf sx).size)(h:∀st',Gw κ p N Z st'->Q true st'):wpS (model prog w) A E s (mergeAt' i) Q sx:=by
 let(kd,U,al,sz,P,le):=G;obtain⟨T,⟨sa,J,O⟩,⟨sb,B,pv⟩,p2,C,rfl⟩:∃T W F p2,(pendingOf sx).toList=T++W::F::p2/\T.length=i:=by
  have V:i<(pendingOf sx).toList.length:=by simp;lia
  have H:i+1<(pendingOf sx).toList.length:=by simp;lia
  exact((pendingOf sx).toList.take i,_,_,(pendingOf sx).toList.drop (i+2),by rw[<-zy H,<-zy V,List.take_append_drop],by rw[List.length_take];lia)
 have e1:(pendingOf sx)[T.length]?\(sa,J,O):=by rw[<-m9,C];simp
 have e2:(pendingOf sx)[T.length+1]?\(sb,B,pv):=by rw[<-m9,C];simp
 rw[C,pr,jc]at P;let(rfl,n1,n2,n3,P):=Rn.cut (a:=sa) (l:=J) (b:=sb) (m:=B) P;have R:(((pendingOf sx).setIfInBounds T.length (sa,J+B,O)).eraseIdxIfInBounds (T.length+1)).toList=T++(sa,J+B,O)::p2:=by rw[Array.toList_eraseIdxIfInBounds,Bl,C];simp[List.eraseIdx_append_of_length_le]
 have fin:∀g (L:Array Keyed),Al p L->L.size=N->Q true (SortSt.mk' (kindOf sx) L (((pendingOf sx).setIfInBounds T.length (sa,J+B,O)).eraseIdxIfInBounds (T.length+1)) g (failedOf sx)):=λg L V H=>h _ (kd,U,V,H,by
  show Rn 0 Z (pr (((pendingOf sx).setIfInBounds T.length (sa,J+B,O)).eraseIdxIfInBounds (T.length+1)).toList);rw[R,pr,jc];exact P,le)
 refine ak (wpS_get ?_);rw[e1,e2];refine ak (av2 ?_);let(x,ex,hx):=al.at (i:=sa+J) (by lia);refine ak (An ex (ak (gal K kd hx (λi I=>al.at (by lia)) n1 λk d1=>?_)));refine Dh (λz=>aq (fin _ _ al sz)) λz=>?_
 have z:J-k≠0:=z;let(y,ey,hy):=al.at (i:=sa+k+(J-k)-1) (by lia);refine ak (An ey (ak (gal K kd hy (λi I=>al.at (by lia)) (show B-1<B by lia) λk2 d2=>?_)));refine Dh (λy=>aq (fin _ _ al sz)) λy=>?_
 have y:k2≠0:=y
 extract_lets -underBinder X Y jp
 have aX:Al p X:=al.ext _ _;have D:Al p Y:=al.ext _ _;have zX:0<X.size:=by show 0<((arrOf sx).extract (sa+k) (sa+J)).size;rw[Array.size_extract];lia
 have zY:0<Y.size:=by show 0<((arrOf sx).extract (sa+J) (sa+J+k2)).size;rw[Array.size_extract];lia
 have M:∀st' o,Sg (setPending sx (((pendingOf sx).setIfInBounds T.length (sa,J+B,O)).eraseIdxIfInBounds (T.length+1))) st'->Al p o->wpS (model prog w) A E s (jp o) Q st':=λst' o S G=>by let(g,rfl):=S;refine ak (wpS_modify (ak (wpS_get ?_)));show wpS _ _ _ _ (pure (failedOf sx).isNone) Q _;rw[U];let(W,F):=a2z (c:=sa+k) (l:=o.toList.zipIdx) (λq hq=>G _ (List.fst_mem_of_mem_zipIdx hq)) al;exact aq (fin g _ W (F.trans sz))
 clear_value jp X Y
 exact z7 (λ_=>ak (mlo K kd aX D zX zY M)) λ_=>ak (mhi K kd aX D zX zY M)
def a1e{M:Model}{Y T G:Type}{F:G->StateT Y Sem T}{m:StateT Y Sem T}{Q:T->Y->Prop}{sx:Y}(P:G->Y->Prop)(J:∀x sx,P x sx->wpS M A E s (F x) Q sx)(h:(∀x sx,P x sx->wpS M A E s (F x) Q sx)->wpS M A E s m Q sx):wpS M A E s m Q sx:=h J
def sru{st0:SortSt}{Q:Unit->SortSt->Prop}(K:Rk prog w A s κ p)(P:Gw κ p N 0 st0)(h:∀sx l0,Gw κ p N l0 sx->Q () sx):wpS (model prog w) A E s sortRuns' Q st0:=by
 refine ak (wpS_get ?_)
 extract_lets -underBinder size minrun l0
 have M:size=N:=P.sz
 clear_value size minrun
 refine ak (j4 (iz (Q:=λq sx=>q.1=none/\Gw κ p N q.2 sx) (I:=λ_ q sx=>q.1=none/\Gw κ p N q.2 sx) ?_ (λq sx h=>h) (rfl,P)) ?_)
 .rintro t ⟨o,l0⟩ sx _ Y ⟨_,G⟩
  have G:Gw κ p N l0 sx:=G;refine z7 (λz=>aq (rfl,G)) λz=>?_
  have z:¬l0 >= size:=z;have sz:=G.sz;refine ak (bfv K G.kd (rfl,G.al,rfl) (by show 1<=size-l0;lia) (by show l0+(size-l0)<=_;lia) λm H S V B=>?_);have B:m<=size-l0:=B
  dsimp -zeta only
  extract_lets -underBinder n jp
  refine a1e (F:=jp ()) (λn st2=>Cg p sx st2/\1<=n/\n<=size-l0) (λn st2 J=>?_) λT=>?_
  .let(C,W,Z):=J
   have G:Gw κ p N l0 st2:=(C.kd.trans G.kd,by rw[C.eq];exact G.fl,C.al,C.sz.trans sz,by rw[C.eq];exact G.ru,G.le);refine ak (wpS_get ?_)
   extract_lets -underBinder jp2
   refine a1e (F:=jp2) (λ_ sx=>Gw κ p N l0 sx) (λ_ sx G=>?_) λT=>?_
   .refine ak (wpS_modify (aq (rfl,G.kd,G.fl,G.al,G.sz,?_,by show l0+n<=N;lia)))
    show Rn 0 (l0+n) (pr ((pendingOf sx).push (l0,n,0)).toList);rw[Bk,pr,jc];exact G.ru.snoc W
   .clear_value jp2
    cases hb:(pendingOf st2).back? with
    |none=>exact T () st2 G
    |some q =>
     let(D,X,x):=q;refine ak (j4 (iz (I:=λt q sx=>q.1=none/\Gw κ p N l0 sx) (Q:=λq sx=>q.1=none/\Gw κ p N l0 sx) ?_ (λq sx G=>G) (rfl,G)) ?_)
     .rintro t ⟨o,q⟩ sx _ _ ⟨_,G⟩
      refine ak (wpS_get ?_);dsimp only;split
      .rename_i _ _ _ _ R
       have c:(pendingOf sx).size > 1:=by
        by_cases c:(pendingOf sx).size > 1
        .exact c
        .rw[cz c]at R;cases R
       refine z7 (λ_=>aq (rfl,G)) λ_=>ak (mag K G (show(pendingOf sx).size-2+1<(pendingOf sx).size by lia) λO L=>?_)
       rw[cz (by simp)];exact aq (rfl,L)
      .exact aq (rfl,G)
     .rintro⟨o,q⟩ sx ⟨b,G⟩
      have b:o=none:=b;subst b;refine ak (wpS_modify (T _ _ (G.kd,G.fl,G.al,G.sz,?_,G.le)));refine cast (t7 (Rn 0 l0) ?_) G.ru;show _=pr ((pendingOf sx).modify _ _).toList;rw[Array.toList_modify];apply q9;intro j;rw[pr,pr,ir,ir,List.getElem?_modify];cases(pendingOf sx).toList[j]? with
      |none=>rfl|some a=>show some _\_;split<;>rfl
  .clear_value jp
   refine z7 (λy=>?_) λy=>T _ _ (S,V,B)
   refine ak (wpS_lift (o6 (rfl,?_)))
   extract_lets -underBinder fo
   have y:m<minrun:=y
   have q:fo=min (size-l0) minrun:=rfl
   clear_value fo
   refine ak (bfw K G.kd S (by lia) λsx C=>?_);rw[cz (by simp)];exact T _ _ (C,by lia,by lia)
 .rintro⟨o,l0⟩ sx ⟨Y,G⟩
  have Y:o=none:=Y;subst Y;refine ak (j4 (iz (I:=λt q sx=>q.1=none/\Gw κ p N l0 sx) (Q:=λq sx=>q.1=none/\Gw κ p N l0 sx) ?_ (λq sx h=>h) (rfl,G)) ?_)
  .rintro t ⟨o,q⟩ sx _ Y ⟨_,G⟩
   refine ak (wpS_get ?_);refine z7 (λz=>aq (rfl,G)) λz=>?_
   have z:¬(pendingOf sx).size<=1:=z
   extract_lets -underBinder i be j
   have T:j+1<(pendingOf sx).size:=by
    have k:∀(N:Nat)(c:Prop)[Decidable c],¬N<=1->(if c then N-2-1 else N-2)+1<N:=λN c _ h=>by split<;>lia
    exact k _ _ z
   clear_value j
   refine ak (mag K G T λO L=>?_);rw[cz (by simp)];exact aq (rfl,L)
  .rintro⟨o,q⟩ sx ⟨Y,G⟩
   have Y:o=none:=Y;subst Y;exact aq (h sx l0 G)
end
open PySem PySem.W PyProof.Rows PySem.Calls
section
variable{prog:Program}{w:World}{A:Around}{E:Y1}{s:Shared}
def av3{x y:Xs}{a b:Addr}{P:PySem.Fin->Shared->Prop}(U:IsTupleKey (intKind prog w) s.heap x a)(I:IsTupleKey (intKind prog w) s.heap y b)(h:∀r,P (.done (.ret (.bool r))) s) :
 wpAny (model prog w) A (Builtin.«tuple.__lt__» ([.ref a,.ref b],[])) P E s:=by
 have L:=I.typeIs;let(oa,xs,na,W,_,R,V):=U;let(ob,X,nb,N,_,Uk,S):=I;show wpAny _ _ (isInstance (.ref b) (.type "tuple")>>=_) _ _ s;refine aa (o7 L isSubtype_tuple_tuple ?_);simp only[rm,dq,jq];refine aa (wpAny_tupleItemsOf W R (aa (wpAny_tupleItemsOf N Uk (aa ?_))));refine qw _ (λY r B=>r.1=none/\B=s/\∃M F T G,Y=List.zip T G/\ItemsAre (intKind prog w) M T/\ItemsAre (intKind prog w) F G) _ ?_ ?_ _ _ (rfl,rfl,x,y,xs.toList,X.toList,rfl,V,S)
 .rintro⟨u,v⟩ Y r B ⟨K,rfl,M,F,T,G,O,C,H⟩
  cases C with
  |nil=>simp at O
  |@cons k1 u' x'' xs'' h1 bfx =>
   cases H with
   |nil=>simp at O
   |@cons k2 v' y'' ys'' h2 bfy =>
    simp only[List.zip_cons_cons,Cv,Prod.mk.injEq]at O;let((rfl,rfl),rfl):=O;refine aa ((intKind prog w).eqBool (a:=k1) (b:=k2) h1 h2 ?_)
    by_cases D:k1=k2
    .rw[wu D]
     exact aj (rfl,rfl,x'',y'',xs'',ys'',rfl,bfx,bfy)
    .rw[lz D]
     let(t1,rfl):=Value.isInt_shape h1;let(t2,rfl):=Value.isInt_shape h2;refine aa (o6 ?_);refine aa (kj (PyProof.Rows.lt_int (Q:=λv J=>v=.bool (decide (k1<k2))/\J=B) (rfl,rfl)) (λv J z=>?_) λ_ _ e=>e);let(rfl,rfl):=z;exact aa (aj (aj (aj (h _))))
 .rintro⟨Z,r2⟩ B ⟨K,rfl,_⟩
  cases(show Z=none from K);exact aj (h _)
def a3a{x y:Xs}{a b:Addr}{Q:Bool->Shared->Prop}(G:A.units<cLine)(Y:IsTupleKey (intKind prog w) s.heap x a)(T:IsTupleKey (intKind prog w) s.heap y b)(h:∀r,Q r s):wpAny (model prog w) A (oneLt' false (.ref a) (.ref b)) Q E s:=
 kj (kat_one (Q:=Q) _ _ (wpAny_richCompare_same_room (op:=.Lt) Y.typeIs T.typeIs F.slot_tuple_lt (jt F.slot_tuple_lt Y.typeIs F.entry_tuple_lt (av3 Y T λr=>(_,rfl,(λe=>nomatch e),h r)) (F.args_tuple_lt_2 _ _)) G)) (λ_ _ e=>e) λ_ _ e=>e
def AtN(prog:Program)(w:World)(h:Heap)(v:Value):Prop:=∃a o Y n,v=.ref a/\h.get? a\o/\o.cls=.type "tuple"/\o.data=.seq Y n/\0<Y.size/\∀x∈Y.toList,∃b k,x=Value.ref b/\IsTupleKey (intKind prog w) h k b
def AtN.keep(x:AtN prog w h v)(J:∀b o,o.cls=.type "tuple"-> h.get? b\o->Z.get? b\o):AtN prog w Z v:=by let(a,o,Y,n,e,G,T,O,B,C):=x;refine(a,o,Y,n,e,J a o T G,T,O,B,λx N=>?_);let(b,k,e,o,L,n,G,T,r):=C x N;exact(b,k,e,o,L,n,J b o T G,T,r)
def a9s{fin:Bool}{Q:Bool->Shared->Prop}(J:A.units<cLine)(h:∀r,Q r s){l:List (Value×Value)}(Y:∀q∈l,(∃b k,q.1=Value.ref b/\IsTupleKey (intKind prog w) s.heap k b)/\∃b k,q.2=Value.ref b/\IsTupleKey (intKind prog w) s.heap k b)(i:Nat):KatLex prog w A false fin Q l i s:=by
 induction l generalizing i with
 |nil=>exact kat_nil (h _)
 |cons q l O =>
  let(u,v):=q;let((a,L,B,G),b,k2,N,T):=Y (u,v) (by simp);cases(show u=.ref a from B);cases(show v=.ref b from N);exact kat_cons (wpAny_eqBool_tuple (knd:=intKind prog w) J G T (kat_go (λq=>kat_yes (O (λq C=>Y q (bu _ C)) _)) λq=>kat_no (by rw[Bool.false_and];exact a3a J G T h)))
def apa{T:Zl}(B:∀v∈T,AtN prog w h v):∃fs:List Value,KatTups h T fs/\fs.length=T.length/\∀f∈fs,∃b k,f=Value.ref b/\IsTupleKey (intKind prog w) h k b:=by
 induction T with
 |nil=>exact([],KatTups.nil,rfl,by simp)
 |cons v T P =>
  let(fs,f1,f2,H):=P λv G=>B v (bu _ G)
  let(a,o,Y,n,rfl,S,R,L,O,N):=B v (by simp);let(b,k,C,Q):=N Y[0] (by simp);refine(.ref b::fs,KatTups.cons S R L (by rw[Array.getElem?_eq_getElem O,C]) f1,by simp[f2],λf J=>?_);rcases dh.mp J with rfl|J
  .exact(b,k,rfl,Q)
  .exact H f J
def mem_zip_self{l:Zl}{x:Value×Value}(h:x∈l.zip l):x.1=x.2/\x.2∈l:=by
 induction l with
 |nil=>cases h
 |cons a l Y =>
  rw[List.zip_cons_cons]at h;rcases dh.mp h with rfl|h
  .exact(rfl,by simp)
  .exact((Y h).1,bu _ (Y h).2)
def ame{Y:Zl}{n:Nat}{a:Addr}{P:PySem.Fin->Shared->Prop}(hu:A.units<cLine)(C:s.heap.get? a\(seqObj "list" Y.toArray n))(R:Y.length<=sizeLine)(hp:∀v∈Y,AtN prog w s.heap v)
 (h:∀(U:Heap) c Z,(∀b o,b≠a->s.heap.get? b\o->U.get? b\o)->U.get? a\(seqObj "list" (List.toArray Z) c)->Z.length=Y.length->(∀v∈Z,v∈Y)->P (.done (.ret .none)) { s with heap:=U }) :
 wpAny (model prog w) A (Builtin.«list.sort» ([.ref a],[])) P E s:=by
 obtain⟨M,F⟩:∃M,(s.heap.update a (Obj.mapSeq λ_=>(#[]:U1))).get? a\(seqObj "list" #[] M):=(_,get?_update_seq C λ_=>#[]);have keep:∀b o,b≠a->s.heap.get? b\o->(((s.heap.update a (Obj.mapSeq λ_=>(#[]:U1))).push (seqObj "tuple" Y.toArray 0)).push (seqObj "list" #[] 0)).get? b\o:=λb o K e =>
  au _ (au _ (((jz s.heap a _).2 b K).trans e))
 have S:(((s.heap.update a (Obj.mapSeq λ_=>(#[]:U1))).push (seqObj "tuple" Y.toArray 0)).push (seqObj "list" #[] 0)).get? a\(seqObj "list" #[] M):=au _ (au _ F);have H:∀v∈Y,AtN prog w (((s.heap.update a (Obj.mapSeq λ_=>(#[]:U1))).push (seqObj "tuple" Y.toArray 0)).push (seqObj "list" #[] 0)) v:=λv R=>(hp v R).keep λb o c e=>keep b o (λz=>by
  subst z;rw[C]at e;cases e;exact absurd (Value.type.inj c) ⋯) e
 rw[list_sort_plain];refine aa (listItems_at C rfl ?_);refine aa (listUpdate_at C rfl ?_ (by rw[gw];exact R) (jd _));refine aa (seqEpoch_at F rfl ?_);refine aa (wpAny_newTuple ?_ R);refine aa (wpAny_newList ?_ (jd _));refine ji ?_;show wpAny (model prog w) A _ P E { s with heap:=((s.heap.update a (Obj.mapSeq λ_=>(#[]:U1))).push (seqObj "tuple" Y.toArray 0)).push (seqObj "list" #[] 0) };generalize(((s.heap.update a (Obj.mapSeq λ_=>(#[]:U1))).push (seqObj "tuple" Y.toArray 0)).push (seqObj "list" #[] 0))=g at *;dsimp only;have G0:∀W,Gw W (λx=>x.1=x.2/\x.2∈Y) Y.length 0 (SortSt.mk' W (Y.toArray.zip Y.toArray) #[] 7 none):=λW=>(rfl,rfl,λx N=>mem_zip_self (by have N:x∈(Y.toArray.zip Y.toArray).toList:=N;simpa using N),by show(Y.toArray.zip Y.toArray).size=_;simp,.nil,jd _)
 have fin:∀(J:SortSt) W O,Gw W (λx=>x.1=x.2/\x.2∈Y) Y.length O J->wpAny (model prog w) A (do
  let B:=(<-seqEpoch a) != M
  Builtin.List.listUpdate (.ref a) λ_=>(arrOf J).map (·.2)
  if let some e:=failedOf J then rule "list.sort.comparison-raised";throw e
  if B then rule "list.sort.modified";raiseError "ValueError" "list modified during sort"
  ret .none) P E { s with heap:=g }:=λJ W O G=>by
  have ea:(arrOf J).map (·.2)=List.toArray ((arrOf J).toList.map (·.2)):=by apply Array.ext';simp
  have hl:((arrOf J).toList.map (·.2)).length=Y.length:=by rw[du,u5,G.sz]
  refine aa (seqEpoch_at S rfl ?_);rw[ea];refine aa (listUpdate_at S rfl ?_ (jd _) (by rw[gw,hl];exact Nat.le_succ_of_le R));rw[G.fl];simp only[yw,dq,jq];exact aj (h _ _ ((arrOf J).toList.map (·.2)) (λb o K e=>((jz g a _).2 b K).trans (keep b o K e)) (get?_update_seq S λ_=>_) hl λv R=>by
   let(x,N,rfl):=bh.mp R;exact(G.al x N).2)
 by_cases V:Y.toArray.size<2
 .rw[dm V,dm V]
  refine aa (aj ?_);rw[StateT.run_pure];exact aa (aj (fin _ _ _ (G0 general')))
 .rw[cz V,cz V]
  have V:2<=Y.length:=by simp at V;omega
  let(fs,f1,f2,f3):=apa H;refine aa (kat_kind (s:={ s with heap:=g }) (T:=.type "tuple") f1 (by omega) (λf hf=>?_) rfl ?_)
  .let(b,k,rfl,o,_,_,C,hc,_):=f3 f hf
   have L:Looks (model prog w) g (typeOf (.ref b)) o.cls:=(Looks.ld C).andThen .now
   rwa [hc]at L
  .refine aa (kj (sru (Q:=λ_ J=>∃O,Gw (tuples' false) (λx=>x.1=x.2/\x.2∈Y) Y.length O J) (λx y E Q N hy q=>?_) (G0 _) λsx O G=>(O,G)) ?_ λ_ _ e=>e)
   .let(a,o,yt,n,e,C,hc,hd,I,hi):=H x.1 (by rw[N.1];exact N.2)
    let(a',o',qq,n',e',X,qv,D,qk,Yc):=H y.1 (by rw[hy.1];exact hy.2);rw[e,e'];exact kat_lt C hd X D (a9s hu q (λz I=>(hi _ (Bf I).1,Yc _ (Bf I).2)) _)
   .intro r s' z
    obtain⟨⟨⟩,J⟩:=r;let(rfl,O,G):=z;exact fin J _ O G
end
end Sr
def a_{a b c:Nat}(h:a<=b)(k:b<=c):a<=c:=gh h k
def b_{a b c:Nat}(h:a<b)(k:b<=c):a<c:=iu h k
def c_{a b c:Nat}(h:a<=b)(k:b<c):a<c:=Cw h k
def d_{a b c:Nat}(h:a<b)(k:b<c):a<c:=Nat.lt_trans h k
def e_{a b:Nat}(h:a<b):a<=b:=xq h
def f_{a b:Nat}(h:a=b):a<=b:=Nat.le_of_eq h
def g_{a b:Nat}(h:a=b):b<=a:=Nat.le_of_eq h.symm
def h_{a b:Nat}(h:a<b):a≠b:=gn h
def i_{a b:Nat}(h:b<a):a≠b:=xr h
def j_{a b:Nat}(h:b<=a):¬a<b:=Nat.not_lt_of_le h
def l_{p:Prop}{a b:Nat}(h:a<b)(k:b<=a):p:=absurd h (Nat.not_lt_of_le k)
def m_{a b:Nat}(h:a<b):(a:Int)<(b:Int):=Int.ofNat_lt.mpr h
def n_{a b:Nat}(h:a<=b):(a:Int)<=(b:Int):=Int.ofNat_le.mpr h
def o_{a b:Nat}(h:(a:Int)<(b:Int)):a<b:=Int.ofNat_lt.mp h
def q_{a:Nat}:(0:Int)<=(a:Int):=Int.natCast_nonneg a
def r_{a b c:Nat}(h:a+c<=b):a<=b-c:=Nat.le_sub_of_add_le h
def s_{a b:Nat}(h:¬a<b):b<=a:=Nat.le_of_not_lt h
def t_{a b:Nat}(h:¬a<=b):b<a:=Nat.lt_of_not_le h
def u_{a b:Nat}(h:a<=b)(k:b<=a):a=b:=Nat.le_antisymm h k
def v_{a b c:Nat}(h:a<=b):a+c<=b+c:=Nat.add_le_add_right h c
def w_{a b c:Nat}(h:a<=b):c+a<=c+b:=Ca h c
def x_{a b:Nat}:a<=a+b:=zj a b
def y_{a b:Nat}:a<=b+a:=Bg a b
def z_{a b:Nat}(h:a<b+1):a<=b:=Ad h
def A_{a b:Nat}(h:a<=b):a<b+1:=Nat.lt_succ_of_le h
def B_{a:Nat}:a<a+1:=jy a
def C_{a b:Nat}:a-b<=a:=Nat.sub_le a b
def D_{a b:Nat}(h:(a:Int)=(b:Int)):a=b:=z8.mp h
def G_{a b c:Nat}(h:a<b):a+c<b+c:=Nat.add_lt_add_right h c
def H_{a b c:Nat}(h:a<b):c+a<c+b:=Nat.add_lt_add_left h c
def hG{P:Prop}(h:∀G:Prop,(P->G)->G):P:=h P id
namespace Yd
open PySem SetTable
def Srt(Y:Array Nat):Prop:=∀(i j a b:Nat),Y[i]?\a->Y[j]?\b->i<j->a<b
def av7(S:Srt Z):∀(Y T hi:Nat),T<=hi->hi<=Z.size->hi-T<=Y ->
 (∀(i a:Nat),Z[i]?\a->i<T->a<j)->(∀(i a:Nat),Z[i]?\a->hi<=i->j<=a) ->
 below.go Z j Y T hi<=Z.size/\(∀(i a:Nat),Z[i]?\a->i<below.go Z j Y T hi->a<j)/\(∀(i a:Nat),Z[i]?\a->below.go Z j Y T hi<=i->j<=a):=by
 intro Y
 induction Y with
 |zero =>
  intro T hi Q J H O C;unfold below.go;have:T=hi:=by lia
  subst this;exact(J,O,C)
 |succ Y R =>
  intro T hi Q J H O C;unfold below.go
  by_cases E:T<hi
  .simp only[dm E]
   have P:(T+hi)/2<Z.size:=by lia
   have B:Z[(T+hi)/2]?=some Z[(T+hi)/2]:=by simp[P]
   have L:Z.getD ((T+hi)/2) j=Z[(T+hi)/2]:=by simp[Array.getD,P]
   rw[L]
   by_cases G:Z[(T+hi)/2]<j
   .rw[dm G]
    refine R _ _ (by lia) J (by omega) (λi a e l=>?_) C
    by_cases N:i=(T+hi)/2
    .subst N;rw[B]at e;cases e;exact G
    .exact Nat.lt_trans (S _ _ _ _ e B (by lia)) G
   .rw[cz G]
    refine R _ _ (by lia) (e_ P) (by omega) O (λi a e l=>?_)
    by_cases N:i=(T+hi)/2
    .subst N;rw[B]at e;cases e;exact s_ G
    .have:=S _ _ _ _ B e (by lia);exact e_ (c_ (s_ G) this)
  .rw[cz E]
   have:T=hi:=u_ Q (s_ E);subst this;exact(J,O,C)
def Gv(Y:Srt Z):below Z j<=Z.size/\(∀(i a:Nat),Z[i]?\a->i<below Z j->a<j)/\(∀(i a:Nat),Z[i]?\a->below Z j<=i->j<=a):=
 av7 Y _ _ _ (jd _) (bz _) C_ (λi a _ h=>absurd h (su _)) (λi a e h=>by
  have:=(j6.mp e).1;lia)
def below_at(Y:Srt Z)(h:Z[i]?\j):below Z j=i:=by
 let(B,J,G):=Gv (j:=j) Y;rcases Nat.lt_trichotomy (below Z j) i with l|l|l
 .have O:=(j6.mp h).1
  have T:Z[below Z j]?=some Z[below Z j]:=by simp
  have a:=G _ _ T (bz _);have b:=Y _ _ _ _ T h l
  lia
 .exact l
 .have:=J _ _ h l;lia
def aa5(j:Nat):has #[] j=false:=by simp[has]
def Vp{t:SetTable}(Y:Srt t.place):t.slot j=.live i↔t.place[i]?\j:=by
 unfold slot;constructor
 .intro h
  dsimp only at h;split at h
  .rename_i e;cases h;simpa using e
  .split at h<;>cases h
 .intro h
  dsimp only;rw[below_at Y h,h];simp
def ahx{t:SetTable}(Y:Srt t.place)(T:t.dummies=#[]):t.slot j=.empty↔∀i:Nat,t.place[i]?≠some j:=by
 constructor
 .intro h i e
  rw[(Vp Y).mpr e]at h;cases h
 .intro h
  unfold slot;dsimp only;rw[T,aa5,cz (by simpa using h _)];rfl
def Rh(Y:Array α)(p:Nat)(x:α)(O:p<=Y.size)(i:Nat):(insertAt Y p x)[i]?=if i<p then Y[i]? else if i=p then some x else Y[i-1]?:=by
 rw[<-m9,toList_insertAt];have G:(Y.toList.take p).length=p:=by simp;lia
 by_cases T:i<p
 .rw[dm T,gq (b_ T (g_ G)),List.getElem?_take,dm T,m9]
 .rw[cz T,jk (a_ (f_ G) (s_ T)),G]
  by_cases J:i=p
  .subst J;simp
  .rw[cz J]
   obtain⟨q,B⟩:∃q,i=p+q+1:=(i-p-1,by lia);subst B;rw[show p+q+1-p=q+1 by lia,List.getElem?_cons_succ,List.getElem?_drop,show p+q+1-1=p+q by lia,m9]
def Px(Y:Array α)(p:Nat)(x:α):(insertAt Y p x).size=Y.size+1:=by have:=(insertAt_perm Y p x).length_eq;simpa using this
noncomputable def up(p i:Nat):Nat:=if i<p then i else i+1
def T4(Y:Array α)(p:Nat)(x:α)(T:p<=Y.size)(i:Nat):(insertAt Y p x)[up p i]?=Y[i]?:=by
 rw[Rh Y p x T];unfold up
 by_cases h:i<p
 .simp[h]
 .rw[cz h,cz (j_ (a_ (s_ h) x_)),cz (i_ (A_ (s_ h)))];rfl
def Lz(Y:Array α)(p:Nat)(x:α)(T:p<=Y.size):(insertAt Y p x)[p]?\x:=by rw[Rh Y p x T];simp
def Ri(p i:Nat):i=p\/∃k,i=up p k:=by
 unfold up;rcases Nat.lt_trichotomy i p with h|h|h
 .exact .inr (i,by simp[h])
 .exact .inl h
 .exact .inr (i-1,by rw[cz (by omega)];lia)
def av8(J:Srt Z)(C:∀i:Nat,Z[i]?≠some j):Srt (insertAt Z (below Z j) j):=by
 let(G,O,B):=Gv (j:=j) J;intro a b x y T Y l;rcases Ri (below Z j) a with rfl|⟨a',rfl⟩<;>rcases Ri (below Z j) b with hb|⟨b',rfl⟩
 .subst hb;lia
 .rw[Lz _ _ _ G]at T
  rw[T4 _ _ _ G]at Y;cases T;have:below Z j<=b':=by unfold up at l;split at l<;>omega
  have g:=B _ _ Y this;rcases Nat.lt_or_eq_of_le g with g|g
  .exact g
  .subst g;exact absurd Y (C _)
 .subst hb
  rw[Lz _ _ _ G]at Y;rw[T4 _ _ _ G]at T;cases Y;exact O _ _ T (by unfold up at l;split at l<;>omega)
 .rw[T4 _ _ _ G]at T Y
  exact J _ _ _ _ T Y (by unfold up at l;split at l<;>split at l<;>omega)
noncomputable def adv(m:Nat)(p:Probe):Probe:=({ SetTable.fresh 0 0 true with mask:=m }:SetTable).advance p
def a3c(t:SetTable)(p:Probe):t.advance p=adv t.mask p:=rfl
def aci(h:p.more > 0):adv m p={ p with j:=p.j+1,more:=p.more-1 }:=dm h
def Ye(h:¬p.more > 0):adv m p={ p with j:=(leap m p.i p.perturb).1,more:=runEnd m (leap m p.i p.perturb).1-(leap m p.i p.perturb).1,i:=(leap m p.i p.perturb).1,perturb:=(leap m p.i p.perturb).2 }:=cz h
noncomputable def beg(m i pt:Nat):Probe:={ j:=i,more:=runEnd m i-i,i:=i,perturb:=pt,dummy:=none }
def P(m:Nat)(h:Int):Nat->Probe
 |0=>beg m (bits h%(m+1)) (bits h)|n+1=>adv m (P m h n)
def ae7(t:SetTable)(h:Int):t.probeStart h=P t.mask h 0:=rfl
theorem acj(m:Nat)(h:Int):∀n,(P m h n).dummy=none
 |0=>rfl
 |n+1=>by
  show(adv m (P m h n)).dummy=none
  by_cases q:(P m h n).more > 0
  .rw[aci q];exact acj m h n
  .rw[Ye q];exact acj m h n
noncomputable def I(m:Nat)(h:Int):Nat->Nat
 |0=>bits h%(m+1)|T+1=>(I m h T*5+1+bits h/32^(T+1))%(m+1)
def av9(m i:Nat):runEnd m i-i<=9:=by unfold runEnd;split<;>lia
theorem ae8{m:Nat}{h:Int}{n i pt:Nat}(e:P m h n=beg m i pt):∀c,c<=runEnd m i-i->P m h (n+c)={ j:=i+c,more:=runEnd m i-i-c,i:=i,perturb:=pt,dummy:=none }
 |0,_=>by rw[Nat.add_zero,e];rfl
 |c+1,hc=>by
  have:=ae8 e c (by lia);show adv m (P m h (n+c))=_;rw[this,aci (by show 0<runEnd m i-i-c;lia)];simp only
  congr 1
def apc(e:P m h n=beg m i pt):P m h (n+(runEnd m i-i)+1)=beg m ((i*5+1+pt/32)%(m+1)) (pt/32):=by show adv m (P m h (n+(runEnd m i-i)))=_;rw[ae8 e _ (bz _),Ye (by simp)];rfl
theorem apd(m:Nat)(h:Int):∀T,∃n,n<=10*T/\P m h n=beg m (I m h T) (bits h/32^T)
 |0=>(0,jd _,by simp[P,I])
 |T+1=>by
  let(n,G,Y):=apd m h T;have:=av9 m (I m h T);refine(_,?_,(apc Y).trans ?_)
  .lia
  .rw[Nat.div_div_eq_div_mul,<-Nat.pow_succ];rfl
noncomputable def f5(m x:Nat):Nat:=(x*5+1)%(m+1)
def it(m:Nat):Nat->Nat->Nat
 |0,x=>x|k+1,x=>f5 m (it m k x)
theorem Yg(m a x:Nat):∀k,it m (a+k) x=it m k (it m a x)
 |0=>rfl|k+1=>by show f5 m (it m (a+k) x)=_;rw[Yg m a x k];rfl
def Cov(m:Nat):Prop:=∀i j,i<=m->j<=m->∃k,k<=m/\it m k i=j
def a3d(J:it m (m+1) 0=0)(h:∀j,j<=m->∃k,k<=m/\it m k 0=j):Cov m:=λi j B G=>by
 let(a,N,Y):=h i B;let(b,O,T):=h j G
 by_cases C:a<=b
 .refine(b-a,a_ C_ O,?_)
  rw[<-Y,<-Yg,show a+(b-a)=b by lia,T]
 .refine(m+1+b-a,by omega,?_)
  rw[<-Y,<-Yg,show a+(m+1+b-a)=(m+1)+b by lia,Yg,J,T]
def orb(m:Nat):Nat->Nat->List Nat
 |0,_=>[]|k+1,x=>x::orb m k (f5 m x)
theorem ajw{m:Nat}:∀{k x j:Nat},j∈orb m k x->∃q,q<k/\it m q x=j
 |0,_,_,h=>by simp[orb]at h
 |k+1,x,j,h=>by
  simp only[orb,dh]at h;rcases h with rfl|h
  .exact(0,A_ (jd _),rfl)
  .let(q,l,e):=ajw h
   refine(1+q,by lia,?_);rw[Yg];exact e
def Uo(Y:it m (m+1) 0=0)(h:((List.range (m+1)).all λj=>(orb m (m+1) 0).contains j)=true):Cov m:=
 a3d Y λj T=>by have:=jg.mp h j (by simp;exact A_ T);let(q,l,e):=ajw (by simpa using this);exact(q,z_ l,e)
def Msk(m:Nat):Prop:=m=7\/m=15\/m=31\/m=63\/m=127
def bf0:Cov 7:=Uo ∅ ∅
def a9u:Cov 15:=Uo ∅ ∅
def a9v:Cov 31:=Uo ∅ ∅
def a9w:Cov 63:=Uo ∅ ∅
def a3e:Cov 127:=Uo ∅ ∅
def Msk.cov(h:Msk m):Cov m:=by
 rcases h with rfl|rfl|rfl|rfl|rfl
 .exact bf0
 .exact a9u
 .exact a9v
 .exact a9w
 .exact a3e
def awa(h:Int):bits h<2^64:=by
 unfold bits;have Y:=Cr h (b:=2^64) ⋯;have T:=Bc h (b:=2^64) ⋯
 lia
theorem a9x(m:Nat)(h:Int):∀T,I m h T<=m
 |0=>Ad (Nat.mod_lt (bits h) (Nat.succ_pos m))|T+1=>Ad (Nat.mod_lt (I m h T*5+1+bits h/32^(T+1)) (Nat.succ_pos m))
theorem ape(m:Nat)(h:Int):∀k,I m h (13+k)=it m k (I m h 13)
 |0=>rfl
 |k+1=>by
  show(I m h (13+k)*5+1+bits h/32^(13+k+1))%(m+1)=f5 m (it m k (I m h 13));have:bits h/32^(13+k+1)=0:=by
   apply Nat.div_eq_of_lt;refine iu (awa h) ?_
   calc 2^64<=32^13:=by decide
    _<=32^(13+k+1):=Nat.pow_le_pow_right ⋯ (a_ x_ x_)
  rw[this,ape m h k];rfl
def cover(G:Msk m)(h:Int)(j:Nat)(J:j<=m):∃T,T<=13+m/\I m h T=j:=by let(k,Y,e):=G.cov (I m h 13) j (a9x m h 13) J;exact(13+k,w_ Y,(ape m h k).trans e)
def awb(J:Msk m)(h:Int)(j:Nat)(Y:j<=m):∃n,n<10*turns m/\(P m h n).j=j:=by let(T,B,e):=cover J h j Y;let(n,O,G):=apd m h T;exact(n,by unfold turns;lia,by rw[G];exact e)
def mod_le(a m:Nat):a%(m+1)<=m:=Ad (Nat.mod_lt a (Nat.succ_pos m))
def Vq(h:i<=m):i<=runEnd m i/\runEnd m i<=m:=by unfold runEnd;split<;>omega
theorem a9y(m:Nat)(h:Int):∀n,(P m h n).j+(P m h n).more<=m
 |0=>by
  have:=Vq (mod_le (bits h) m);show bits h%(m+1)+(runEnd m (bits h%(m+1))-bits h%(m+1))<=m
  omega
 |n+1=>by
  have Y:=a9y m h n;show(adv m (P m h n)).j+(adv m (P m h n)).more<=m
  by_cases q:(P m h n).more > 0
  .rw[aci q];simp only;lia
  .rw[Ye q]
   have:=Vq (mod_le ((P m h n).i*5+1+(P m h n).perturb/32) m);show(leap m (P m h n).i (P m h n).perturb).1+(runEnd m (leap m (P m h n).i (P m h n).perturb).1-(leap m (P m h n).i (P m h n).perturb).1)<=m
   have e:(leap m (P m h n).i (P m h n).perturb).1=((P m h n).i*5+1+(P m h n).perturb/32)%(m+1):=rfl;rw[e];omega
def bf1(m:Nat)(h:Int)(n:Nat):(P m h n).j<=m:=by have:=a9y m h n;lia
def Occ(t:SetTable)(j:Nat):Prop:=∃i:Nat,t.place[i]?\j
structure TOk(t:SetTable)(es:Array (Int×Value)):Prop where
 msk:Msk t.mask
 dum:t.dummies=#[]
 siz:t.place.size=es.size
 srt:Srt t.place
 bnd:∀(i j:Nat),t.place[i]?\j->j<=t.mask
 ful:t.place.size<=t.mask
 rch:∀(i j:Nat) e,t.place[i]?\j->es[i]?\e->∃n,(P t.mask e.1 n).j=j/\∀m,m<n->Occ t (P t.mask e.1 m).j
theorem TOk.fits(k:TOk t Z):t.fits Z.size=true:=by unfold SetTable.fits fill;rw[k.dum];simp[k.siz];have:=k.ful;have:=k.siz;lia
def Msk.odd(h:Msk m):m%2=1:=by rcases h with rfl|rfl|rfl|rfl|rfl<;>rfl
def TOk.way(k:TOk t Z):t.gaveWay=false:=by unfold gaveWay;rw[k.msk.odd];rfl
def apf(J:Srt Z)(h:Z.size<=m):∃j,j<=m/\∀i:Nat,Z[i]?≠some j:=by
 apply xj;intro L;have all:∀j,j<=m->∃i:Nat,Z[i]?\j:=λj T=>by apply xj;intro C;exact L (j,T,λi e=>C (i,e))
 have:∀j,j<=m->∀i:Nat,Z[i]?\j->j<=i:=by
  intro j
  induction j with
  |zero=>intro _ i _;exact jd _
  |succ j O =>
   intro T i e;let(G,Y):=all j (by lia);have:=O (by lia) G Y;rcases Nat.lt_trichotomy i G with l|l|l
   .have:=J _ _ _ _ e Y l;lia
   .subst l;rw[e]at Y;injection Y with Y;exact a_ (f_ Y) this
   .exact a_ (v_ this) l
 let(i,e):=all m (bz _);have N:=this m (bz _) i e;have B:=(j6.mp e).1;exact l_ B (a_ h N)
structure Fst(t:SetTable)(h:Int)(N:Nat):Prop where
 lt:N<10*turns t.mask
 emp:¬Occ t (P t.mask h N).j
 occ:∀m,m<N->Occ t (P t.mask h m).j
def least{p:Nat->Prop}:∀{n:Nat},p n->∃k,k<=n/\p k/\∀m,m<k->¬p m:=by
 intro n
 induction n using Nat.strongRecOn with
 |ind n J =>
  intro h
  by_cases T:∃m,m<n/\p m
  .let(m,l,Y):=T
   let(k,G,a,b):=J m l Y;exact(k,e_ (c_ G l),a,b)
  .exact(n,bz _,h,λm l Y=>T (m,l,Y))
def TOk.fst(k:TOk t Z)(h:Int):∃N,Fst t h N:=by let(j,Y,e):=apf k.srt k.ful;let(n,J,T):=awb k.msk h j Y;let(N,l,a,b):=least (p:=λn=>¬Occ t (P t.mask h n).j) (n:=n) (λ(i,c)=>e i (by rw[T]at c;exact c));exact(N,c_ l J,a,λm G=>Classical.not_not.mp (b m G))
theorem apg(k:TOk t Z)(F:Fst t h N)(T:Nat->Int):∀(Y n:Nat),n<=N->N-n<Y ->
 (probe.go t T h Y (P t.mask h n)\(.empty (P t.mask h N).j none)/\∀m,n<=m->m<N->∀i:Nat,t.place[i]?\(P t.mask h m).j->T i≠h)
\/∃m i:Nat,n<=m/\m<N/\t.place[i]?\(P t.mask h m).j/\T i=h/\(∀q,n<=q->q<m->∀i:Nat,t.place[i]?\(P t.mask h q).j->T i≠h)
 /\probe.go t T h Y (P t.mask h n)\(.candidate (P t.mask h m).j i (P t.mask h (m+1))):=by
 intro Y
 induction Y with
 |zero=>intro n _ l;omega
 |succ Y L =>
  intro n S l;unfold probe.go
  by_cases e:n=N
  .subst e
   left
   rw[(ahx k.srt k.dum).mpr (λi c=>F.emp (i,c))];simp only;rw[acj];exact(rfl,λm a b=>by lia)
  .let(i,B):=F.occ n (by lia)
   rw[(Vp k.srt).mpr B];simp only[a3c];have O:adv t.mask (P t.mask h n)=P t.mask h (n+1):=rfl;rw[O]
   by_cases J:T i=h
   .right
    refine(n,i,bz _,by lia,B,J,λq a b=>by lia,?_);rw[dm (by simp[J])]
   .rw[cz (by simp[J])]
    have un:∀G:Nat,t.place[G]?\(P t.mask h n).j->T G≠h:=λG R=>by have a:=below_at k.srt R;have b:=below_at k.srt B;rw[<-a,b];exact J
    rcases L (n+1) (by lia) (by lia)with⟨a,b⟩|⟨m,G,a,b,c,d,C,E⟩
    .left
     refine(a,λm x y=>?_)
     by_cases q:m=n
     .subst q;exact un
     .exact b m (by lia) y
    .right
     refine(m,G,by lia,b,c,d,λq x y=>?_,E)
     by_cases z:q=n
     .subst z;exact un
     .exact C q (by lia) y
def TOk.ahead(k:TOk t Z)(F:Fst t h N){i:Nat}(T:Z[i]?\e)(G:e.1=h):∃m,m<N/\t.place[i]?\(P t.mask h m).j:=by
 have J:i<t.place.size:=by rw[k.siz];exact(j6.mp T).1
 have Y:t.place[i]?=some t.place[i]:=by simp[J]
 let(n,a,b):=k.rch i _ e Y T;subst G;refine(n,?_,by rw[a];exact Y);rcases Nat.lt_trichotomy n N with l|l|l
 .exact l
 .subst l;exact absurd (i,by rw[a];exact Y) F.emp
 .exact absurd (b N l) F.emp
def acn(T:Srt t.place)(q:Nat):Occ (t.put j).1 q↔q=j\/Occ t q:=by
 let(Y,G,J):=Gv (j:=j) T;constructor
 .rintro⟨i,e⟩
  have e:(insertAt t.place (below t.place j) j)[i]?\q:=e;rcases Ri (below t.place j) i with rfl|⟨i',rfl⟩
  .rw[Lz _ _ _ Y]at e;cases e;exact .inl rfl
  .rw[T4 _ _ _ Y]at e;exact .inr (i',e)
 .rintro(rfl|⟨i,e⟩)
  .exact(_,Lz _ _ _ Y)
  .exact(up (below t.place j) i,(T4 _ _ _ Y i).trans e)
theorem TOk.put(k:TOk t Z)(F:Fst t h N)(room:t.place.size+1<=t.mask) :
 TOk (t.put (P t.mask h N).j).1 (insertAt Z (t.put (P t.mask h N).j).2 (h,x)):=by
 let(J,O,B):=Gv (j:=(P t.mask h N).j) k.srt;have G:below t.place (P t.mask h N).j<=Z.size:=by rw[<-k.siz];exact J
 refine(k.msk,?_,?_,?_,?_,?_,?_)
 .show(if has t.dummies _ then _ else t.dummies)=#[]
  rw[k.dum,aa5];rfl
 .show(insertAt t.place _ _).size=(insertAt Z _ _).size
  rw[Px,Px,k.siz]
 .exact av8 k.srt (λi e=>F.emp (i,e))
 .intro i j e
  rcases(acn k.srt j).mp (i,e)with rfl|⟨i',e'⟩
  .exact bf1 _ _ _
  .exact k.bnd i' j e'
 .show(insertAt t.place _ _).size<=t.mask
  rw[Px];exact room
 .intro i j e T Y
  have T:(insertAt t.place (below t.place (P t.mask h N).j) (P t.mask h N).j)[i]?\j:=T;have Y:(insertAt Z (below t.place (P t.mask h N).j) (h,x))[i]?\e:=Y;show ∃n,(P t.mask e.1 n).j=j/\∀m,m<n->Occ (t.put (P t.mask h N).j).1 (P t.mask e.1 m).j
  rcases Ri (below t.place (P t.mask h N).j) i with rfl|⟨i',rfl⟩
  .rw[Lz _ _ _ J]at T
   rw[Lz _ _ _ G]at Y;cases T;cases Y;exact(N,rfl,λm l=>(acn k.srt _).mpr (.inr (F.occ m l)))
  .rw[T4 _ _ _ J]at T
   rw[T4 _ _ _ G]at Y;let(n,a,b):=k.rch i' j e T Y;exact(n,a,λm l=>(acn k.srt _).mpr (.inr (b m l)))
abbrev OcO(ow:Array (Option Nat))(j:Nat):Prop:=∃i,ow[j]?\(some i)
structure Own(m:Nat)(ow:Array (Option Nat))(hs:Xs):Prop where
 siz:ow.size=m+1
 cnt:ow.toList.countP Option.isSome=hs.length
 lt:∀(j i:Nat),ow[j]?\(some i)->i<hs.length
 inj:∀(j j' i:Nat),ow[j]?\(some i)->ow[j']?\(some i)->j=j'
 at':∀(i:Nat) h,hs[i]?\h->∃j n,ow[j]?\(some i)/\(P m h n).j=j/\∀q,q<n->OcO ow (P m h q).j
def getD_none{Y:Array (Option Nat)}(T:Y.size=m+1)(h:(Y.getD j (some 0)).isNone=true):Y[j]?\none:=by
 by_cases l:j<Y.size
 .simp[Array.getD,l]at h;simp[l,h]
 .simp[Array.getD,l]at h
def getD_some(Y:ow.size=m+1)(T:j<=m)(h:¬(ow.getD j (some 0)).isNone=true):OcO ow j:=by
 have l:j<ow.size:=by lia
 simp[Array.getD,l]at h;unfold OcO;rw[show ow[j]?=some ow[j]by simp[l]];cases e:ow[j]with
 |none=>exact absurd e h|some i=>exact(i,rfl)
def amf(J:ow.size=m+1)(h:Int):∀(Y T n:Nat),P m h n=beg m (I m h T) (bits h/32^T)->(∀q,q<n->OcO ow (P m h q).j) ->
 (∃k,k<Y/\ow[I m h (T+k)]?\none)->∃j Z,layClean.free m ow Y (I m h T) (bits h/32^T)\j/\(P m h Z).j=j/\ow[j]?\none/\∀q,q<Z->OcO ow (P m h q).j:=by
 intro Y
 induction Y with
 |zero=>rintro T n _ _ ⟨k,l,_⟩;lia
 |succ Y H =>
  rintro T n e L ⟨k,F,C⟩;have S:=a9x m h T;let(M,W):=Vq S;unfold layClean.free;cases hf:(List.range (runEnd m (I m h T)+1-I m h T)).find? λk=>(ow.getD (I m h T+k) (some 0)).isNone with
  |some c =>
   let(a,b,d):=List.find?_range_eq_some.mp hf;have b:=jh.mp b;refine(_,n+c,rfl,by rw[ae8 e c (by omega)],getD_none J a,λq l=>?_)
   by_cases O:q<n
   .exact L q O
   .obtain⟨c',rfl⟩:∃c',q=n+c':=(q-n,by lia)
    rw[ae8 e c' (by lia)];show OcO ow (I m h T+c');exact getD_some J (by lia) (λE=>by
     have:=d c' (by lia);simp only[E]at this;cases this)
  |none =>
   have R:=List.find?_eq_none.mp hf;have G:∀c,c<=runEnd m (I m h T)-I m h T->OcO ow (I m h T+c):=λc K=>getD_some J (by lia) (R c (jh.mpr (by lia)))
   cases k with
   |zero =>
    let(i,B):=G 0 (jd _);rw[Nat.add_zero]at C B;rw[C]at B;cases B
   |succ k =>
    have N:bits h/32^T/32=bits h/32^(T+1):=by rw[Nat.div_div_eq_div_mul,<-Nat.pow_succ]
    refine(λthis=>?_) (H (T+1) (n+(runEnd m (I m h T)-I m h T)+1) (by rw[apc e,N];rfl) (λq l=>?_) (k,by lia,by rw[show T+1+k=T+(k+1)by lia];exact C))
    .let(j,Z,Q,V):=this
     refine(j,Z,?_,V);rw[<-Q];show layClean.free m ow Y ((I m h T*5+1+bits h/32^T/32)%(m+1)) (bits h/32^T/32)=_;rw[N];rfl
    .by_cases O:q<n
     .exact L q O
     .obtain⟨c',rfl⟩:∃c',q=n+c':=(q-n,by lia)
      rw[ae8 e c' (by lia)];show OcO ow (I m h T+c');exact G c' (by lia)
def Own.room(k:Own m ow Z)(h:Z.length<=m):∃j,j<=m/\ow[j]?\none:=by
 apply xj;intro J;have:ow.toList.countP Option.isSome=ow.toList.length:=List.countP_eq_length.mpr λa G=>by
  let(j,T,e):=qg G;cases a with
  |some i=>rfl
  |none =>
   have Y:j<ow.size:=by simpa using T
   refine absurd (j,by have:=k.siz;exact z_ (b_ Y (f_ this)),?_) J;rw[<-m9,bw T,e]
 rw[k.cnt]at this;have:=k.siz;simp at *
 lia
theorem Own.free(J:Msk m)(k:Own m ow U)(Y:U.length<=m)(h:Int):∃j Z,layClean.free m ow (turns m) (bits h%(m+1)) (bits h)\j/\(P m h Z).j=j/\ow[j]?\none/\∀q,q<Z->OcO ow (P m h q).j:=by let(j,G,e):=k.room Y;let(T,O,B):=cover J h j G;have:=amf k.siz h (turns m) 0 0 (by simp[P,I]) (λq l=>by lia) (T,by unfold turns;lia,by rw[u0,B];exact e);simpa[I]using this
def Own.lay(k:Own m ow Z)(B:(P m h U).j=j)(G:ow[j]?\none)(O:∀q,q<U->OcO ow (P m h q).j) :
 Own m (ow.setIfInBounds j (some Z.length)) (Z++[h]):=by
 have J:j<ow.size:=(j6.mp G).1
 have get:∀q:Nat,(ow.setIfInBounds j (some Z.length))[q]?=if j=q then some (some Z.length)else ow[q]?:=λq=>by rw[Array.getElem?_setIfInBounds];split<;>simp_all
 have Y:∀q,OcO ow q->OcO (ow.setIfInBounds j (some Z.length)) q:=λq (i,e)=>by refine(i,?_);rw[get,cz (λh=>by subst h;rw[G]at e;cases e)];exact e
 refine(by simp[k.siz],?_,λq i e=>?_,λq E i e T=>?_,λi L e=>?_)
 .rw[Bl,List.countP_set (by simpa using J),k.cnt]
  have:ow.toList[j]'(by simpa using J)=none:=by have:=(j6.mp G).2;simpa using this
  rw[this];simp
 .rw[get]at e
  split at e
  .cases e;simp
  .have:=k.lt q i e;simp;exact A_ (e_ this)
 .rw[get]at e T
  split at e<;>split at T
  .lia
  .cases e;have:=k.lt _ _ T;lia
  .cases T;have:=k.lt _ _ e;lia
  .exact k.inj q E i e T
 .by_cases l:i<Z.length
  .rw[gq l]at e
   let(N,n,a,b,c):=k.at' i L e;refine(N,n,?_,b,λq l=>Y _ (c q l));rw[get,cz (λh=>by subst h;rw[G]at a;cases a)];exact a
  .have C:i=Z.length:=by
    have:=(ao.mp e).1;simp at this;exact u_ (z_ this) (s_ l)
   subst C;simp at e;subst e;exact(j,U,by rw[get,dm rfl],B,λq l=>Y _ (O q l))
theorem ajx{m:Nat}(J:Msk m):∀(Y T:Xs)(G:Array (Option Nat)),Own m G T->T.length+Y.length<=m+1 ->
 ∃Z,Y.foldl (λU h=>do
  let (owner,k) <-U
  let j<-layClean.free m owner (turns m) (bits h%(m+1)) (bits h)
  pure (Prod.mk (owner.setIfInBounds j (some k)) (k+1))) (some (Prod.mk G T.length))\(Prod.mk Z (T.length+Y.length))/\Own m Z (T++Y)
 |[],T,G,k,_=>(G,rfl,by simpa using k)
 |h::Y,T,G,k,l=>by
  let(j,E,L,B,C,O):=k.free J (by simp at l;lia) h;have N:=k.lay B C O;let(Z,a,b):=ajx J Y (T++[h]) _ N (by simp at l⊢;lia);refine(Z,?_,by simpa using b);rw[List.foldl_cons];have:(do
   let (owner,k) <-some (Prod.mk G T.length)
   let j<-layClean.free m owner (turns m) (bits h%(m+1)) (bits h)
   pure (Prod.mk (owner.setIfInBounds j (some k)) (k+1)))\(Prod.mk (G.setIfInBounds j (some T.length)) (T++[h]).length):=by
   show(layClean.free m G (turns m) (bits h%(m+1)) (bits h)>>=_)=_;rw[L];simp
  rw[this,a]
  simp;lia
def aph(G:Msk m)(Y:Array Int)(l:Y.size<=m+1):∃Z,layClean m Y\Z/\Own m Z Y.toList:=by have T:Own m (Array.replicate (m+1) none) []:=(by simp,by simp,λj i e=>by simp[Array.getElem?_replicate]at e,λj J i e=>by simp[Array.getElem?_replicate]at e,λi h e=>by simp at e);let(Z,a,b):=ajx G Y.toList [] _ T (by simpa using l);refine(Z,?_,by simpa using b);unfold layClean;rw[<-Array.foldl_toList];exact(t7 (Option.map (·.1)) a).trans rfl
noncomputable def lv(m:Nat)(Y:Array (Option Nat)):List (Nat×Nat):=(List.range (m+1)).filterMap λj=>(Y.getD j none).map (Prod.mk j)
def T5(k:Own m ow Z):(j,i)∈lv m ow↔ow[j]?\(some i):=by
 unfold lv;rw[List.mem_filterMap];constructor
 .rintro⟨q,a,b⟩
  let(G,Y,T):=dj.mp b;cases T;have:j<ow.size:=by rw[k.siz];exact jh.mp a
  simp[Array.getD,this]at Y;simp[this,Y]
 .intro e
  have l:=(j6.mp e).1;refine(j,jh.mpr (by rw[<-k.siz];exact l),?_);have:ow.getD j none\i:=by simp[Array.getD,l,(j6.mp e).2]
  rw[this];rfl
def api(m:Nat)(G:Array (Option Nat)):(lv m G).Pairwise λa b=>a.1<b.1:=by unfold lv;refine List.Pairwise.filterMap _ (λa B J b T O Y=>?_) List.pairwise_lt_range;let(_,_,rfl):=dj.mp T;let(_,_,rfl):=dj.mp Y;exact J
def awd(k:Own m ow Z):((lv m ow).map (·.2)).Perm (List.range Z.length):=by
 refine(List.perm_ext_iff_of_nodup ?_ List.nodup_range).mpr λi=>?_
 .rw[m6,w6]
  refine(api m ow).imp_of_mem fun{a b} Y hb Il e=>?_
  have:=k.inj a.1 b.1 a.2 ((T5 k).mp Y) (by rw[e];exact(T5 k).mp hb);exact l_ Il (g_ this)
 .rw[bh,jh]
  constructor
  .rintro⟨a,Y,rfl⟩;exact k.lt _ _ ((T5 k).mp Y)
  .intro l
   let(j,n,a,_):=k.at' i _ (bw l);exact((j,i),(T5 k).mpr a,rfl)
theorem apj{T G:Type}{g:T->Option G}:∀{l:List T},(∀x∈l,(g x).isSome=true)->∀q:Nat,(l.filterMap g)[q]?=l[q]?.bind g
 |[],_,q=>by simp
 |x::l,h,q=>by
  have Y:=h x (dw ..);let(y,e):=qx.mp Y;rw[List.filterMap_cons_some e];cases q with
  |zero=>simp[e]|succ q=>simpa using apj (λx Y=>h x (bu _ Y)) q
def ajy(S:Msk m)(L Q:Nat)(E P:Bool)(Y:Array (Int×Value))(l:Y.size<=m) :
 ∃t Z,laid m L Q E P (Y.map (·.1))\(t,Z)/\t.mask=m/\TOk t (Z.filterMap (Y[·]?))/\(Z.filterMap (Y[·]?)).toList.Perm Y.toList/\(Z.filterMap (Y[·]?)).size=Y.size
 /\t.led=E/\t.plain=P/\t.finger=L/\Z.toList.Perm (List.range Y.size):=by
 let(G,e,k):=aph S (Y.map (·.1)) (by simp;exact a_ l x_);have T:=awd k;simp at T;have J:(lv m G).length=Y.size:=by have:=T.length_eq;simpa using this
 have O:((((lv m G).map (·.2)).toArray).filterMap (Y[·]?)).size=Y.size:=by have:=(T.filterMap (Y[·]?)).length_eq;rw[filterMap_getElem?_range]at this;rw[<-u5,Array.toList_filterMap,this];simp
 refine({ mask:=m,place:=((lv m G).map (·.1)).toArray,dummies:=#[],finger:=L,led:=E,moves:=Q,plain:=P },((lv m G).map (·.2)).toArray,?_,rfl,?_,?_,?_,rfl,rfl,rfl,T)
 .unfold laid;rw[e];rfl
 .have N:∀x∈(lv m G).map (·.2),(Y[x]?).isSome=true:=λx hx=>by
   have:=jh.mp (T.mem_iff.mp hx)
   simp;exact this
  have get:∀q:Nat,((((lv m G).map (·.2)).toArray).filterMap (Y[·]?))[q]?=((lv m G)[q]?).bind λa=>Y[a.2]?:=λq=>by rw[<-m9,Array.toList_filterMap,apj N,ir];cases(lv m G)[q]?<;>rfl
  have Rv:∀q j:Nat,(((lv m G).map (·.1)).toArray)[q]?\j↔∃i,(lv m G)[q]?\(j,i):=λq j=>by
   simp only[List.getElem?_toArray,ir,dj];constructor
   .rintro⟨a,h,rfl⟩;exact(a.2,h)
   .rintro⟨i,h⟩;exact(_,h,rfl)
  refine(S,rfl,?_,?_,?_,?_,?_)
  .show(((lv m G).map (·.1)).toArray).size=_
   rw[O];simp[J]
  .intro i j a b M X lt
   let(K,B):=(Rv i a).mp M;let(i2,e2):=(Rv j b).mp X;let(I,A):=ao.mp B;let(U,W):=ao.mp e2;have:=List.pairwise_iff_getElem.mp (api m G) i j I U lt;rw[A,W]at this;exact this
  .intro i j e
   let(K,B):=(Rv i j).mp e;have:=(T5 k).mp (bf B);have:=(j6.mp this).1;rw[k.siz]at this;show j<=m
   exact z_ this
  .show(((lv m G).map (·.1)).toArray).size<=m
   simp[J];exact l
  .intro q j e' D C
   let(i,B):=(Rv q j).mp D;rw[get,B]at C;have C:Y[i]?\e':=C;let(F,n,a,b,c):=k.at' i e'.1 (by simp[C]);have V:=k.inj j F i ((T5 k).mp (bf B)) a;subst V;refine(n,b,λw lw=>?_);let(i',R):=c w lw;let(z,H):=vg.mp ((T5 k).mpr R);exact(z,(Rv z _).mpr (i',H))
 .rw[Array.toList_filterMap]
  have:=T.filterMap (Y[·]?);rw[filterMap_getElem?_range]at this;exact this
 .exact O
def aa9:∀n,n<32->Msk (sizeAbove (grown n)-1)/\n<=sizeAbove (grown n)-1/\n+1<=sizeAbove (grown n)-1/\¬(n*5 >= (sizeAbove (grown n)-1)*3)/\sizeAbove (grown n)<=128:=by unfold Msk;decide+kernel
def apk:∀n,n<64->Msk (sizeAbove (n*2)-1)/\n<=sizeAbove (n*2)-1/\¬(n*5 >= (sizeAbove (n*2)-1)*3)/\sizeAbove (n*2)<=128:=by unfold Msk;decide+kernel
section
variable{prog:Program}{w:World}{K:Type}[DecidableEq K]{knd:KeyKind prog w K}{A:Around}{E:Y1}{s:Shared}
def ahy(n:Nat)(h:carriedByValue v=true):ofAClassStatement n v=pure false:=by cases v<;>first|(simp[carriedByValue]at h;done)|(unfold ofAClassStatement;rfl)
def Yh(C:IsTupleKey knd s.heap Z a)(h:Q false s):wpAny (model prog w) A (ofAClassStatement 8 (.ref a)) Q E s:=by
 have N:=C.typeIs;let(o,T,n,R,_,P,L):=C;unfold ofAClassStatement;refine aa (vy N ?_);show wpAny _ _ (if("tuple"=="tuple")=true then _ else _) _ _ s;rw[dm ⋯];refine aa (aj ?_);simp only[rm,dq,jq];refine aa (ur R P ?_);refine aa ?_;show wpAny _ _ (forIn T _ _) _ _ s;rw[<-Array.forIn_toList];refine qw _ (λY r G=>r.1=none/\G=s/\∀v∈Y,carriedByValue v=true) _ ?_ ?_ _ _ (rfl,rfl,L.byValue)
 .rintro v Y r G ⟨J,rfl,O⟩
  rw[ahy _ (O v dw)];refine aa (aj ?_);simp only[dq,jq];exact aj (rfl,rfl,λu B=>O u (bu _ B))
 .rintro⟨H,S⟩ G ⟨J,rfl,_⟩
  simp only at J;subst J;exact aj h
def apl(O:IsTupleKey knd s.heap Z a)(N:∀v∈st,∃Z b,v=.ref b/\IsTupleKey knd s.heap Z b)(h:Q false s) :
 wpAny (model prog w) A (searchCouldBeSeen (.ref a) st) Q E s:=by
 unfold searchCouldBeSeen;refine aa ?_;refine qw _ (λY r G=>r.1=none/\G=s/\∀v∈Y,∃Z b,v=.ref b/\IsTupleKey knd s.heap Z b) _ ?_ ?_ _ _ (rfl,rfl,N)
 .rintro v Y r G ⟨J,rfl,B⟩
  let(L,b,rfl,C):=B v dw;have T:∀v∈Y,∃Z b,v=.ref b/\IsTupleKey knd G.heap Z b:=λv P=>B v (bu _ P)
  dsimp only;split
  .exact aj (rfl,rfl,T)
  .refine aa (wpAny_eqIsQuiet_tuple O ?_)
   simp only[rm,dq,jq];refine aa (wpAny_eqIsQuiet_tuple C ?_);simp only[rm,dq,jq];refine aa (Yh O ?_);simp only[dq,jq];refine aa (Yh C ?_);simp only[dq,jq];exact aj (rfl,rfl,T)
 .rintro⟨S,R⟩ G ⟨J,rfl,_⟩
  simp only at J;subst J;exact aj h
noncomputable def ent(knd:KeyKind prog w K)(x:List K×Addr):Int×Value:=(tupleKeyHash knd x.1,.ref x.2)
def ahz{Y:Array (Int×Value)}{T:List (List K×Addr)}(G:Y.toList=T.map (ent knd))(j:Nat):Y[j]?=(T[j]?).map (ent knd):=by rw[<-m9,G,ir]
def amg{C:List (List K×Addr)}(hu:A.units<cLine)(hk:IsTupleKey knd s.heap k p)(ho:s.heap.get? a\o)(hd:o.data=.set Z ep t)(T:TOk t Z)(W:Z.toList=C.map (ent knd))(hx:∀x∈C,IsTupleKey knd s.heap x.1 x.2)(hn:(C.map (·.1)).Nodup)(F:Fst t (tupleKeyHash knd k) N)(q5:∀(i:Nat) x,C[i]?\x->x.1=k->Q (.there (if adding then none else some i)) s)(q0:(∀x∈C,x.1≠k)->Q (.free (P t.mask (tupleKeyHash knd k) N).j false) s) :
 ∀(Y n:Nat)(st:Option Probe),n<=N->N-n<Y->st.getD (t.probeStart (tupleKeyHash knd k))=P t.mask (tupleKeyHash knd k) n ->
  (∀m,m<n->∀(i:Nat) x,t.place[i]?\(P t.mask (tupleKeyHash knd k) m).j->C[i]?\x->x.1≠k) ->
  wpAny (model prog w) A (setSearchFrom a (.ref p) (tupleKeyHash knd k) adding Y st) Q E s:=by
 intro Y
 induction Y with
 |zero=>intro n st _ l;omega
 |succ Y ih =>
  intro n st qk l q7 M;unfold setSearchFrom;refine aa (j8 ho hd T.fits ?_);dsimp only;rw[T.way,q7];simp only[dq,jq];have q1:=apg T F (λi=>(Z[i]?.map (·.1)).getD 0) (10*turns t.mask) n qk (by have:=F.lt;exact c_ C_ this);generalize B:t.probe _ (tupleKeyHash knd k) (P t.mask (tupleKeyHash knd k) n)=pr;have B:t.probe (λi=>(Z[i]?.map (·.1)).getD 0) (tupleKeyHash knd k) (P t.mask (tupleKeyHash knd k) n)=pr:=B;have atI:∀(i j:Nat),t.place[i]?\j->∃x,C[i]?\x/\Z[i]?\(ent knd x):=λi j e=>by
   have li:i<Z.size:=by rw[<-T.siz];exact(j6.mp e).1
   have lx:i<C.length:=by have:=t7 List.length W;simp at this;exact b_ li (f_ this)
   refine(C[i],by simp[lx],?_);rw[ahz W];simp[lx]
  rcases q1 with⟨e,q2⟩|⟨m,i,h1,h2,h3,h4,h5,e⟩
  .have e:pr=_:=B.symm.trans e
   subst e;dsimp only;refine aj (q0 λx q6 G=>?_);let(i,hi):=vg.mp q6;have J:Z[i]?\(ent knd x):=by rw[ahz W,hi];rfl
   let(m,lm,hp):=T.ahead F J (by unfold ent;rw[G])
   by_cases D:m<n
   .exact M m D i x hp hi G
   .refine q2 m (s_ D) lm i hp ?_
    rw[J];show tupleKeyHash knd x.1=_;rw[G]
  .have e:pr=_:=B.symm.trans e
   subst e;dsimp only;let(x,H,J):=atI i _ h3;have q4:=hx x (bf H);have V:∀{R:Bool->Shared->Prop},R false s->wpAny (model prog w) A (searchCouldBeSeen (.ref p) ((Z.filter (·.1==tupleKeyHash knd k)).toList.map (·.2))) R E s:=λhR=>apl hk (λv hv=>by
    let(y,hy,rfl):=bh.mp hv;have I:y∈Z.toList:=by simp at hy;simpa using hy.1
    rw[W]at I;let(z,hz,rfl):=bh.mp I;exact(z.1,z.2,rfl,hx z hz)) hR
   rcases Bool.eq_false_or_eq_true t.led with a92|a92
   all_goals
    simp only[a92,rm,Ai,dq,jq,mq]
    first
    |(rw[J];show wpAny _ _ (holding [.ref x.2] (eqBool (.ref x.2) (.ref p))>>=_) _ _ _)
    |(refine aa (V ?_);simp only[dq,jq];rw[J];show wpAny _ _ (holding [.ref x.2] (eqBool (.ref x.2) (.ref p))>>=_) _ _ _)
    refine aa (ji (wpAny_eqBool_tuple hu q4 hk ?_));refine aa (j8 ho hd T.fits ?_);dsimp only;have qq:t.sameMemory t.moves t.mask\true:=by unfold sameMemory;simp
    rw[qq];dsimp only;rw[dm rfl,(Vp T.srt).mpr h3];dsimp only;rw[J]
    by_cases G:x.1=k
    .have L:decide (x.1=k)=true:=by simp[G]
     rw[L];have hq:=q5 i x H G;cases adding
     .simp only[Bool.false_and,dq,jq]
      refine aa (wpAny_isSame_ref_self ?_);refine aa (aj ?_);simpa using aj hq
     .simp only[Bool.and_self,mq]
      exact aj hq
    .have L:decide (x.1=k)=false:=by simp[G]
     rw[L];simp only[Bool.and_false,dq,jq];refine aa (wpAny_isSame_ref_self ?_);refine aa (aj ?_);simp only[mq];refine ih (m+1) _ h2 (by lia) rfl λX q8 U x' S O=>?_
     by_cases hc:X<n
     .exact M X hc U x' S O
     .by_cases hm:X=m
      .subst hm
       have ei:U=i:=by rw[<-below_at T.srt S,<-below_at T.srt h3]
       subst ei;rw[H]at O;cases O;exact G
      .intro qv
       have q3:Z[U]?\(ent knd x'):=by rw[ahz W,O];rfl
       refine h5 X (s_ hc) (by lia) U S ?_;rw[q3];show tupleKeyHash knd x'.1=_;rw[qv]
end
section
variable{prog:Program}{w:World}{K:Type}[DecidableEq K]{knd:KeyKind prog w K}{pk:List K×Addr->Prop}{A:Around}{E:Y1}{s:Shared}
noncomputable abbrev bt(w:World):Bool:=w.params.followText "set-order"
def Xu(h:Q (bt w) s):wpAny (model prog w) A setsByText Q E s:=by unfold setsByText;exact aa (wpAny_askSetting (aj h))
def Vr(knd:KeyKind prog w K)(pk:List K×Addr->Prop):Prop:=∀x,pk x->∀k∈x.1,∀v n,knd.is k v=true->hashByValue n v=pure true
def ae9{G:List K}{T:Zl}(h:ItemsAre knd G T)(J:∀k∈G,∀v n,knd.is k v=true->hashByValue n v=pure true):∀v∈T,∀n,hashByValue n v=pure true:=by
 induction h with
 |nil=>simp
 |cons h t O =>
  intro v Y;rcases dh.mp Y with rfl|Y
  .exact λn=>J _ dw _ n h
  .exact O (λk B=>J k (bu _ B)) v Y
def ah0(B:Vr knd pk)(N:IsTupleKey knd s.heap Z a)(H:pk (Z,a))(h:Q true s):wpAny (model prog w) A (hashByValue 8 (.ref a)) Q E s:=by
 have L:=N.typeIs;let(o,T,n,S,_,R,P):=N;unfold hashByValue;refine aa (wpAny_specialOf L F.slot_tuple_hash.lookup ?_);dsimp only;refine aa (ur S R ?_);refine aa ?_;show wpAny _ _ (forIn T _ _) _ _ s;rw[<-Array.forIn_toList];refine qw _ (λY r G=>r.1=none/\G=s/\∀v∈Y,∀n,hashByValue n v=pure true) _ ?_ ?_ _ _ (rfl,rfl,ae9 P (B _ H))
 .rintro v Y r G ⟨J,rfl,C⟩
  rw[C v dw];refine aa (aj ?_);simp only[rm,dq,jq];exact aj (rfl,rfl,λu O=>C u (bu _ O))
 .rintro⟨W,V⟩ G ⟨J,rfl,_⟩
  simp only at J;subst J;exact aj h
structure Vs(knd:KeyKind prog w K)(pk:List K×Addr->Prop)(h:Heap)(a:Addr)(xs:List (List K×Addr))(o:Obj)(es:Array (Int×Value))(ep:Nat)(t:SetTable):Prop where
 get:h.get? a\o
 exa:o.ExactSet
 dat:o.data=.set es ep t
 tab:TOk t es
 ent:es.toList=xs.map (ent knd)
 keys:∀x∈xs,IsTupleKey knd h x.1 x.2/\pk x
 nod:(xs.map (·.1)).Nodup
 led:t.led=!bt w
 pla:t.plain=true
def Fe(knd:KeyKind prog w K)(pk:List K×Addr->Prop)(h:Heap)(a:Addr)(S:List K->Prop)(n:Nat):Prop:=∃Y o T G t,Vs knd pk h a Y o T G t/\(∀k,S k↔k∈Y.map (·.1))/\Y.length=n/\t.place.size*5<t.mask*3
theorem Vs.size(X:Vs knd pk h a U o Z ep t):Z.size=U.length:=by have:=t7 List.length X.ent;simpa using this
def apm(p:Addr)(Y:Array (Int×Value)):byScan (.ref p) Y=false:=by unfold byScan;simp[Value.scannable]
def apn(h:Msk m):10*turns m<100000:=by rcases h with rfl|rfl|rfl|rfl|rfl<;>decide
def Yi(B:A.units<cLine)(G:IsTupleKey knd s.heap k p)(X:Vs knd pk s.heap a Z o U ep t)(F:Fst t (tupleKeyHash knd k) N)(Y:∀(i:Nat) x,Z[i]?\x->x.1=k->Q (.there (if adding then none else some i)) s)(T:(∀x∈Z,x.1≠k)->Q (.free (P t.mask (tupleKeyHash knd k) N).j false) s) :
 wpAny (model prog w) A (setSearch a (.ref p) (tupleKeyHash knd k) adding) Q E s:=by
 unfold setSearch;exact amg B G X.get X.dat X.tab X.ent (λx J=>(X.keys x J).1) X.nod F Y T 100000 0 none (jd _) (by have:=F.lt;have:=apn X.tab.msk;lia) (ae7 _ _) (λm l=>by lia)
def awg(C:A.units<cLine)(J:IsTupleKey knd s.heap k p)(L:Fe knd pk s.heap a S n)(h:∀r:Option Nat,(r.isSome=true↔S k)->Q r s):wpAny (model prog w) A (setFind a (.ref p) (tupleKeyHash knd k)) Q E s:=by
 let(R,o,P,H,t,X,G,_,_):=L;let(N,F):=X.tab.fst (tupleKeyHash knd k);unfold setFind setFindIn;refine aa (j8 X.get X.dat X.tab.fits ?_);dsimp only;rw[apm];simp only[dq,jq];refine aa (Yi C J X F (λi x B Y=>?_) (λT=>?_))
 .simp only[dq,jq]
  exact aj (h _ (by simp;exact(G k).mpr (bh.mpr (x,bf B,Y))))
 .dsimp only
  refine aj (h _ ?_);simp only[Option.isSome_none,dq,false_iff];intro O;let(x,Y,e):=bh.mp ((G k).mp O);exact T x Y e
end
def Fq{G C:Type}{f:G->C}:∀{l B:List C},l.Perm B->∀{xs:List G},B=xs.map f->∃Z:List G,l=Z.map f/\Z.Perm xs:=by
 intro l B p
 induction p with
 |nil=>intro xs e;cases xs with
  |nil=>exact([],rfl,.nil)|cons _ _=>cases e
 |cons a p E =>
  intro xs e;cases xs with
  |nil=>cases e
  |cons x xs =>
   simp only[f9,Cv]at e;let(Z,Y,T):=E e.2;exact(x::Z,by simp[Y,e.1],T.cons x)
 |swap a b l =>
  intro xs e
  match xs,e with
  |x::y::xs,e =>
   simp only[f9,Cv]at e;let(rfl,rfl,rfl):=e;exact(y::x::xs,rfl,.swap x y xs)
 |trans p q J O =>
  intro xs e;let(R,Y,T):=O e;let(P,L,N):=J Y;exact(P,L,N.trans T)
section
variable{prog:Program}{w:World}{K:Type}[DecidableEq K]{knd:KeyKind prog w K}{pk:List K×Addr->Prop}{A:Around}{E:Y1}{s:Shared}
def apo(x:IsTupleKey knd h Z p)(L:h.get? a\o)(B:o.data=.set es ep t)(C:Heap.SameBut a h U):IsTupleKey knd U Z p:=by
 let(J,T,n,G,N,Y,O):=x;have P:p≠a:=by rintro rfl;obtain rfl:J=o:=mj (G.symm.trans L);rw[B]at Y;exact nomatch Y
 exact(J,T,n,(C.2 p P).trans G,N,Y,O)
def newX(X:Vs knd pk h a xs o es ep t)(J:TOk t' Z)(B:Z.toList=U.map (ent knd))(Y:∀x∈U,IsTupleKey knd h x.1 x.2/\pk x)(N:(U.map (·.1)).Nodup)(G:t'.led=!bt w)(C:t'.plain=true) :
 Vs knd pk (h.update a (Obj.putSet Z t')) a U { o with data:=.set Z (ep+1) t' } Z (ep+1) t':=by
 have O:(h.update a (Obj.putSet Z t')).get? a=some { o with data:=.set Z (ep+1) t' }:=by have:=ph (Obj.putSet Z t') X.get (by rw[putSet_of Z t' X.dat];rfl);rw[putSet_of Z t' X.dat]at this;exact this
 exact(O,X.exa,rfl,J,B,λx T=>(apo (Y x T).1 X.get X.dat (jz h a _),(Y x T).2),N,G,C)
def Ma(h:n<=128):n<=sizeLine:=by rw[ue];exact a_ h ⋯
def afa(X:Vs knd pk s.heap a xs o Z ep t)(R:Msk (sizeAbove wanted-1))(J:Z.size<=sizeAbove wanted-1)(B:sizeAbove wanted<=128)(h:∀h' U o' qk qq t',Heap.SameBut a s.heap h'->Vs knd pk h' a U o' qk qq t'->U.Perm xs->t'.mask=sizeAbove wanted-1->t'.place.size=Z.size->Q () { s with heap:=h' }) :
 wpAny (model prog w) A (setRelay a wanted) Q E s:=by
 let(t',Y,e,S,O,p,sz,N,H,_):=ajy R t.finger (t.movedTo (sizeAbove wanted-1)) t.led t.plain Z J;unfold setRelay;refine aa (j8 X.get X.dat X.tab.fits ?_);dsimp only;rw[cz (by have:=Ma B;exact j_ this)];have W:t.relaid (Z.map (·.1)) wanted\(t',Y):=e;rw[W];refine aa ?_;have T:wpAny (model prog w) A (if((Y.filterMap (Z[·]?)).size != Z.size)=true then(do unsupported "internal:set-table-lost-an-element";pure (Prod.mk (Y.filterMap (Z[·]?)) t'))else pure (Prod.mk (Y.filterMap (Z[·]?)) t'))
  (λr C=>wpAny (model prog w) A (storeSet a r.1 r.2) Q E C) E s:=by
  rw[cz (by simp[sz])];refine aj ?_;let(U,P,G):=Fq p X.ent;have L:=newX X O P (λx V=>X.keys x (G.mem_iff.mp V)) ((G.map _).nodup_iff.mpr X.nod) (N.trans X.led) (H.trans X.pla);refine wpAny_storeSet_of X.get X.dat (h _ _ _ _ _ _ (jz s.heap a _) L G S (by rw[O.siz,sz])) (Ma (by rw[sz];exact a_ J (a_ C_ B)))
 exact T
def aco(V:Vr knd pk)(hu:A.units<cLine)(u:IsTupleKey knd s.heap k p)(hp:pk (k,p))(hS:Fe knd pk s.heap a S n)(m:n+1<32)(h:∀U n' b,Heap.SameBut a s.heap U->Fe knd pk U a (λZ=>S Z\/Z=k) n'->n'<=n+1->Q b { s with heap:=U }) :
 wpAny (model prog w) A (setAddHashed a (.ref p) (tupleKeyHash knd k)) Q E s:=by
 let(g,o,O,ep,t,X,W,R,nf):=hS;let(N,F):=X.tab.fst (tupleKeyHash knd k);have C:=X.size;unfold setAddHashed setAddHashedIn;refine ji (aa (j8 X.get X.dat X.tab.fits ?_));dsimp only;rw[apm];simp only[dq,jq];refine aa (Yi hu u X F (λi x hi G=>?_) (λI=>?_))
 .dsimp only
  refine aj ?_;have D:S k:=(W k).mpr (bh.mpr (x,bf hi,G));have:=h s.heap n false (Heap.SameBut.refl a s.heap) (g,o,O,ep,t,X,λZ=>by
   rw[<-W Z];exact(λh=>h.elim id (λe=>e▸D),.inl),R,nf) x_
  exact this
 .dsimp only
  refine aa (j8 X.get X.dat X.tab.fits ?_);dsimp only;have room:t.place.size+1<=t.mask:=by have:=X.tab.msk;rcases this with e|e|e|e|e<;>lia
  have q:=X.tab.put (x:=.ref p) F room;have Kq:(t.put (P t.mask (tupleKeyHash knd k) N).j).1.plain=true:=X.pla;rw[Kq];simp only[mq];refine aa (ah0 V u hp ?_);simp only[mq];let(T,ex,l):=Fq (f:=ent knd) (insertAt_perm O (t.put (P t.mask (tupleKeyHash knd k) N).j).2 (tupleKeyHash knd k,.ref p)) (xs:=g++[(k,p)]) (by rw[Bk,X.ent,jc];rfl);have pm:=l.map (·.1);have y:(T.map (·.1)).Nodup:=pm.nodup_iff.mpr (by
   rw[jc,Ab];refine(X.nod,by simp,λa ha b d=>?_);simp at d;subst d;rintro rfl;let(x,G,e):=bh.mp ha;exact I x G e)
  have Yj:∀x∈T,IsTupleKey knd s.heap x.1 x.2/\pk x:=λx G=>by
   rcases dz.mp (l.mem_iff.mp G)with G|G
   .exact X.keys x G
   .simp at G;subst G;exact(u,hp)
  have r:=newX X q ex Yj y X.led X.pla;have c:∀Z,(S Z\/Z=k)↔Z∈T.map (·.1):=λZ=>by rw[pm.mem_iff,jc,dz,W Z];simp
  have B:T.length=n+1:=by rw[l.length_eq];simp[R]
  have J:(insertAt O (t.put (P t.mask (tupleKeyHash knd k) N).j).2 (tupleKeyHash knd k,.ref p)).size=O.size+1:=Px _ _ _;refine aa (wpAny_storeSet_of X.get X.dat ?_ (Ma (by rw[J];exact e_ (c_ (v_ (f_ C)) (c_ (v_ (f_ R)) (b_ m ⋯))))));have L:(t.put (P t.mask (tupleKeyHash knd k) N).j).1.place.size=O.size+1:=by rw[q.siz,J]
  by_cases Y:(t.put (P t.mask (tupleKeyHash knd k) N).j).1.tooFull=true
  .rw[Y]
   simp only[Ai,Bool.and_self,mq];let(g1,g2,g3,g4,g5):=aa9 (O.size+1) (c_ (v_ (f_ C)) (c_ (v_ (f_ R)) m));refine aa (afa r g1 (by rw[J];exact g2) g5 λU z o2 H M t2 sb X2 v em ps=>?_);refine aj (h U (n+1) true ((jz s.heap a _).trans sb) (z,o2,H,M,t2,X2,λZ=>?_,by rw[v.length_eq,B],?_) (bz _))
   .exact(c Z).trans (v.map (·.1)).mem_iff.symm
   .rw[ps,em,J];exact t_ g4
  .rw[Bool.not_eq_true]at Y
   rw[Y];simp only[Bool.and_false,dq,jq];refine aj (h _ (n+1) true (jz s.heap a _) (T,_,_,_,_,r,c,B,?_) (bz _));unfold tooFull at Y;have hf:(t.put (P t.mask (tupleKeyHash knd k) N).j).1.fill=O.size+1:=by unfold fill;rw[L,q.dum];rfl
   rw[hf]at Y;rw[L];simp at Y;exact Y
end
open PySem
def upto(J:Nat->β->Shared->Prop)(Y:∀i b z,i<n->J i b z->wpAny M A (f i b) (λr U=>match r with|.yield Z=>J (i+1) Z U|.done Z=>Q Z U) E z)(fin:∀b z,J n b z->Q b z)(start:J 0 b s) :
 wpAny M A (forIn [:n] b f) Q E s:=by
 have go:∀(k i:Nat)(b:β)(z:Shared),n=i+k->J i b z->wpAny M A (forIn (List.range' i k) b f) Q E z:=by
  intro k
  induction k with
  |zero=>intro i b z e G;subst e;exact aj (fin b z G)
  |succ k B =>
   intro i b z e G;show wpAny M A (forIn (i::List.range' (i+1) k) b f) Q E z;rw[List.forIn_cons];refine aa (kj (Y i b z (by lia) G) (λr U T=>?_) λ_ _ x=>x)
   match r,T with
   |.done Z,T=>exact aj T|.yield Z,T=>exact B (i+1) Z U (by lia) T
 have e:(forIn [:n] b f:Sem β)=forIn (List.range' 0 n) b f:=by rw[Std.Legacy.Range.forIn_eq_forIn_range'];simp[Std.Legacy.Range.size]
 rw[e];exact go n 0 b s (by lia) start
def sub_dict_set:isSubtype (.type "dict") (.type "set")=pure false:=by rw[isSubtype_type];kernel_rfl
def sub_dict_frozenset:isSubtype (.type "dict") (.type "frozenset")=pure false:=by rw[isSubtype_type];kernel_rfl
section
variable{prog:Program}{w:World}{K:Type}[DecidableEq K]{knd:KeyKind prog w K}{pk:List K×Addr->Prop}{A:Around}{E:Y1}{s:Shared}
def Im(Y:s.TypeIs v T)(G:isSubtype (.type T) (.type "set")=pure false)(J:isSubtype (.type T) (.type "frozenset")=pure false)(h:Q false s) :
 wpAny (model prog w) A (Builtin.Frozenset.isAnySet v) Q E s:=by
 unfold Builtin.Frozenset.isAnySet;refine aa (o7 Y G ?_);exact o7 Y J h
def bf8(Y:s.TypeIs v "set")(h:Q true s):wpAny (model prog w) A (Builtin.Frozenset.isAnySet v) Q E s:=by unfold Builtin.Frozenset.isAnySet;refine aa (o7 Y sub_set_self ?_);exact aj h
def Bw(w:World):Obj:={ cls:=.type "set",dict:=none,data:=.set #[] 0 (.fresh 0 0 (!bt w)) }
def awj(T:h.get? a\(Bw w)):Fe knd pk h a (λ_=>False) 0:=
 ([],Bw w,#[],0,_,(T,(rfl,rfl,rfl),rfl,(.inl rfl,rfl,rfl,λi j a b e=>by simp[SetTable.fresh]at e,λi j e=>by simp[SetTable.fresh]at e,by simp[SetTable.fresh],λi j e a=>by simp[SetTable.fresh]at a),
  rfl,λx Y=>by simp at Y,Bt,rfl,rfl),λk=>by simp,rfl,by simp[SetTable.fresh])
def awk(hS:Fe knd pk s.heap a S n)(P:n+m<64)(h:∀Z,Heap.SameBut a s.heap Z->Fe knd pk Z a S n->Q () { s with heap:=Z }):wpAny (model prog w) A (setRoomFor a m) Q E s:=by
 let(xs,o,V,U,t,X,L,B,H):=hS;have G:=X.size;unfold setRoomFor;refine aa (j8 X.get X.dat X.tab.fits ?_);dsimp only;unfold roomFor;have C:=X.tab.siz;split
 .rename_i Y e
  split at e
  .cases e
   let(I,g2,g3,D):=apk (t.place.size+m) (c_ (v_ (f_ C)) (c_ (v_ (f_ G)) (c_ (v_ (f_ B)) P)));refine afa X I (by lia) D λZ O F T J t2 sb M N em W=>h Z sb (O,F,T,J,t2,M,λR=>?_,by rw[N.length_eq,B],?_)
   .exact(L R).trans (N.map (·.1)).mem_iff.symm
   .rw[W,em];lia
  .cases e
 .exact aj (h s.heap (Heap.SameBut.refl _ _) (xs,o,V,U,t,X,L,B,H))
theorem Fe.get(Y:Fe knd pk h a S n):∃o Z U t,h.get? a\o/\o.ExactSet/\o.data=.set Z U t/\t.fits Z.size=true:=
 let (_,o,Z,U,t,X,_):=Y;(o,Z,U,t,X.get,X.exa,X.dat,X.tab.fits)
def Fe.typeIs(Y:Fe knd pk s.heap a S n):s.TypeIs (.ref a) "set":=
 let (o,_,_,_,ho,hc,_):=Y.get;(o,ho,hc.1)
def Fe.congr(G:Fe knd pk h a S n)(e:∀k,S k↔Z k):Fe knd pk h a Z n:=
 by let(T,o,Y,B,t,X,J,r):=G;exact(T,o,Y,B,t,X,λk=>(e k).symm.trans (J k),r)
def apr(X:Vr knd pk){id:String}(hu:A.units<cLine)(hS:Fe knd pk s.heap a S n)(hd:s.heap.DictOfH (tupleKind knd) d Z)(qk:(d==sysModules)=false)(I:∀x∈Z,pk (x.1,x.2.1))(hl:n+Z.length<31)(h:∀U n',Heap.SameBut a s.heap U->Fe knd pk U a (λk=>S k\/k∈Z.map (·.1)) n'->Q () { s with heap:=U }) :
 wpAny (model prog w) A (Builtin.Frozenset.updateFrom id a (.ref d)) Q E s:=by
 have hT:=hd.typeIs;let(od,N,zq,T,q4,Y,L,qq,q6):=hd;let(o0,zz,q3,t0,B,q8,O,q7):=hS.get;have F:d≠a:=by rintro rfl;rw[T]at B;cases B;rw[Y]at O;cases O
 have J:N.size=Z.length:=size_of_entries L;unfold Builtin.Frozenset.updateFrom;refine aa (Im hT sub_dict_set sub_dict_frozenset ?_);simp only[dq,jq];refine aa (vy hT ?_);rw[dm ⋯];refine aa (o6 ?_);refine aa (m:=Builtin.Frozenset.addrOf (.ref d)) (aj ?_);rw[cz (by rw[qk];decide)];refine aa (wpAny_dictEpoch T Y ?_);refine aa (um T Y ?_);refine aa (awk hS (by lia) λh1 P W=>?_);have M:h1.get? d\od:=(P.2 d F).trans T;refine aa (um M Y ?_);refine aa ?_;refine upto (λi _ z=>∃U n',z={ s with heap:=U }/\Fe knd pk U a (λk=>S k\/k∈(Z.take i).map (·.1)) n'/\n'<=n+i/\Heap.SameBut a s.heap U) (λi _ z lt C=>?_) (λ_ z C=>?_) (h1,n,rfl,W.congr (λk=>by simp),x_,P)
 .let(U,n',rfl,D,Rx,G):=C
  have R:U.get? d\od:=(G.2 d F).trans T;refine aa (um R Y ?_);have V:i<Z.length:=b_ lt (f_ J)
  have he:N[i]?\(entryOfKey (tupleKind knd) Z[i]):=by rw[entry_at L];simp[V]
  rw[he];have qv:IsTupleKey knd U Z[i].1 Z[i].2.1:=apo (qq _ (m5 V)) B O G;show wpAny _ _ (holding [.ref Z[i].2.1] (setAddHashed a (.ref Z[i].2.1) (tupleKeyHash knd Z[i].1))>>=_) _ _ _;refine aa (ji (aco (s:={ s with heap:=U }) X hu qv (I _ (m5 V)) D (by lia) λq1 q2 b H q0 q5=>?_));refine aa (wpAny_dictEpoch ((H.2 d F).trans R) Y ?_);rw[yw];refine aj (q1,q2,rfl,q0.congr (λk=>?_),by lia,G.trans H);rw[List.take_add_one,jc,dz,show Z[i]?=some Z[i]by simp[V]];simp[or_assoc]
 .let(U,n',rfl,D,Rx,G):=C
  refine aj (h U n' G (D.congr λk=>?_));rw[Ba (g_ J)]
end
section
variable{prog:Program}{w:World}{K:Type}[DecidableEq K]{knd:KeyKind prog w K}{pk:List K×Addr->Prop}{A:Around}{E:Y1}{s:Shared}
def awm(Y:R (.ref s.heap.objs.size) { s with heap:=s.heap.push (Bw w) }) :
 codeAny (model prog w) A (.call (.builtin "set.__new__") ([.type "set",v],[])) (wants R E) s:=by
 refine codeAny_call_builtin F.plain_set_new F.entry_set_new (wpAny_of_eq (F.newCall_set_1 v) ?_);have T:=sub_set_self;unfold Builtin.«set.__new__» Builtin.Frozenset.newClass
 wp_walk
 exact wpAny_askSetting (aj (aa (wpAny_alloc (aj (aj Y)))))
set_option maxHeartbeats 3200000 in
def Py{R:Shared->Prop}(B:wpAny (model prog w) A.in1.in1 (Builtin.Frozenset.updateFrom "set.__init__" s.heap.objs.size x) (λ_ Z=>R Z) E { s with heap:=s.heap.push (Bw w) })(h:∀Z,R Z->Q (.ref s.heap.objs.size) Z) :
 wpAny (model prog w) A (call (.type "set") [x]) Q E s:=by
 let(c,U,H):=vq.mro;have D:=vq.made;have X:=vq.sub;refine wpAny_call (codeAny_of_tree ?_);show wpAny _ _ (callAny (.type "set") _) _ _ _;refine aj (Code.quiet_builtin _ ∅,qd F.entry_type_call ?_);rw[Around.under_plain (weight_type_call_type "set" [x] []) rfl];have h1:=vq.notType;have h2:=vq.canCreate;have P:=F.typeCall_set_1 x
 repeat (any_goals (first|assumption|wp_step))
 refine yj (awm (v:=x) (E:=E) (R:=λobj T=>obj=.ref s.heap.objs.size/\T={ s with heap:=s.heap.push (Bw w) }) (rfl,rfl)) λr T C=>?_
 cases r with
 |error e=>exact C
 |ok V =>
  cases V with
  |ret obj =>
   let(rfl,rfl):=C;have L:(s.heap.push (Bw w)).get? s.heap.objs.size\(Bw w):=dg _ rfl;have N:Shared.TypeIs { s with heap:=s.heap.push (Bw w) } (.ref s.heap.objs.size) "set":= (_,L,rfl);have M:=vq.init.lookup;have S:=vq.init.bind (.ref s.heap.objs.size)
   repeat (any_goals (first|assumption|wp_step))
   refine yj (codeAny_call_builtin (R:=wants (λr G=>r=.none/\R G) E) vq.init.plain F.entry_set_init (check_set_init_1 N ?_)) λO G Y=>?_
   .unfold Builtin.«set.__init__» noKeywords
    generalize hUF:Builtin.Frozenset.updateFrom=UF at B⊢;unfold Bw at L N B⊢
    wp_walk
    exact kj B (λ_ Z C=>aj (rfl,C)) (λe Z W=>W)
   .cases O with
    |error e=>exact Y
    |ok J =>
     cases J with
     |ret r =>
      let(rfl,I):=Y
      repeat (any_goals (first|assumption|wp_step))
      exact h _ I
     |_=>exact Y.elim
  |_=>exact C.elim
end
open PyProof.Rows (F.entry_set_update_loop F.plain_set_update_loop)
section
variable{prog:Program}{w:World}{K:Type}[DecidableEq K]{knd:KeyKind prog w K}{pk:List K×Addr->Prop}{A:Around}{E:Y1}{s:Shared}
def Vt{wr:X9}(Y:IsTupleKey knd h U p)(G:p∉wr)(T:∀b o,b∉wr->h.get? b\o->Z.get? b\o):IsTupleKey knd Z U p:=
 let (o,items,n,ho,r):=Y;(o,items,n,T p o G ho,r)
def Fe.moved{wr:X9}(B:Fe knd pk h a S n)(G:a∉wr)(O:∀(b:Addr) (Z:List K),b∈wr->¬IsTupleKey knd h Z b)(T:∀b o,b∉wr->h.get? b\o->U.get? b\o):Fe knd pk U a S n:=
 let (xs,o,es,ep,t,X,r):=B
 (xs,o,es,ep,t,(T a o G X.get,X.exa,X.dat,X.tab,X.ent,λx Y=>(Vt (X.keys x Y).1 (λJ=>O _ _ J (X.keys x Y).1) T,(X.keys x Y).2),X.nod,X.led,X.pla),r)
def awn(q1:Vr knd pk){I:Addr}{P:Nat->Value->Prop}(hu:A.in1.units<cLine)(W:WalksS prog w A.in1 I fp wr G n P St)(a:Addr)(L:a∉fp)(Y:List (List K×Addr))(H:Y.length=n)(q8:∀i v x,P i v->Y[i]?\x->v=.ref x.2)(qv:∀x∈Y,pk x)(C:n<31)(q3:∀x∈Y,x.2∉wr)(Q:∀i (s:Shared),St i s->∀(b:Addr) (Y:List K),b∈wr->¬IsTupleKey knd s.heap Y b) :
 ∀(k i V:Nat)(s:Shared),n-i=k->i<=n->St i s->(∀x∈Y,IsTupleKey knd s.heap x.1 x.2) ->
  Fe knd pk s.heap a (λU=>U∈(Y.take i).map (·.1)) V->V<=i ->
  (∀Z q0,Moved (a::wr) G s Z->Fe knd pk Z.heap a (λU=>U∈Y.map (·.1)) q0->R (.ok (.ret .none)) Z) ->
  codeAny (model prog w) A (.builtin "set.update.loop" ([.ref a,.ref I],[])) R s:=by
 have S:a∉wr:=λh=>L (W.sub _ h)
 have M:∀b∈wr,b∈a::wr:=λb C=>bu _ C
 intro k
 induction k with
 |zero =>
  intro i V s hk hi T Yj hS Rx hR;have q7:i=n:=by lia
  subst q7;refine qd ux ?_;rw[m7 o5 _];show wpAny _ A.in1 (pyNext (.ref I)>>=_) _ _ s;refine aa (W.done s _ _ T λZ N=>?_);show wpAny _ A.in1 (ret Value.none) _ _ Z;refine aj (hR Z V (N.mono M) ((hS.moved S (Q _ s T) N.heap).congr λk=>?_));rw[Ba (f_ H)]
 |succ k ih =>
  intro i V s hk hi T Yj hS Rx hR;have X:i<n:=by lia
  refine qd ux ?_;rw[m7 o5 _];show wpAny _ A.in1 (pyNext (.ref I)>>=_) _ _ s;refine aa (W.item i s _ _ X T λv Z hP qq N=>?_);have lx:i<Y.length:=b_ X (g_ H)
  have F:Y[i]?=some Y[i]:=by simp[lx]
  obtain rfl:=q8 i v _ hP F;have O:=m5 lx;have Yk:=hS.moved S (Q _ s T) N.heap;have B:∀x∈Y,IsTupleKey knd Z.heap x.1 x.2:=λx D=>Vt (Yj x D) (q3 x D) N.heap
  show wpAny _ A.in1 (holding [Value.ref Y[i].2] (setAdd a (.ref Y[i].2))>>=_) _ _ Z;refine aa (ji ?_);unfold setAdd;refine ji ?_;refine aa (wpAny_pyHash_tuple hu (B _ O) ?_);refine aco (s:={ Z with toks:=Z.toks+(Y[i].1.length+1) }) q1 hu (B _ O) (qv _ O) Yk (by lia) λh' n2 b J q2 Xw=>?_
  let(oa,zk,zv,ta,qk,zz,q4,zu):=Yk.get;refine aj (plainId_quiet o5 _,ih (i+1) n2 _ (by lia) X (W.frame _ Z _ _ qq (zj _ _) λb C o e=>?_) (λx D=>apo (B x D) qk q4 J) (q2.congr λk=>?_) (a_ Xw (v_ Rx)) λzq n3 q6 q5=>?_)
  .rw[J.2 b (λh:b=a=>L (by rw[<-h];exact C))];exact e
  .rw[List.take_add_one,jc,dz,F];simp
  .refine hR zq n3 (Moved.trans W.gtrans ((N.mono M).then_heap (zj _ _) λb o C e=>?_) q6) q5
   rw[J.2 b (λh:b=a=>C (by rw[h];exact dw))];exact e
def apv(X:Vr knd pk){id:String}{ks:List (List K×Addr)}(hh:A.handled=none)(hu:A.in1.units+1<cLine)(hS:Fe knd pk s.heap a (λ_=>False) 0)(B:s.heap.IsList l items)(C:items.toList=ks.map λx=>.ref x.2)(Yj:∀x∈ks,IsTupleKey knd s.heap x.1 x.2)(I:∀x∈ks,pk x)(J:ks.length<31)(h:∀Z tk n',(∀b o,b≠a->s.heap.get? b\o->Z.get? b\o)->Fe knd pk Z a (λk=>k∈ks.map (·.1)) n'->Q () { s with heap:=Z,toks:=tk }) :
 wpAny (model prog w) A (Builtin.Frozenset.updateFrom id a (.ref l)) Q E s:=by
 have hT:s.TypeIs (.ref l) "list":= let (o,Y,G,_):=B;(o,Y,G);have O:items.size=ks.length:=by rw[<-u5,C];simp
 let(oa,q1,q3,ta,T,q0,N,q2):=hS.get;unfold Builtin.Frozenset.updateFrom;refine aa (Im hT F.sub_list_set F.sub_list_frozenset ?_);simp only[dq,jq];refine aa (vy hT ?_);rw[cz ⋯];refine aa (yu B ?_);refine aa (wpAny_runValue ?_);have Il:l<s.heap.objs.size:=let (o,Y,_):=B;cj Y
 have M:a<s.heap.objs.size:=cj T
 have D:l≠a:=by rintro rfl;let(o,Y,_,n,hd):=B;rw[Y]at T;cases T;rw[hd]at N;cases N
 have W:l≠s.heap.objs.size:=gn Il;have V:a∉[s.heap.objs.size,l]:=by simp only[dh,yg,or_false,not_or];exact(gn M,λe=>D e.symm)
 have keep:∀b o,s.heap.get? b\o->(s.heap.push { cls:=.type "list_iterator",data:=.fields #[.ref l,.int 0 0] }).get? b\o:=λb o e=>au _ e
 refine awn X (by lia) ((Walks.list (by simp[hh]) _ l W items).toS) a V ks O.symm (λi v x hv P=>?_) I (c_ (f_ O) J) (λx P G=>?_) (λi s' st b kk S qq=>?_) items.size 0 0 _ rfl (jd _)
  ((_,dg _ rfl,rfl,rfl),B.push _) (λx P=>Vt (wr:=[]) (Yj x P) (by simp) λb o _ e=>keep b o e) ?_ (bz _) ?_
 .have:items.toList[i]?\v:=by simpa using hv
  rw[C,ir,P]at this;exact(mj this).symm
 .simp at G
  let(o,_,_,Y,_):=Yj x P;have:=cj Y;rw[G]at this;exact o8 _ this
 .simp at S
  subst S;let(o,_,_,Y,G,_):=qq;let((o',L,R,_),_):=st;rw[Y]at L;cases L;rw[G]at R;exact absurd R ⋯
 .refine(hS.moved (wr:=[]) (by simp) (by simp) λb o _ e=>keep b o e).congr λk=>by simp
 .intro s' qv H Yk
  let(Z,g',d',qk,U):=s';have eg:g'=s.gens:=H.gens;have ed:d'=s.drawn:=H.drawn;have eo:U=s.os:=H.os;subst eg;subst ed;subst eo;show wpAny _ _ _ _ _ _;refine aj (h Z qk qv (λb o S e=>?_) Yk);refine H.heap b o ?_ (keep b o e);simp only[dh,yg,or_false,not_or];exact(S,gn (cj e))
end
theorem Yl{Y:Type}:∀{l:List Y}{i:Nat}(h:i<l.length),(l[i]::l.eraseIdx i).Perm l
 |x::l,0,_=>Aj _
 |x::l,i+1,h=>by
  have T:=Yl (l:=l) (i:=i) (by simpa using h);simp only[List.getElem_cons_succ,List.eraseIdx_cons_succ];exact(List.Perm.swap x _ _).trans (T.cons x)
theorem aj3{G:Type}(nx:Nat->Nat):∀(T k:Nat)(Y:List G)(out:Array G),Y.length=T->(pickOrder.go nx T k Y out).toList.Perm (out.toList++Y)
 |0,k,Y,out,h=>by
  have:Y=[]:=Ak.mp h;subst this;unfold pickOrder.go;simp
 |T+1,k,Y,out,h=>by
  unfold pickOrder.go;have J:nx k%Y.length<Y.length:=Nat.mod_lt _ (by lia)
  rw[bw J];dsimp only;refine(aj3 nx T (k+1) _ _ (by rw[List.length_eraseIdx];split<;>lia)).trans ?_;rw[Bk,w5];refine List.Perm.append_left _ ?_;exact Yl J
def aba(nx:Nat->Nat)(Y:Array α):(pickOrder nx Y).toList.Perm Y.toList:=by unfold pickOrder;simpa using aj3 nx Y.size 0 Y.toList #[] (by simp)
theorem Ym{J:Type}[DecidableEq J]:∀{Y l2:List J},Y.Nodup->Y ⊆ l2->l2.length<=Y.length->∀x∈l2,x∈Y
 |[],l2,_,_,h,x,hx=>by
  have:l2=[]:=Ak.mp (by simpa using h);subst this;simp at hx
 |a::Y,l2,hn,hs,h,x,hx=>by
  by_cases e:x=a
  .subst e;exact dw
  .refine bu _ ?_
   have B:a∈l2:=hs dw;have G:=ug.mp hn;refine Ym (l2:=l2.erase a) G.2 (λy T=>?_) ?_ x ((List.mem_erase_of_ne e).mpr hx)
   .exact(List.mem_erase_of_ne (λ(e:y=a)=>G.1 (by rw[<-e];exact T))).mpr (hs (bu _ T))
   .rw[List.length_erase_of_mem B];simp at h;omega
def acq:entryFor table "set.__ne__"= some Builtin.«frozenset.__ne__»:=
 entryFor_alias (id' :="frozenset.__ne__") (by kernel_rfl) rfl ∅ (by kernel_rfl)
def sub_set_frozenset:isSubtype (.type "set") (.type "frozenset")=pure false:=by rw[isSubtype_type];kernel_rfl
section
variable{prog:Program}{w:World}{K:Type}[DecidableEq K]{knd:KeyKind prog w K}{pk:List K×Addr->Prop}{A:Around}{E:Y1}{s:Shared}
def awq(X:Vs knd pk s.heap a U o Z ep t)(h:∀l,l.toList.Perm Z.toList->Q l s):wpAny (model prog w) A (setWalk a) Q E s:=by
 unfold setWalk;refine aa (j8 X.get X.dat X.tab.fits ?_);dsimp only;refine aa (Xu ?_);split
 .exact aa (wpAny_askSetting (aj (h _ (aba _ _))))
 .rename_i T
  have T:bt w=false:=by simpa using T
  split
  .rename_i Y
   have Y:(!t.plain&&decide (Z.size > 1))=true:=Y;rw[X.pla]at Y;cases Y
  .refine aa ?_
   have:wpAny (model prog w) A (if(!t.led&&decide (Z.size > 1))=true then unsupported "set:maker-not-led" else pure ()) (λ_ G=>wpAny (model prog w) A (pure Z) Q E G) E s:=by rw[X.led,T];simp only[Ai,rm,Bool.false_and,dq,jq];exact aj (aj (h Z (Aj _)))
   exact this
def amh(Y:IsTupleKey knd s.heap Z a)(h:Q false s):wpAny (model prog w) A (Builtin.Frozenset.quietEq (.ref a)) Q E s:=by
 unfold Builtin.Frozenset.quietEq;refine aa (wpAny_specialOf Y.typeIs F.slot_tuple_eq.lookup ?_);refine aj ?_;have:(some (Value.builtin "tuple.__eq__")==some (Value.builtin "object.__eq__"))=false:=by decide
 rw[this];exact h
def acr(X:Vs knd pk h a U o Z ep t)(Y:e∈Z.toList):∃x∈U,e=ent knd x:=by rw[X.ent]at Y;let(x,T,rfl):=bh.mp Y;exact(x,T,rfl)
def ami(X:Vs knd pk s.heap a xs o U ep t)(Y:Vs knd pk s.heap b ys o' qq Z t')(h:∀l:List (Int×Value),l.Perm U.toList->Q l s):wpAny (model prog w) A (Builtin.Frozenset.walkUnseen a b) Q E s:=by
 unfold Builtin.Frozenset.walkUnseen;refine aa (ou X.get X.dat X.tab.fits ?_);refine aa (ou Y.get Y.dat Y.tab.fits ?_);refine aa ?_;refine qw _ (λT r J=>r.1=none/\J=s/\∀e∈T,∃N p,e.2=.ref p/\IsTupleKey knd s.heap N p) _ ?_ ?_ _ _ (rfl,rfl,λe G=>?_)
 .rintro e T r J ⟨B,rfl,P⟩
  symm
  let(N,p,O,R):=P e dw;let(V,W):=e;subst O;apply _k;dsimp only;refine aa (amh R ?_);simp only[Ai,mq];unfold Builtin.Frozenset.walk;refine aa (aa (awq X λl L=>aj ?_));exact aj (aj (h _ L))
 .rintro⟨H,S⟩ J ⟨B,rfl,_⟩
  simp only at B;subst B;exact aj (h _ (Aj _))
 .rcases dz.mp G with G|G
  .let(x,C,rfl):=acr X G
   exact(x.1,x.2,rfl,(X.keys x C).1)
  .let(x,C,rfl):=acr Y G
   exact(x.1,x.2,rfl,(Y.keys x C).1)
def a3n{id:String}(U:A.units<cLine)(hS:Fe knd pk s.heap a S n)(F:Fe knd pk s.heap b T m)(h:∀c:Bool,(c=true↔n<=m/\∀k,S k->T k)->Q c s):wpAny (model prog w) A (Builtin.Frozenset.subsetOf id a b) Q E s:=by
 symm
 have P:=F;let(I,o,es,ep,t,X,W,hn,_):=hS;let(ys,o',Z,D,t',Y,qq,Rx,_):=F;have h1:=X.size;have h2:=Y.size;apply _k;unfold Builtin.Frozenset.subsetOf Builtin.Frozenset.sizeOf;refine aa (aa (ou X.get X.dat X.tab.fits (aj ?_)));refine aa (aa (ou Y.get Y.dat Y.tab.fits (aj ?_)));split
 .exact aj (h false (by simp;lia))
 .refine aa (wpAny_setEpoch_of X.get X.dat X.tab.fits ?_)
  refine aa (ami X Y λl H=>?_);refine aa ?_;refine qw _ (λJ r N=>r.1=none/\N=s/\(∀e∈J,∃x∈I,e=ent knd x)/\∀x∈I,ent knd x∈J\/T x.1) _ ?_ ?_ _ _ (rfl,rfl,λe L=>acr X (H.mem_iff.mp L),λx B=>.inl (H.mem_iff.mpr (by rw[X.ent];exact bh.mpr (x,B,rfl))))
  .rintro e J r N ⟨C,rfl,V,O⟩
   let(x,B,rfl):=V e dw;show wpAny _ _ (holding [.ref x.2] (setFind b (.ref x.2) (tupleKeyHash knd x.1))>>=_) _ _ _;refine aa (ji (awg U (X.keys x B).1 P λr C=>?_));cases r with
   |none =>
    simp only[Option.isNone_none,mq];refine aj (aj (h false ?_));simp only[dq,false_iff,not_and,Classical.not_forall];intro _;refine(x.1,(W x.1).mpr (bh.mpr (x,B,rfl)),λG=>?_);have:=C.mpr G;cases this
   |some i =>
    simp only[Option.isNone_some,dq,jq];unfold Builtin.Frozenset.unchanged;refine aa (aa (wpAny_setEpoch_of X.get X.dat X.tab.fits ?_));rw[cz (by simp)];refine aj (aj (rfl,rfl,λe L=>V e (bu _ L),λy M=>?_));rcases O y M with G|G
    .rcases dh.mp G with G|G
     .right
      have R:T x.1:=C.mp rfl;have e2:y.2=x.2:=by have:=t7 Prod.snd G;unfold ent at this;injection this
      have:y.1=x.1:=IsTupleKey.inj (X.keys y M).1 (by rw[e2];exact(X.keys x B).1);rw[this];exact R
     .exact .inl G
    .exact .inr G
  .rintro⟨r1,r2⟩ N ⟨C,rfl,_,O⟩
   simp only at C;subst C;refine aj (h true ?_);simp only[true_iff];refine(by lia,λk hk=>?_);let(x,B,rfl):=bh.mp ((W k).mp hk);rcases O x B with G|G
   .simp at G
   .exact G
def baa(hu:A.in1.units<cLine)(H:A.units<cLine)(O:Fe knd pk s.heap a S n)(C:Fe knd pk s.heap b T m)(h:∀c:Bool,(c=true↔¬∀k,S k↔T k)->Q (.bool c) s):wpAny (model prog w) A (compareOp .NotEq (.ref a) (.ref b)) Q E s:=by
 show wpAny _ _ (richCompare .NotEq (.ref a) (.ref b)) _ _ _;refine wpAny_richCompare_same_room (op:=.NotEq) O.typeIs C.typeIs F.slot_set_ne (jt F.slot_set_ne O.typeIs acq ?_ (F.args_set_ne_2 _ _)) H;have fin:∀c:Bool,(c=true↔∀k,S k↔T k)->Q (.bool !c) s:=λc I=>h _ (by cases c<;>simp_all)
 symm
 have U:=O;have R:=C;let(xs,o,es,ep,t,X,L,P,_):=U;let(Z,o',qq,D,t',Y,G,W,_):=R;have h1:=X.size;have h2:=Y.size;have same:(∀k,S k↔T k)->n=m:=λe=>by
  have:(xs.map (·.1)).Perm (Z.map (·.1)):=(List.perm_ext_iff_of_nodup X.nod Y.nod).mpr λk=>by rw[<-L k,<-G k];exact e k
  have:=this.length_eq;simp at this;exact u_ (a_ (g_ P) (a_ (f_ this) (f_ W))) (a_ (g_ W) (a_ (g_ this) (f_ P)))
 have J:n=m->(∀k,S k->T k)->∀k,S k↔T k:=λe M k=>(M k,λV=>(L k).mpr (Ym X.nod (λk V=>(G k).mp (M k ((L k).mpr V))) (by simp;exact a_ (f_ W) (a_ (g_ e) (g_ P))) k ((G k).mp V)))
 apply _k;show wpAny _ _ (Builtin.Frozenset.slot1 "__ne__" ([.ref a,.ref b],[])>>=_) _ _ _;unfold Builtin.Frozenset.slot1 slotArgs;simp only[List.isEmpty_nil,rm,dq,↓reduceIte,bind_assoc,ie,List.length_nil,yw];refine aa (aj ?_)
 try dsimp only
 refine aa (aj ?_)
 try dsimp only
 refine aa (bf8 C.typeIs ?_);simp only[rm,dq,↓reduceIte];refine aa (m:=Builtin.Frozenset.addrOf (.ref a)) (aj ?_);refine aa (m:=Builtin.Frozenset.addrOf (.ref b)) (aj ?_);unfold Builtin.Frozenset.sizeOf;refine aa (aa (ou X.get X.dat X.tab.fits (aj ?_)));refine aa (aa (ou Y.get Y.dat Y.tab.fits (aj ?_)));refine aa ?_;split
 .rename_i N
  refine aj ?_;refine aj (_,rfl,(λe=>nomatch e),fin false ?_);simp only[dq,false_iff];intro e;have:=same e;simp at N;lia
 .rename_i N
  have B:n=m:=by simp at N;lia
  refine aa (aa (o7 O.typeIs sub_set_frozenset ?_));refine aj ?_;simp only[dq,↓reduceIte];refine a3n hu O C λc I=>?_
  exact aj (_,rfl,(λe=>nomatch e),fin c (I.trans (λe=>J B e.2,λe=>(f_ B,λk=>(e k).mp))))
end
def aj4{prog:Program}{w:World}{A:Around}{Y:Type}{Q:Y->Shared->Prop}{E:Y1}{s:Shared}(T:A.handled=none)(q:∀Z x,(∀b o,s.heap.get? b\o->Z.get? b\o)->(∃o,Z.get? x\o/\o.cls=.type "StopIteration")->E (.ref x) { s with heap:=Z }):wpAny (model prog w) A (newExc (.type "StopIteration") []>>=raiseNew) Q E s:=by simp only[newExc,newTuple];refine aa (aa (uo (aa (m:=firstArgMember _ _) (wpAny_of_eq (a:=Value.none) (by first|rfl|(simp only[firstArgMember];rfl)) (uo ?_ (by size_fits)))) (by size_fits)));simp only[raiseNew];refine aa (wpAny_handled ?_);rw[T];exact aa (aj (wpAny_throw (q _ _ (λb o e=>au _ (au _ e)) (_,dg _ rfl,rfl))))
def awr(k:TOk t Z)(F:Fst t h N)(room:t.place.size+1<=t.mask) :
 layNew t Z h x=(insertAt Z (t.put (P t.mask h N).j).2 (h,x),(t.put (P t.mask h N).j).1,false,false):=by
 have e:t.freeSlot h\((P t.mask h N).j,false):=by
  unfold freeSlot probe;rw[ae7];rcases apg k F (λ_=>h+1) (10*turns t.mask) 0 (jd _) (by have:=F.lt;exact c_ C_ this)with⟨a,_⟩|⟨m,i,_,_,_,c,_⟩
  .rw[a];rfl
  .lia
 have f:=(k.put (x:=x) F room).fits;unfold layNew;rw[e];show Prod.mk (insertAt Z (t.put (P t.mask h N).j).2 (h,x)) (Prod.mk ((t.put (P t.mask h N).j).1.orStandIn (insertAt Z (t.put (P t.mask h N).j).2 (h,x)).size) (Prod.mk false (!(t.put (P t.mask h N).j).1.fits (insertAt Z (t.put (P t.mask h N).j).2 (h,x)).size)))=_;unfold orStandIn;rw[dm f,f];rfl
def amj(C:Msk (sizeAbove wanted-1))(J:es.size<=sizeAbove wanted-1) :
 ∃Z t',relayAll t es wanted=(Z,t',false)/\t'.mask=sizeAbove wanted-1/\TOk t' Z/\Z.toList.Perm es.toList/\t'.led=t.led/\t'.plain=t.plain:=by
 symm
 let(t',Y,e,B,G,p,sz,O,L,_,T):=ajy C t.finger (t.movedTo (sizeAbove wanted-1)) t.led t.plain es J;have N:t.relaid (es.map (·.1)) wanted\(t',Y):=e;apply _k;refine(Y.filterMap (es[·]?),t',?_,B,G,p,O,L);unfold relayAll;rw[N];dsimp only;rw[dm];rw[az];exact(by unfold coversAll;exact List.isPerm_iff.mpr T,G.fits)
noncomputable def enI(x:Int×Tok):Int×Value:=(hashInt x.1,.int x.1 x.2)
structure Ni(w:World)(h:Heap)(a:Addr)(xs:List (Int×Tok))(o:Obj)(es:Array (Int×Value))(ep:Nat)(t:SetTable):Prop where
 get:h.get? a\o
 exa:o.ExactSet
 dat:o.data=.set es ep t
 tab:TOk t es
 ent:es.toList=xs.map enI
 nod:(xs.map (·.1)).Nodup
 led:t.led=!bt w
 pla:t.plain=true
def Ea(w:World)(h:Heap)(a:Addr)(S:Int->Prop)(n:Nat):Prop:=∃Y o T G t,Ni w h a Y o T G t/\(∀k,S k↔k∈Y.map (·.1))/\Y.length=n/\t.place.size*5<t.mask*3
theorem Ni.size(X:Ni w h a U o Z ep t):Z.size=U.length:=by have:=t7 List.length X.ent;simpa using this
def Ni.elems(X:Ni w h a xs o Z U t):ElemsOf (intKind prog w) Z.toList:=λe Y=>by rw[X.ent]at Y;let(x,_,rfl):=bh.mp Y;exact((x.1,by simp[enI,intKind,Value.isInt],rfl),rfl)
def bab(X:Ni w h a xs o es ep t)(T:TOk t' Z)(G:Z.toList=U.map enI)(O:(U.map (·.1)).Nodup)(Y:t'.led=!bt w)(B:t'.plain=true) :
 Ni w (h.update a (Obj.putSet Z t')) a U { o with data:=.set Z (ep+1) t' } Z (ep+1) t':=by
 have J:(h.update a (Obj.putSet Z t')).get? a=some { o with data:=.set Z (ep+1) t' }:=by have:=ph (Obj.putSet Z t') X.get (by rw[putSet_of Z t' X.dat];rfl);rw[putSet_of Z t' X.dat]at this;exact this
 exact(J,X.exa,rfl,T,G,O,Y,B)
theorem Ea.get(Y:Ea w h a S n):∃o Z U t,h.get? a\o/\o.ExactSet/\o.data=.set Z U t/\t.fits Z.size=true:=
 let (_,o,Z,U,t,X,_):=Y;(o,Z,U,t,X.get,X.exa,X.dat,X.tab.fits)
theorem ah4:∀{a b:Xs},a.Nodup->(∀x∈a,x∈b)->a.length<=b.length
 |[],_,_,_=>jd _
 |x::a,b,h,s=>by
  let(T,G):=ug.mp h;have:=ah4 (b:=b.erase x) G λy Y=>(List.mem_erase_of_ne (λe:y=x=>T (e▸Y))).mpr (s y (.tail _ Y))
  rw[List.length_erase_of_mem (s x (.head _))]at this;have:=List.length_pos_of_mem (s x (.head _));rw[ie];lia
def Ea.le(G:Ea w h a S n){B:Xs}(T:∀k,S k->k∈B):n<=B.length:=by
 symm
 let(C,o,O,N,t,X,J,rfl,_):=G;apply _k;rw[<-du (f:=(·.1))];exact ah4 X.nod λk Y=>T k ((J k).mpr Y)
def Ea.congr(G:Ea w h a S n)(e:∀k,S k↔Z k):Ea w h a Z n:=
 by let(T,o,Y,B,t,X,J,r):=G;exact(T,o,Y,B,t,X,λk=>(e k).symm.trans (J k),r)
def Ea.moved(Y:Ea w h a S n)(T:∀o,h.get? a\o->Z.get? a\o):Ea w Z a S n:=
 let (xs,o,es,ep,t,X,r):=Y
 (xs,o,es,ep,t,(T o X.get,X.exa,X.dat,X.tab,X.ent,X.nod,X.led,X.pla),r)
def apy(Y:h.get? a\(Bw w)):Ea w h a (λ_=>False) 0:=
 ([],Bw w,#[],0,_,(Y,(rfl,rfl,rfl),rfl,(.inl rfl,rfl,rfl,λi j a b e=>by simp[SetTable.fresh]at e,λi j e=>by simp[SetTable.fresh]at e,by simp[SetTable.fresh],λi j e a=>by simp[SetTable.fresh]at a),
  rfl,Bt,rfl,rfl),λk=>by simp,rfl,by simp[SetTable.fresh])
def aws(hS:Ea w s.heap a S n)(hn:n+1<32)(h:∀h' n' b,Heap.SameBut a s.heap h'->Ea w h' a (λZ=>S Z\/Z=k) n'->n'<=n+1->Q b { s with heap:=h' }) :
 wpAny (model prog w) A (setAddHashed a (.int k U) (hashInt k)) Q E s:=by
 symm
 let(K,o,T,ep,t,X,hm,hl,nf):=hS;let(N,F):=X.tab.fst (hashInt k);have qv:=X.size;have I:=X.elems (prog:=prog);have q3:(intKind prog w).is k (.int k U)=true:=by simp[intKind,Value.isInt]
 apply _k;unfold setAddHashed setAddHashedIn;refine ji (aa (j8 X.get X.dat X.tab.fits ?_));dsimp only;rw[byScan_of (knd:=intKind prog w) (x:=.int k U) rfl (by unfold scanBound;lia) I];simp only[↓reduceIte];unfold setAddByScan;refine aa ?_;refine aa (o6 ?_);refine aa (wpAny_setScan_of (knd:=intKind prog w) (k:=k) q3 X.get X.dat X.tab.fits I ?_);cases hr:List.findIdx? (λe=>(intKind prog w).is k e.2) T.toList with
 |some j =>
  dsimp only;let(hj,q7,_):=t8.mp hr;have q1:S k:=by
   obtain⟨x,W,D⟩:∃x∈K,enI x=T.toList[j]:=by have C:=m5 hj;generalize T.toList[j]=e at C;rw[X.ent]at C;exact bh.mp C
   have q6:(intKind prog w).is k (enI x).2=true:=by rw[D];exact q7
   refine(hm k).mpr (bh.mpr (x,W,?_));have:(intKind prog w).is x.1 (enI x).2=true:=by simp[enI,intKind,Value.isInt]
   exact(intKind prog w).inj _ _ _ this q6
  refine aj (aj ?_);have:=h s.heap n false (Heap.SameBut.refl a s.heap) (K,o,T,ep,t,X,λZ=>by
   rw[<-hm Z];exact(λh=>h.elim id (λe=>e▸q1),.inl),hl,nf) x_
  exact this
 |none =>
  dsimp only;have q0:∀x∈K,x.1≠k:=λx W e=>by have:=xm.mp hr (enI x) (by rw[X.ent];exact bh.mpr (x,W,rfl));subst e;simp[enI,intKind,Value.isInt]at this
  have room:t.place.size+1<=t.mask:=by have:=X.tab.msk;rcases this with e|e|e|e|e<;>lia
  have T':=X.tab.put (x:=.int k U) F room;rw[awr X.tab F room];have Kq:(t.put (P t.mask (hashInt k) N).j).1.plain=true:=X.pla;have R:(t.put (P t.mask (hashInt k) N).j).1.led=!bt w:=X.led;let(G,D,px):=Fq (f:=enI) (insertAt_perm T (t.put (P t.mask (hashInt k) N).j).2 (hashInt k,.int k U)) (xs:=K++[(k,U)]) (by rw[Bk,X.ent,jc];rfl);have pm:=px.map (·.1);have H:(G.map (·.1)).Nodup:=pm.nodup_iff.mpr (by
   rw[jc,Ab];refine(X.nod,by simp,λa ha b hb=>?_);simp at hb;subst hb;rintro rfl;let(x,W,e):=bh.mp ha;exact q0 x W e)
  have hX:=bab X T' D H R Kq;have C:∀Z,(S Z\/Z=k)↔Z∈G.map (·.1):=λZ=>by rw[pm.mem_iff,jc,dz,hm Z];simp
  have B:G.length=n+1:=by rw[px.length_eq];simp[hl]
  have J:(insertAt T (t.put (P t.mask (hashInt k) N).j).2 (hashInt k,Value.int k U)).size=T.size+1:=Px _ _ _;have V:(t.put (P t.mask (hashInt k) N).j).1.place.size=T.size+1:=by rw[T'.siz,J]
  have hf:(t.put (P t.mask (hashInt k) N).j).1.fill=T.size+1:=by unfold fill;rw[V,T'.dum];rfl
  generalize insertAt T (t.put (P t.mask (hashInt k) N).j).2 (hashInt k,Value.int k U)=es1 at *;generalize(t.put (P t.mask (hashInt k) N).j).1=t1 at *;dsimp only;refine aa (aj ?_);rw[Kq];simp only[mq];refine aa ?_;rw[hashByValue_scannable 8 (x:=.int k U) rfl];refine aj ?_;have qk:plainKind (.int k U)=true:=rfl;simp only[qk,mq];refine aa (wpAny_storeSet_of X.get X.dat ?_ (Ma (by lia)))
  by_cases Y:t1.tooFull=true
  .rw[Y]
   simp only[Ai,Bool.and_self,mq];symm
   let(g1,g2,g3,g4,g5):=aa9 (T.size+1) (c_ (v_ (f_ qv)) (c_ (v_ (f_ hl)) hn));let(L,t2,e2,m2,T2,p2,l2,q2):=amj (t:=t1) (es:=es1) (wanted:=grown (T.size+1)) g1 (a_ (f_ J) g2);apply _k;rw[J,e2];dsimp only;refine aa (aj ?_);let(q5,q4,O):=Fq p2 D;have qq:=bab hX T2 q4 ((O.map _).nodup_iff.mpr H) (l2.trans R) (q2.trans Kq);have M:L.size=T.size+1:=by have:=p2.length_eq;simp at this;exact this.trans J
   refine aa (wpAny_storeSet_of hX.get rfl ?_ (Ma (a_ (f_ M) (a_ g2 (a_ C_ g5)))));refine aj (aj (h _ (n+1) true ((jz s.heap a _).trans (jz _ a _)) (q5,_,L,_,t2,qq,λZ=>?_,by rw[O.length_eq,B],?_) (bz _)))
   .exact(C Z).trans (O.map (·.1)).mem_iff.symm
   .rw[T2.siz,m2,M];exact t_ g4
  .rw[Bool.not_eq_true]at Y
   rw[Y];simp only[Bool.and_false,dq,jq];refine aj (aj (h _ (n+1) true (jz s.heap a _) (G,_,_,_,_,hX,C,B,?_) (bz _)));unfold tooFull at Y;rw[hf]at Y;rw[V];simp at Y;exact Y
def apz{I:Addr}{P:Nat->Value->Prop}(W:WalksS prog w A.in1 I fp wr G n P St)(a:Addr)(O:a∉fp)(Y:Xs)(E:Y.length=n)(D:∀i v x,P i v->Y[i]?\x->∃tk,v=.int x tk){B:Xs}(hB:∀k∈Y,k∈B)(J:B.length<31) :
 ∀(k i Q:Nat)(s:Shared),n-i=k->i<=n->St i s ->
  Ea w s.heap a (λk'=>k'∈Y.take i) Q->Q<=B.length ->
  (∀Z U,Moved (a::wr) G s Z->Ea w Z.heap a (λk'=>k'∈Y) U->U<=B.length->R (.ok (.ret .none)) Z) ->
  codeAny (model prog w) A (.builtin "set.update.loop" ([.ref a,.ref I],[])) R s:=by
 have C:a∉wr:=λh=>O (W.sub _ h)
 have V:∀b∈wr,b∈a::wr:=λb J=>bu _ J
 intro k
 induction k with
 |zero =>
  intro i Q s hk hi T hS Rx X;have q0:i=n:=by lia
  subst q0;refine qd ux ?_;rw[m7 o5 _];show wpAny _ A.in1 (pyNext (.ref I)>>=_) _ _ s;refine aa (W.done s _ _ T λZ S=>?_);show wpAny _ A.in1 (ret Value.none) _ _ Z;refine aj (X Z Q (S.mono V) ((hS.moved λo=>S.heap a o C).congr λk=>?_) Rx);rw[Ba (f_ E)]
 |succ k ih =>
  intro i Q s hk hi T hS Rx X;have K:i<n:=by lia
  refine qd ux ?_;rw[m7 o5 _];show wpAny _ A.in1 (pyNext (.ref I)>>=_) _ _ s;refine aa (W.item i s _ _ K T λv Z hP M S=>?_);have lx:i<Y.length:=b_ K (g_ E)
  have H:Y[i]?=some Y[i]:=by simp[lx]
  let(tk,rfl):=D i v _ hP H;have Yk:=hS.moved λo=>S.heap a o C
  show wpAny _ A.in1 (holding [Value.int Y[i] tk] (setAdd a (.int Y[i] tk))>>=_) _ _ Z;refine aa (ji ?_);unfold setAdd;refine ji ?_;refine aa (wpAny_pyHash_int ?_);refine aws (s:={ Z with toks:=Z.toks+1 }) Yk (by lia) λh' n2 b N qq Xw=>?_
  have L:Ea w h' a (λk=>k∈Y.take (i+1)) n2:=qq.congr λk=>by rw[List.take_add_one,dz,H];simp
  refine aj (plainId_quiet o5 _,ih (i+1) n2 _ (by lia) K (W.frame _ Z _ _ M (zj _ _) λb J o e=>?_) L (L.le λk hk=>hB k (List.mem_of_mem_take hk)) λq1 n3 qv qk F=>?_)
  .rw[N.2 b (λh:b=a=>O (by rw[<-h];exact J))];exact e
  .refine X q1 n3 (Moved.trans W.gtrans ((S.mono V).then_heap (zj _ _) λb o J e=>?_) qv) qk F
   rw[N.2 b (λh:b=a=>J (by rw[h];exact dw))];exact e
def awt{id T:String}{F L:Obj}{Y:U1}{St:Nat->Heap->Prop}(hS:Ea w s.heap a (λ_=>False) 0)(J:s.heap.get? l\L)(hc:L.cls=.type T)(R:∀es ep t,L.data≠.set es ep t)(n1:isSubtype (.type T) (.type "set")=pure false)(n2:isSubtype (.type T) (.type "frozenset")=pure false)(nd:(Value.type T==.type "dict")=false)
 (hi:∀{Q:Y1},Q (.ref s.heap.objs.size) { s with heap:=s.heap.push F }->wpAny (model prog w) A (pyIter (.ref l)) Q E s) (W:l≠s.heap.objs.size->Walks prog w A.in1 s.heap.objs.size [s.heap.objs.size,l] [s.heap.objs.size] Y.size (λi v=>Y[i]?\v) St) (h0:St 0 (s.heap.push F))
 (C:PyProof.Rows.IntsAre Y.toList U) {B:Xs} (hB:∀k∈U,k∈B) (O:B.length<31) (h:∀Z tk n',(∀b o,b≠a->s.heap.get? b\o->Z.get? b\o)->Ea w Z a (λk=>k∈U) n'->n'<=B.length->Q () { s with heap:=Z,toks:=tk }) :
 wpAny (model prog w) A (Builtin.Frozenset.updateFrom id a (.ref l)) Q E s:=by
 have hT:s.TypeIs (.ref l) T:=(L,J,hc);have V:Y.size=U.length:=by rw[<-u5];exact PyProof.Rows.IntsAre.length C
 symm
 let(oa,qv,q0,ta,G,qq,D,qk):=hS.get;apply _k;unfold Builtin.Frozenset.updateFrom;refine aa (Im hT n1 n2 ?_);simp only[dq,jq];refine aa (vy hT ?_);rw[cz (by rw[nd];simp)];refine aa (hi ?_);refine aa (wpAny_runValue ?_);have Il:l<s.heap.objs.size:=cj J
 have S:a<s.heap.objs.size:=cj G
 have H:l≠a:=by rintro rfl;rw[J]at G;cases G;exact R _ _ _ D
 have P:a∉[s.heap.objs.size,l]:=by simp only[dh,yg,or_false,not_or];exact(gn S,λe=>H e.symm)
 have keep:∀b o,s.heap.get? b\o->(s.heap.push F).get? b\o:=λb o e=>au _ e
 refine apz ((W (gn Il)).toS) a P U V.symm (λi v x hv hx=>?_) hB O Y.size 0 0 _ rfl (jd _)
  h0 ?_ (jd _) ?_
 .let(tk,e):=PyProof.Rows.IntsAre.int_at C i v (by rw[m9];exact hv)
  rw[bx,hx]at e;exact(tk,e)
 .refine(hS.moved λo e=>keep a o e).congr λk=>by simp
 .intro s' X N Yk M
  symm
  let(Z,g',d',I,K):=s';have eg:g'=s.gens:=N.gens;have ed:d'=s.drawn:=N.drawn;have eo:K=s.os:=N.os;subst eg;subst ed;subst eo;apply _k;show wpAny _ _ _ _ _ _;refine aj (h Z I X (λb o hb e=>?_) Yk M);refine N.heap b o ?_ (keep b o e);simp only[dh,yg,or_false,not_or];exact(hb,gn (cj e))
def amk{id:String}(N:A.handled=none)(P:Ea w s.heap a (λ_=>False) 0)(J:s.heap.IsList l items)(G:PyProof.Rows.IntsAre items.toList ks){B:Xs}(R:∀k∈ks,k∈B)(Y:B.length<31)(h:∀Z tk U,(∀b o,b≠a->s.heap.get? b\o->Z.get? b\o)->Ea w Z a (λk=>k∈ks) U->U<=B.length->Q () { s with heap:=Z,toks:=tk }) :
 wpAny (model prog w) A (Builtin.Frozenset.updateFrom id a (.ref l)) Q E s:=by
 have T:=J;let(o,S,L,n,C):=T;exact awt P S L (λ_ _ _ z=>by rw[C]at z;cases z) F.sub_list_set F.sub_list_frozenset ⋯ (yu J) (λO=>Walks.list (by simp[N]) _ l O items) ((_,dg _ rfl,rfl,rfl),J.push _) G R Y h
def aml(L:A.handled=none)(N:s.heap.IsList l items)(T:PyProof.Rows.IntsAre items.toList ks){B:Xs}(P:∀k∈ks,k∈B)(Y:B.length<31)(h:∀Z tk U,(∀b o,s.heap.get? b\o->Z.get? b\o)->Ea w Z s.heap.objs.size (λk=>k∈ks) U->U<=B.length->Q (.ref s.heap.objs.size) { s with heap:=Z,toks:=tk }) :
 wpAny (model prog w) A (call (.type "set") [.ref l]) Q E s:=by
 refine Py (R:=λC=>∃Z tk U,C={ s with heap:=Z,toks:=tk }/\(∀b o,s.heap.get? b\o->Z.get? b\o)/\Ea w Z s.heap.objs.size (λk=>k∈ks) U/\U<=B.length)
  (amk (s:={ s with heap:=s.heap.push (Bw w) }) (by simp[L]) (apy (dg _ rfl)) (N.push _) T P Y λZ tk U G O J=>(Z,tk,U,rfl,λb o e=>G b o (gn (cj e)) (au _ e),O,J))
  λC (Z,tk,U,e,G,O,J)=>by subst e;exact h Z tk U G O J
def Yn:entryFor table "set.__iter__"= some Builtin.«frozenset.__iter__»:=
 entryFor_alias (id' :="frozenset.__iter__") (by kernel_rfl) rfl ∅ (by kernel_rfl)
def Dc:Slot "set_iterator" "__next__" "set_iterator.__next__":=
 .of (owner :="set_iterator") (n :="__next__") (by rw[typeLookup_type,builtinLookup_eq_fast];kernel_rfl) ∅ ∅ ∅
  (by first|exact .inl ∅|exact .inr ∅) (by rw[isSubtype_type];kernel_rfl)
def Ol:Slot "set_iterator" "__iter__" "set_iterator.__iter__":=
 .of (owner :="set_iterator") (n :="__iter__") (by rw[typeLookup_type,builtinLookup_eq_fast];kernel_rfl) ∅ ∅ ∅
  (by first|exact .inl ∅|exact .inr ∅) (by rw[isSubtype_type];kernel_rfl)
def Mf:entryFor table "set_iterator.__next__"= some Builtin.«set_iterator.__next__»:=entryFor_of_fast (by kernel_rfl)
def Vu:entryFor table "set_iterator.__iter__"= some Builtin.«dict_keyiterator.__iter__»:=
 entryFor_alias (id' :="dict_keyiterator.__iter__") (by kernel_rfl) rfl ∅ (by kernel_rfl)
def Om(a:Value):argsOk "set_iterator.__next__" ([a],[]):=by unfold argsOk;kernel_rfl
def Xm(a:Value):argsOk "set_iterator.__iter__" ([a],[]):=by unfold argsOk;kernel_rfl
def ah5(Y:Srt Z):below Z 0=0:=by
 let(G,T,J):=Gv (j:=0) Y;rcases Nat.eq_zero_or_pos (below Z 0)with e|e
 .exact e
 .have l:0<Z.size:=b_ e G
  have:=T 0 Z[0] (by simp[l]) e
  lia
def ah6(Y:Srt Z)(h:Z[i]?\j):below Z (j+1)=i+1:=by
 let(O,B,J):=Gv (j:=j+1) Y;have N:i<below Z (j+1):=by
  rcases Ax i (below Z (j+1))with l|l
  .exact l
  .have:=J i j h l;lia
 have C:¬i+1<below Z (j+1):=λl=>by
  have G:i+1<Z.size:=b_ l O
  have T:Z[i+1]?=some Z[i+1]:=by simp[G]
  have:=B (i+1) _ T l;have:=Y i (i+1) j _ h T B_
  lia
 exact u_ (s_ C) N
def wkN(w:World)(a:Addr)(Y:Array (Int×Value))(T:Nat):Array (Int×Value):=if bt w then pickOrder (w.params.setOrder a T) Y else Y
def afc:(wkN w a es ep).toList.Perm es.toList:=by
 unfold wkN;split
 .exact aba _ _
 .exact Aj _
def Yo:(wkN w a Z U).size=Z.size:=by have:=(afc (w:=w) (a:=a) (es:=Z) (ep:=U)).length_eq;simpa using this
noncomputable def itN(a:Addr)(Y i n T:Nat):Obj:={ cls:=.type "set_iterator",data:=.fields #[.int Y 0,.int i 0,.ref a,.int n 0,.int T 0] }
def a1m(X:Ni w s.heap a xs o es Z t){Y:Nat}(N:bt w=false->below t.place Y=i)(J:∀e U,(wkN w a es Z)[i]?\e->(bt w=false->below t.place U=i+1)->Q (some (e.2,U)) s)(O:(wkN w a es Z)[i]?=none->Q none s) :
 wpAny (model prog w) A (setNext a Y i Z) Q E s:=by
 unfold setNext;refine aa (j8 X.get X.dat X.tab.fits ?_);dsimp only;refine aa (Xu ?_);cases hbt:bt w with
 |true =>
  simp only[mq,yw,dq,jq];refine aa ?_;unfold setWalk;refine aa (j8 X.get X.dat X.tab.fits ?_);dsimp only;refine aa (Xu ?_);rw[hbt];simp only[mq];refine aa (wpAny_askSetting (aj (aj ?_)));have G:wkN w a es Z=pickOrder (w.params.setOrder a Z) es:=by unfold wkN;rw[hbt];rfl
  show Q (((pickOrder (w.params.setOrder a Z) es)[i]?).map _) s;rw[<-G];cases hg:(wkN w a es Z)[i]? with
  |none=>exact O hg|some e=>exact J e Y hg (λc=>by rw[hbt]at c;cases c)
 |false =>
  have G:wkN w a es Z=es:=by unfold wkN;rw[hbt];rfl
  simp only[dq,jq];split
  .rename_i T
   have T:(!t.plain&&decide (es.size > 1))=true:=T;rw[X.pla]at T;cases T
  .refine aa ?_
   have fin:Q (match es[below t.place Y]?,t.place[below t.place Y]? with|some (_,x),some j=>some (x,j+1)|_,_=>none) s:=by
    rw[N hbt];cases hg:es[i]? with
    |none=>exact O (by rw[G];exact hg)
    |some e =>
     have L:i<t.place.size:=by rw[X.tab.siz];exact(j6.mp hg).1
     have B:t.place[i]?=some t.place[i]:=by simp[L]
     rw[B];exact J e _ (by rw[G];exact hg) (λ_=>ah6 X.tab.srt B)
   have:wpAny (model prog w) A (if(!t.led&&!es.isEmpty)=true then unsupported "set:maker-not-led" else pure ()) (λ_ C=>wpAny (model prog w) A (pure (match es[below t.place Y]?,t.place[below t.place Y]? with|some (_,x),some j=>some (x,j+1)|_,_=>none)) Q E C) E s:=by rw[X.led,hbt];simp only[Ai,rm,Bool.false_and,dq,jq];exact aj (aj fin)
   exact this
def ap0{I:Addr}(X:Ni w s.heap a xs o es Z t){Y:Nat}(J:s.heap.get? I\(itN a Y i es.size Z))(L:bt w=false->below t.place Y=i)(T:(wkN w a es Z)[i]?\e)(H:∀h' U,h'.get? I\(itN a U (i+1) es.size Z)->(bt w=false->below t.place U=i+1)->Heap.SameBut I s.heap h'->Q (some e.2) { s with heap:=h' }) :
 wpAny (model prog w) A (pyNext (.ref I)) Q E s:=by
 have N:s.TypeIs (.ref I) "set_iterator":= (_,J,rfl);unfold pyNext;refine aa (xf (m8 (name:=Str.ofString "__next__") N Dc
  (jt Dc N Mf ?_ (Om _))))
 unfold Builtin.«set_iterator.__next__»;refine aa (m:=slotArgs "__next__" 0 _) (aj ?_);refine aa (wpAny_fieldsOf J rfl ?_);show wpAny _ _ (setEntries a>>=_) _ _ s;refine aa (ou X.get X.dat X.tab.fits ?_);rw[yw];simp only[dq,jq];show wpAny _ _ (setNext a Y i Z>>=_) _ _ s;refine aa (a1m X L (λF U C O=>?_) (λW=>by rw[W]at T;cases T));rw[C]at T;cases T;dsimp only;refine aa (jr J (by simp) λR V B=>?_);refine aa (jr (s:={ s with heap:=R }) V (by simp) λP S G=>?_);exact aj (_,rfl,aj (H P U (by rw[S];rfl) O (B.trans G)))
def awu{I:Addr}(L:A.handled=none)(X:Ni w s.heap a xs o es Z t){Y:Nat}(G:s.heap.get? I\(itN a Y i es.size Z))(N:bt w=false->below t.place Y=i)(O:(wkN w a es Z)[i]?=none)(P:∀U,Heap.ExtBut I s.heap U->Q none { s with heap:=U }) :
 wpAny (model prog w) A (pyNext (.ref I)) Q E s:=by
 have C:s.TypeIs (.ref I) "set_iterator":= (_,G,rfl);unfold pyNext;refine aa (xf (m8 (name:=Str.ofString "__next__") C Dc
  (jt Dc C Mf ?_ (Om _))))
 unfold Builtin.«set_iterator.__next__»;refine aa (m:=slotArgs "__next__" 0 _) (aj ?_);refine aa (wpAny_fieldsOf G rfl ?_);show wpAny _ _ (setEntries a>>=_) _ _ s;refine aa (ou X.get X.dat X.tab.fits ?_);rw[yw];simp only[dq,jq];show wpAny _ _ (setNext a Y i Z>>=_) _ _ s;refine aa (a1m X N (λK M B S=>by rw[B]at O;cases O) (λF=>?_));dsimp only;refine aa (jr G (by simp) λV W J=>?_);show wpAny _ _ (newExc (.type "StopIteration") []>>=_) _ _ _;refine aj4 (show A.in1.handled=none from L) λU x k z_=>?_
 let(o,R,H):=z_;exact aa (o7 (T :="StopIteration") (b:=true) (o,R,H) isSubtype_stop (aj (P _ λb o n z=>k b o (J.extBut b o n z))))
def ItS(w:World)(a I:Addr)(J:List (Int×Tok))(o:Obj)(T:Array (Int×Value))(G:Nat)(t:SetTable)(i:Nat)(h:Heap):Prop:=
 Ni w h a J o T G t/\∃Y,h.get? I\(itN a Y i T.size G)/\(bt w=false->below t.place Y=i)
def Ni.at(X:Ni w h a xs o Z U t)(e:h'.get? a\o):Ni w h' a xs o Z U t:=(e,X.exa,X.dat,X.tab,X.ent,X.nod,X.led,X.pla)
theorem Walks.bgi{I:Addr}(W:A.handled=none)(K:a≠I)(F:List (Int×Tok))(o:Obj)(B:Array (Int×Value))(O:Nat)(t:SetTable) :
 Walks prog w A I [I,a] [I] B.size (λi v=>((wkN w a B O)[i]?).map (·.2)\v) (ItS w a I F o B O t)where
 sub:=λb Y=>by simp at Y;simp[Y]
 frame:=λ_ _ _ st R=>(st.1.at (R a (by simp) o st.1.get),let (P,e,r):=st.2;(P,R I (by simp) _ e,r))
 item:=λi s Q E S st G=>by
  let(X,T,J,Y):=st;have V:(wkN w a B O)[i]?\((wkN w a B O)[i]'(by rw[Yo];exact S)):=by simp[Yo,S]
  refine ap0 X J Y V λL P g r H=>G _ L s.toks (by rw[V];rfl) (X.at ((H.2 a K).trans X.get),P,g,r) λb o Y e=>(H.2 b (λh=>Y (by simp[h]))).trans e
 done:=λs Q E st G=>by let(X,T,J,Y):=st;exact awu W X J Y (by simp[Yo]) λL N=>G L s.toks λb o Y e=>N b o (λh=>Y (by simp[h])) e
 self:=λ_ s _ _ st G=>by let(X,T,J,Y):=st;have C:s.TypeIs (.ref I) "set_iterator":= (_,J,rfl);refine wpAny_pyIter_slot C Ol (jt Ol C Vu ?_ (Xm _));show wpAny _ _ (ret (.ref I)) _ _ s;exact aj (_,rfl,"set_iterator",_,C,Dc.lookup,G)
def baf(X:Ni w s.heap a xs o Z U t)(T:Q (.ref s.heap.objs.size) { s with heap:=s.heap.push (itN a 0 0 Z.size U) }):wpAny (model prog w) A (pyIter (.ref a)) Q E s:=by
 have Y:s.TypeIs (.ref a) "set":= (o,X.get,X.exa.1);refine wpAny_pyIter_slot Y F.slot_set_iter (jt F.slot_set_iter Y Yn ?_ (F.args_set_iter_1 _));unfold Builtin.«frozenset.__iter__» Builtin.Frozenset.slot0 slotArgs;simp only[List.isEmpty_nil,rm,dq,↓reduceIte,bind_assoc,List.length_nil,yw];unfold Builtin.Frozenset.addrOf Builtin.Frozenset.sizeOf;refine aa (aj ?_)
 try dsimp only
 refine aa (aj ?_);refine aa (aa (ou X.get X.dat X.tab.fits (aj ?_)));refine aa ?_;unfold setDrawn;refine aa (j8 X.get X.dat X.tab.fits ?_);dsimp only;refine aa (Xu (aj ?_));have G:(!bt w&&(!t.plain&&decide (Z.size > 1)))=false:=by rw[X.pla];simp
 show wpAny _ _ (if(!bt w&&(!t.plain&&decide (Z.size > 1)))=true then _ else _) _ _ s;rw[G];simp only[dq,jq];refine aa (aj (aa (wpAny_setEpoch_of X.get X.dat X.tab.fits ?_)));exact aa (uo (aj (_,rfl,"set_iterator",_,(_,dg _ rfl,rfl),Dc.lookup,T)))
def bag(Y:s.TypeIs (.ref a) "set")(h:Q false s):wpAny (model prog w) A (Builtin.List.listLengthHint (.ref a)) Q E s:=by
 unfold Builtin.List.listLengthHint;refine aa (wpAny_specialOf Y F.slot_set_len.lookup ?_)
 (generalize hid:("set.__len__": String)=id0;(fail_if_success (clear hid id0));wp_delta;rw[show splitId id0\("set","__len__")from by subst hid;decide+kernel];subst hid)
 refine aa (o7 (b:=true) Y sub_set_self ?_);refine aa (vy Y ?_);exact aj h
def ap1(g:A.handled=none)(X:Ni w s.heap a xs o Z U t)(K:Z.size<=sizeLine)(h:∀h' tk qq,(∀b o,s.heap.get? b\o->h'.get? b\o)->s.heap.objs.size<=h'.objs.size->ItemsOf (λi v=>((wkN w a Z U)[i]?).map (·.2)\v) qq Z.size->Q qq.toList { s with heap:=h',toks:=tk }) :
 wpAny (model prog w) A (collect (.ref a)) Q E s:=by
 have M:a<s.heap.objs.size:=cj X.get
 have J:s.heap.objs.size≠a:=xr M;unfold collect;refine aa (wpAny_runValue (qd F.entry_proto_collect ?_));rw[m7 F.plain_proto_collect _];show wpAny _ A.in1 (newList []>>=λl=>again (.builtin "list.__iadd__" ([l,.ref a],[]))) _ _ s;refine aa (uo ?_);refine aj (plainId_quiet F.plain_list_iadd _,qd F.entry_list_iadd ?_);rw[m7 F.plain_list_iadd _];have H:Ni w (s.heap.push { cls:=.type "list",data:=.seq ([]:Zl).toArray }) a xs o Z U t:=X.at (au _ X.get);have P:Shared.TypeIs { s with heap:=s.heap.push { cls:=.type "list",data:=.seq ([]:Zl).toArray } } (.ref a) "set":= (o,H.get,H.exa.1);have j:Builtin.List.listSameRef (.ref s.heap.objs.size) (.ref a)=false:=by simp[Builtin.List.listSameRef,J]
 show wpAny _ A.in1 (Builtin.List.listExtendWith (.ref s.heap.objs.size) (.ref a) (.ref s.heap.objs.size)) _ _ _;unfold Builtin.List.listExtendWith;refine aa (vy P ?_);rw[cz (by rw[j];decide)];refine aa (baf (s:={ s with heap:=s.heap.push { cls:=.type "list",data:=.seq ([]:Zl).toArray } }) H ?_);have N:(s.heap.push { cls:=.type "list",data:=.seq ([]:Zl).toArray }).objs.size=s.heap.objs.size+1:=jm ..;show wpAny _ A.in1 (holding [.ref (s.heap.push { cls:=.type "list",data:=.seq ([]:Zl).toArray }).objs.size] (Builtin.List.listLengthHint (.ref a))>>=_) _ _ { s with heap:=(s.heap.push { cls:=.type "list",data:=.seq ([]:Zl).toArray }).push (itN a 0 0 Z.size U) };have z:((s.heap.push { cls:=.type "list",data:=.seq ([]:Zl).toArray }).push (itN a 0 0 Z.size U)).get? (s.heap.push { cls:=.type "list",data:=.seq ([]:Zl).toArray }).objs.size\(itN a 0 0 Z.size U):=dg _ rfl;have gS:((s.heap.push { cls:=.type "list",data:=.seq ([]:Zl).toArray }).push (itN a 0 0 Z.size U)).get? s.heap.objs.size=some { cls:=.type "list",data:=.seq ([]:Zl).toArray }:=au _ (dg _ rfl);have G:∀b o,s.heap.get? b\o->((s.heap.push { cls:=.type "list",data:=.seq ([]:Zl).toArray }).push (itN a 0 0 Z.size U)).get? b\o:=λb o e=>au _ (au _ e)
 have u:s.heap.objs.size<=((s.heap.push { cls:=.type "list",data:=.seq ([]:Zl).toArray }).push (itN a 0 0 Z.size U)).objs.size:=by rw[jm,N];exact a_ x_ x_
 generalize(s.heap.push { cls:=.type "list",data:=.seq ([]:Zl).toArray }).push (itN a 0 0 Z.size U)=hp at *;rw[N]at z⊢;have q:Ni w hp a xs o Z U t:=X.at (G a o X.get);refine aa (ji (bag (o,q.get,q.exa.1) ?_));rw[dm ∅];refine aa (o6 ?_);refine aa ?_;show wpAny _ A.in1 (updateSeq s.heap.objs.size (·.push .none)>>=λ_=>updateSeq s.heap.objs.size (·.pop)) _ _ _;refine aa (wpAny_updateSeq gS rfl ?_);have Y:=ph (Obj.mapSeq (·.push Value.none)) gS rfl;refine wpAny_updateSeq (hz:=by seq_fits) Y rfl ?_;have B:=ph (Obj.mapSeq (·.pop)) Y rfl;have T:∀b o,b≠s.heap.objs.size->hp.get? b\o->((hp.update s.heap.objs.size (Obj.mapSeq (·.push Value.none))).update s.heap.objs.size (Obj.mapSeq (·.pop))).get? b\o:=
  λb o O e=>(vo _ _ (lg O)).trans ((vo _ _ (lg O)).trans e)
 have k:((hp.update s.heap.objs.size (Obj.mapSeq (·.push Value.none))).update s.heap.objs.size (Obj.mapSeq (·.pop))).objs.size=hp.objs.size:=by rw[Heap.size_update,Heap.size_update]
 generalize(hp.update s.heap.objs.size (Obj.mapSeq (·.push Value.none))).update s.heap.objs.size (Obj.mapSeq (·.pop))=h3 at *;have W:=(Walks.bgi (prog:=prog) (w:=w) (A:=A.in1) (I:=s.heap.objs.size+1) (a:=a) g (gn (kh M)) xs o Z U t).toS;refine aj (plainId_quiet F.plain_extend_loop _,codeAny_extend_loopS W K _ (by simp only[dh,yg,or_false,not_or];exact(gn (jy _),J)) _ Z.size 0 _ _ _ rfl (jd _)
  (X.at (T a o (lg J) (G a o X.get)),0,T _ _ (xr (jy _)) z,λ_=>ah5 X.tab.srt) B (ItemsOf.nil _) λV C f L D r=>?_)
 show wpAny _ A (load s.heap.objs.size>>=_) _ _ V;refine aa (wpAny_load D ?_);let(h',y,p,S,R):=V;have c:y=s.gens:=L.gens;have d:p=s.drawn:=L.drawn;have m:R=s.os:=L.os;subst c;subst d;subst m;refine aj (h h' S C (λb o e=>?_) ?_ r)
 .have O:=cj e
  exact L.heap b o (by simp only[dh,yg,or_false,not_or];exact(gn O,gn (kh O))) (T b o (gn O) (G b o e))
 .have:=cj D
  exact xq this
def ah7{s:Shared}(X:Ni w s.heap a xs o Z U t)(B:ItemsOf (λi v=>((wkN w a Z U)[i]?).map (·.2)\v) acc Z.size) :
 ∃ns:List Int,PyProof.Rows.IntsAre acc.toList ns/\ns.Perm (xs.map (·.1)):=by
 let(Y,N,J):=Fq (f:=enI) (afc (w:=w) (a:=a) (es:=Z) (ep:=U)) X.ent;have O:acc.toList=Y.map λy=>Value.int y.1 y.2:=by
  apply q9;intro i;have G:acc.toList.length=Z.size:=by simpa using B.1
  have L:Y.length=Z.size:=by rw[J.length_eq,<-X.size]
  by_cases T:i<Z.size
  .have C:acc.toList[i]?\(acc.toList[i]'(b_ T (g_ G))):=by simp[G,T]
   have E:=B.2 i _ (by rw[<-m9];exact C);rw[C,<-E,<-m9,N,ir,ir];cases Y[i]?<;>rfl
  .rw[my (a_ (f_ G) (s_ T)),my (by simp;exact a_ (f_ L) (s_ T))]
 refine(Y.map (·.1),?_,J.map _);rw[O];clear O J N B
 induction Y with
 |nil=>exact .nil|cons y Y P=>exact .cons _ _ P
def afd(W:A.handled=none)(z:Ea w s.heap a S n)(P:n<31)(h:∀(h':Heap) (U:Nat) (p:Addr) (out:U1) (Z:Xs),(∀b o,s.heap.get? b\o->h'.get? b\o)->s.heap.objs.size<=p->PyProof.Rows.IntsAre out.toList Z->Z.Pairwise (·<=·)->Z.Nodup->(∀k,S k↔k∈Z) ->
 (∃c,h'.get? p\(PyProof.Rows.seqObj "list" out c))->Q (.ref p) { s with heap:=h',toks:=U }) :
 wpAny (model prog w) A (call (.builtin "sorted") [.ref a]) Q E s:=by
 let(l,o,g,j,t,X,M,C,u):=z;have G:=X.size;refine Calls.call_function_entry PyProof.Rows.kind_sorted PyProof.Rows.plain_sorted PyProof.Rows.entry_sorted (PyProof.Rows.args_sorted1 _) ?_;unfold Builtin.«sorted»;refine aa (m:=checkCount "sorted" 1 1 _) (aj ?_);refine aa (ap1 (by simpa using W) X (by rw[ue];exact e_ (c_ (f_ G) (c_ (f_ C) (b_ P ⋯)))) λO U Y keep R V=>?_);let(Z,F,I):=ah7 X V;have T:Y.toList.length=n:=by have:=V.1;simp;exact u_ (a_ (f_ this) (a_ (f_ G) (f_ C))) (a_ (g_ C) (a_ (g_ G) (g_ this)))
 have K:Y=Y.toList.toArray:=by simp
 refine aa (wpAny_newList ?_ (by rw[ue];exact e_ (c_ (f_ T) (b_ P ⋯))));have J:(O.push (PyProof.Rows.seqObj "list" Y.toList.toArray 0)).get? O.objs.size\(PyProof.Rows.seqObj "list" Y.toList.toArray 0):=dg _ rfl;refine aa (ji (jt PyProof.Rows.slot_list_sort (_,J,rfl) PyProof.Rows.entry_list_sort (PyProof.Rows.list_sort_tree (s:={ s with heap:=O.push (PyProof.Rows.seqObj "list" Y.toList.toArray 0),toks:=U }) J F (c_ (f_ T) (b_ P ⋯)) λout L y D q=>(_,rfl,?_)) (PyProof.Rows.args_list_sort _)));have H:=D.trans I;refine aj (_,rfl,h _ U O.objs.size out L (λb o e=>?_) R y q (H.nodup_iff.mpr X.nod) (λk=>(M k).trans H.mem_iff.symm) (PyProof.Rows.sortedHeap_at J));have B:=keep b o e;have N:=cj B;rw[PyProof.Rows.sortedHeap_old (gn N) (by rw[jm];exact kh N),Heap.get?_push_ne _ _ _ (gn N)];exact B
end Yd
set_option backward.match.sparseCases false
namespace MW
open PySem (Str)
inductive Sy where
 |v (n e k j:Nat)|m (x:Sy) (c:Int)|a (x y:Sy)
set_option genCtorIdx false
set_option genInjectivity true in
inductive D where
 |non|bl (b:Bool)|int (i:Int)|str (s:Str)|tup (ds:List D)|vl (ds:List D)|fz (ds:List D)|ref (n:Nat)|sy (y:Sy)
set_option genCtorIdx true
noncomputable def D.ctorIdx(d:D):Nat:=d.casesOn 0 (λ_=>1) (λ_=>2) (λ_=>3) (λ_=>4) (λ_=>5) (λ_=>6) (λ_=>7) (λ_=>8)
noncomputable abbrev Kx:=Sum Int Str
set_option genCtorIdx false
set_option genInjectivity true in
inductive MO where
 |lst (ds:List D)|dT (jf:List (List Kx×D))|dK (jf:List (Kx×D))|ins (c:Nat) (fs:List (Nat×D))
set_option genCtorIdx true
noncomputable def MO.ctorIdx(d:MO):Nat:=d.casesOn (λ_=>0) (λ_=>1) (λ_=>2) (λ_ _=>3)
noncomputable abbrev fc:=List MO
noncomputable abbrev Env:=List (Option D)
set_option genInjectivity true in
inductive Res(α:Type)where
 |ok (a:α) (M:fc)|bad
namespace Res
noncomputable def bind{Y β:Type}(r:Res Y)(f:Y->fc->Res β):Res β:=
 match r with|ok a M=>f a M|bad=>bad
@[simp] def yc(a:α)(M:fc)(f:α->fc->Res β):(ok a M).bind f=f a M:=rfl
@[simp] def bai(f:α->fc->Res β):(bad:Res α).bind f=bad:=rfl
noncomputable def wy{α:Type}(o:Option α)(M:fc):Res α:=match o with|some a=>ok a M|none=>bad
@[simp] def Di(a:α)(M:fc):wy (some a) M=ok a M:=rfl
@[simp] def a3q(M:fc):wy (none:Option α) M=bad:=rfl
end Res
inductive Op2 where|add|sub|mul|fdiv|mod|pow
inductive Cp where|eq|ne|lt|le|gt|ge|inn|Uq|isn
inductive Blt where
 |len|tuple|list|max|min|dict|all|isList|isTuple|isBool|isSeq|Kr|sorted
inductive Bm where|append|index|get|extend
inductive Tg where
 |name (i:Nat)|names (is:Y3)
set_option genCtorIdx false
mutual
inductive Ex where
 |var (i:Nat)|cst (d:D)
 |bin (op:Op2) (a b:Ex)|neg (a:Ex)
 |cmp (op:Cp) (a b:Ex)|chain (o1 o2:Cp) (a b c:Ex)
 |and (a b:Ex)|or (a b:Ex)|not (a:Ex)|ite (c a b:Ex)
 |tup (es:Gm)|lst (es:Gm)|Kl (es:Gm)|ah8|ah9
 |ix (a b:Ex)|cut (a:Ex) (lo hi:OEx)
 |call (f:Nat) (es:Gm)|make (c:Nat) (es:Gm)|meth (o:Ex) (m:Nat)|fld (o:Ex) (f:Nat)
 |blt (b:Blt) (es:Gm)|bm (m:Bm) (o:Ex) (es:Gm)
 |comp (v:Bool) (k:Nat) (t:Tg) (it:Sq) (e:Ex)|Ep (v:Bool) (k:Nat) (t:Tg) (it:Sq) (c:Ex) (e:Ex)
 |Yp (a b:Ex)|aib (e:Ex)|aas (e:Ex)
inductive Gm where
 |nil|cons (e:Ex) (es:Gm)
inductive OEx where
 |none|some (e:Ex)
inductive Sq where
 |val (e:Ex)|Xn (e:Ex)|enm (e:Ex)|zip (es:Gm)
end
noncomputable abbrev Ex.v:=Ex.var
noncomputable abbrev Ex.i(n:Int):Ex:=.cst (.int n)
noncomputable abbrev Ex.l(e:Ex):Ex:=.blt .len (.cons e .nil)
noncomputable abbrev Gm.z:=Gm.nil
noncomputable abbrev Gm.c:=Gm.cons
noncomputable abbrev Gm.o(a:Ex):Gm:=.cons a .nil
noncomputable abbrev Gm.p(a b:Ex):Gm:=.cons a (.cons b .nil)
noncomputable abbrev Gm.q(a b c:Ex):Gm:=.cons a (.cons b (.cons c .nil))
inductive Lv where
 |tg (t:Tg)|sub (o i:Ex)|fld (o:Ex) (f:Nat)
mutual
inductive Dg where
 |asg (l:Lv) (e:Ex)|expr (e:Ex)|iff (c:Ex) (a b:p7)|whl (c:Ex) (b:p7)|for_ (t:Tg) (it:Sq) (b:p7)
 |ret (e:Ex)|brk|cont|raise
inductive p7 where
 |nil|cons (s:Dg) (r:p7)
end
set_option genCtorIdx true
noncomputable abbrev Dg.a(i:Nat)(e:Ex):Dg:=.asg (.tg (.name i)) e
noncomputable abbrev Dg.f(c:Ex)(b:p7):Dg:=.iff c b .nil
noncomputable abbrev p7.z:=p7.nil
noncomputable abbrev p7.c:=p7.cons
noncomputable abbrev p7.o(a:Dg):p7:=.cons a .nil
noncomputable abbrev p7.p(a b:Dg):p7:=.cons a (.cons b .nil)
noncomputable abbrev p7.q(a b c:Dg):p7:=.cons a (.cons b (.cons c .nil))
structure Fn where
 np:Nat
 ns:Nat
 body:p7
structure Cl where
 init:Nat
 meths:List (Nat×Nat)
noncomputable def gr(M:fc):D->Option (List D)
 |.vl ds=>some ds|.ref n=>match M[n]? with|some (.lst ds)=>some ds|_=>none
 |_=>none
def Dk(M:fc):D->Option (List D)
 |.tup ds=>some ds|d=>gr M d
noncomputable def Yq:D->Option Kx
 |.int i=>some (.inl i)|.str s=>some (.inr s)|_=>none
def acs:List D->Option (List Kx)
 |[]=>some []
 |d::ds=>match Yq d,acs ds with
  |some k,some ks=>some (k::ks)|_,_=>none
def Ry:D->Option (List Kx)
 |.tup ds=>acs ds|_=>none
noncomputable def ap4:Kx->D
 |.inl i=>.int i|.inr s=>.str s
def ap5(Y:List Kx):D:=.tup (Y.map ap4)
def Ft:List D->Option (List (List Kx))
 |[]=>some []
 |d::ds=>match Ry d,Ft ds with
  |some k,some ks=>some (k::ks)|_,_=>none
noncomputable def Ul(f:D->D->Option Bool):List D->List D->Option Bool
 |[],[]=>some true
 |a::as,b::bs=>match f a b,Ul f as bs with
  |some x,some y=>some (x&&y)|_,_=>none
 |_,_=>some false
instance:DecidableEq Kx:=inferInstanceAs (DecidableEq (Sum Int Str))
noncomputable def Ag{Y:Type}[DecidableEq Y](T:List (Y×D))(k:Y):Option D:=(T.find? λp=>decide (p.1=k)).map (·.2)
def K9(M:fc):Nat->D->D->Option Bool
 |0,_,_=>none
 |n+1,a,b=>match a,b with
  |.int i,.int j=>some (decide (i=j))|.bl i,.bl j=>some (i==j)|.sy a,.sy b=>open Classical in if a=b then some true else none
  |.tup as,.tup bs=>Ul (K9 M n) as bs
  |a,b=>match gr M a,gr M b with
   |some as,some bs=>if as.length=bs.length then Ul (K9 M n) as bs else some false
   |_,_=>none
def Ah(M:fc)(a b:D):Option Bool:=K9 M 6 a b
def Rz(M:fc)(x:D):List D->Option (List Bool)
 |[]=>some []
 |y::ys=>match Ah M y x,Rz M x ys with
  |some a,some b=>some (a::b)|_,_=>none
def memD(M:fc)(x:D)(Y:List D):Option Bool:=(Rz M x Y).map (·.any id)
def afe(M:fc)(x:D)(Y:List D):Option Nat:=(Rz M x Y).bind (·.findIdx? id)
noncomputable def Xx:List D->Option (List Int)
 |[]=>some []|.int i::r=>(Xx r).map (i::·)|_::_=>none
noncomputable def aat(n:Nat)(i:Int):Option Nat:=if 0<=i then(if i<n then some i.toNat else none)else if -(n:Int)<=i then some (i+n).toNat else none
noncomputable def clip(n:Nat)(d:Nat):Option Int->Nat
 |none=>d|some i=>if 0<=i then min i.toNat n else(i+n).toNat
def aic(Y:List D)(T G:Option Int):List D:=(Y.drop (clip Y.length 0 T)).take (clip Y.length Y.length G-clip Y.length 0 T)
noncomputable def a3r:List Int->Option Int
 |[]=>none|a::r=>some (r.foldl (λm x=>if m<x then x else m) a)
noncomputable def insI(x:Int):List Int->List Int
 |[]=>[x]|y::ys=>if x<y then x::y::ys else y::insI x ys
def sortI(Y:Xs):List Int:=Y.foldr insI []
noncomputable def Bp:List Int->List Int
 |[]=>[]|x::xs=>if x∈xs then Bp xs else x::Bp xs
def keysOf(M:fc)(d:D):Option (List D):=
 match d with
 |.ref n=>match M[n]? with
  |some (.dT jf)=>some (jf.map λp=>ap5 p.1)
  |_=>gr M d
 |_=>gr M d
noncomputable def Eh{T:Type}[DecidableEq T](G:List (T×D))(k:T)(v:D):List (T×D):=
 if(G.any λY=>decide (Y.1=k))=true then G.map (λY=>if Y.1=k then(Y.1,v)else Y)else G++[(k,v)]
noncomputable def Fv(Y:List (List Kx)):Bool:=decide (Y.length<=30)&&Y.all λk=>k.all λx=>match x with|.inl _=>true|.inr _=>false
noncomputable def Ks(T Y:List (List Kx)):Bool:=T.all (λx=>Y.any λy=>decide (y=x))&&Y.all (λy=>T.any λx=>decide (x=y))
noncomputable def new(o:MO)(M:fc):Res D:=.ok (.ref M.length) (M++[o])
def ap6(a b:D)(M:fc):Res D:=
 match a,b with
 |.int i,.int j=>.ok (.int (i+j)) M|.sy x,.sy y=>.ok (.sy (.a x y)) M
 |x,y=>match gr M x,gr M y with
  |some xs,some ys=>if xs.length+ys.length<=100000 then .ok (.vl (xs++ys)) M else .bad
  |_,_=>.bad
noncomputable def ii{α:Type}(x y:D)(f:Int->Int->α)(z:α):α:=match x with|.int i=>(match y with|.int j=>f i j|_=>z)|_=>z
def acu(h:ii x y f z=r)(Y:z≠r):∃i j,x=.int i/\y=.int j/\f i j=r:=by
 cases x with
 |int i=>cases y with
  |int j=>exact(i,j,rfl,rfl,h)|_=>exact absurd h Y
 |_=>exact absurd h Y
@[simp] def bgk(i j:Int)(f:Int->Int->α)(z:α):ii (.int i) (.int j) f z=f i j:=rfl
def baj(a b:D)(M:fc):Res D:=ii a b (λi j=>.ok (.int (i-j)) M) .bad
def aj5(a b:D)(M:fc):Res D:=match a with
 |.tup [d]=>(match b with|.int n=>if 0<=n/\n<=100000 then .ok (.tup (List.replicate n.toNat d)) M else .bad|_=>.bad)
 |.sy y=>(match b with|.int n=>if -(2^64)<n/\n<2^64 then .ok (.sy (.m y n)) M else .bad|_=>.bad)
 |_=>ii a b (λi j=>if(-(2^64)<i/\i<2^64)\/(-(2^64)<j/\j<2^64)then .ok (.int (i*j)) M else .bad) .bad
def a3s(a b:D)(M:fc):Res D:=ii a b (λi j=>if 0<j/\j<1073741824 then .ok (.int (i/j)) M else .bad) .bad
def bak(a b:D)(M:fc):Res D:=ii a b (λi j=>if 0<j then .ok (.int (i%j)) M else .bad) .bad
def a1o(a b:D)(M:fc):Res D:=ii a b (λi j=>if 0<=j/\j<=64/\i.natAbs<2^64 then .ok (.int (i^j.toNat)) M else .bad) .bad
def Em(Y:Op2):D->D->fc->Res D:=
 match Y with
 |.add=>ap6|.sub=>baj|.mul=>aj5|.fdiv=>a3s|.mod=>bak|.pow=>a1o
def T6(M:fc)(a b:D):Option Bool:=
 match b with
 |.ref n=>match M[n]? with
  |some (.dT jf)=>(Ry a).map λk=>(Ag jf k).isSome
  |_=>(Dk M b).bind (memD M a)
 |_=>(Dk M b).bind (memD M a)
def afg(f:Int->Int->Bool)(a b:D):Option Bool:=ii a b (λi j=>some (f i j)) none
def Km(Y:Cp)(a b:D)(M:fc):Option Bool:=
 match Y with
 |.lt=>afg (λi j=>decide (i<j)) a b
 |.le=>afg (λi j=>decide (i<=j)) a b
 |.gt=>afg (λi j=>decide (j<i)) a b
 |.ge=>afg (λi j=>decide (j<=i)) a b
 |.eq=>Ah M a b|.ne=>(Ah M a b).map not|.inn=>T6 M a b|.Uq=>(T6 M a b).map not
 |.isn=>match b with
  |.non=>(match a with|.non=>some false|.tup _=>some true|.ref _=>some true|_=>none)
  |_=>none
def Bx(a b:D)(M:fc):Option D:=
 match a with
 |.ref n=>match M[n]? with
  |some (.dT jf)=>(Ry b).bind (Ag jf)|some (.dK jf)=>(Yq b).bind (Ag jf)
  |_=>match gr M a,b with
   |some ds,.int i=>(aat ds.length i).bind λj=>ds[j]?
   |_,_=>none
 |.fz ds=>match b with
  |.int i=>(aat ds.length i).bind λj=>ds[j]?
  |_=>none
 |_=>match Dk M a,b with
  |some ds,.int i=>(aat ds.length i).bind λj=>ds[j]?
  |_,_=>none
noncomputable def allB:List D->Option Bool
 |[]=>some true|.bl b::r=>(allB r).map (b&&·)|_::_=>none
def afh(a:D)(Y T:Option Int)(M:fc):Option D:=(gr M a).map λG=>.vl (aic G Y T)
noncomputable def Vv(Y:List (List Kx×D)):Bool:=Y.all λp=>match p.1 with
 |[.inl i,.inl j]=>decide (-1<=i)&&decide (i<9)&&decide (-1<=j)&&decide (j<9)|_=>false
noncomputable def Vw(M:fc):D->Res D
 |.ref n=>match M[n]? with
  |some (.lst ds)=>.ok (.int ds.length) M|_=>.bad
 |.fz ds=>.ok (.int ds.length) M|.tup ds=>.ok (.int ds.length) M|.vl ds=>.ok (.int ds.length) M|_=>.bad
def Xy(M:fc):D->Res D
 |.ref n=>match M[n]? with
  |some (.dT jf)=>if Vv jf then new (.dT jf) M else .bad
  |_=>.bad
 |_=>.bad
def isX(bt bv Y:Option Bool)(d:D):Option Bool:=match d with
 |.tup _=>bt|.vl _=>bv|.int _=>Y|.sy _=>Y|_=>none
def isR(bt bv Y:Option Bool)(M:fc)(d:D):Res D:=Res.wy ((isX bt bv Y d).map D.bl) M
def two(Y:List D)(f:Int->Int->Int)(g:D->Option Int)(M:fc):Res D:=
 match Y with
 |[a,b]=>(match a,b with|.int i,.int j=>.ok (.int (f i j)) M|_,_=>.bad)
 |[d]=>Res.wy ((g d).map D.int) M|_=>.bad
noncomputable def Pn(Y:List D)(g:D->Res D):Res D:=
 match Y with
 |[d]=>g d|_=>.bad
def aww:D->Option Nat
 |.tup ds=>(Xx ds).map (·.length)|_=>none
def Ur:List D->Option (List Nat)
 |[]=>some []
 |d::ds=>match aww d,Ur ds with
  |some k,some ks=>some (k::ks)|_,_=>none
def aid:D->Option (List Nat)
 |.tup ds=>Ur ds|_=>none
noncomputable def syR(n e k c:Nat):D:=.tup ((List.range c).map λj=>.sy (.v n e k j))
def syM(n e:Nat)(Y:Y3):D:=.tup (Y.zipIdx.map λq=>syR n e q.2 q.1)
def Yr(n:Nat)(Y:Y3)(m:Nat):List D:=(List.range m).map λe=>syM n e Y
def afi(Y:List D)(M:fc):Res D:=match Y with
 |[]=>new (.lst []) M
 |d::_=>match aid d with
  |some T=>if T≠[]/\(∀x∈Y,aid x\T)/\Y.length<6000000 then new (.lst (Yr M.length T Y.length)) M else .bad
  |none=>.bad
def p8(b:Blt)(Y:List D)(M:fc):Res D:=
 match b with
 |.len=>Pn Y (Vw M)|.tuple=>Pn Y λd=>Res.wy ((Dk M d).map D.tup) M
 |.max=>two Y (λi j=>if i<j then j else i) (λd=>((gr M d).bind Xx).bind a3r) M
 |.min=>two Y (λi j=>if j<i then j else i) (λ_=>none) M
 |.Kr=>Pn Y λd=>Res.wy (((gr M d).bind Xx).bind λis=>if(Bp is).length<31 then some (D.vl ((sortI (Bp is)).map D.int))else none) M
 |.dict=>Pn Y (Xy M)|.all=>Pn Y λd=>Res.wy (((gr M d).bind allB).map D.bl) M
 |.isList=>Pn Y (isR (some false) (some true) none M)|.isTuple=>Pn Y (isR (some true) (some false) (some false) M)|.isBool=>Pn Y (isR none none (some false) M)|.isSeq=>Pn Y (isR (some true) (some true) (some false) M)
 |.sorted=>Pn Y λd=>match gr M d with
  |some T=>afi T M|none=>.bad
 |.list=>Pn Y λd=>match Dk M d with
  |some T=>new (.lst T) M|none=>.bad
def Pq(m:Bm)(x:D)(M:fc):Bool:=
 match m with
 |.get=>(match x with|.ref n=>(match M[n]? with|some (.dK _)=>true|some (.dT _)=>true|_=>false)|_=>false)
 |_=>(gr M x).isSome
noncomputable def onL(o:D)(M:fc)(f:Nat->List D->Res D):Res D:=match o with
 |.ref n=>match M[n]? with|some (.lst xs)=>f n xs|_=>.bad
 |_=>.bad
def ap7(o k:D)(M:fc):Option (Option D):=match o with
 |.ref n=>match M[n]? with
  |some (.dK jf)=>(Yq k).map (Ag jf)|some (.dT jf)=>(Ry k).map (Ag jf)|_=>none
 |_=>none
def Lb(m:Bm)(o:D)(T:List D)(M:fc):Res D:=
 match m with
 |.append=>onL o M λn Y=>Pn T λd=>if Y.length<6000000 then .ok .non (M.set n (.lst (Y++[d])))else .bad
 |.extend=>onL o M λn Y=>Pn T λy=>match y with
  |.vl ys=>if Y.length+ys.length<100000 then .ok .non (M.set n (.lst (Y++ys)))else .bad
  |_=>.bad
 |.index=>Pn T λd=>Res.wy (((gr M o).bind (afe M d)).map λ(j:Nat)=>D.int (j:Int)) M
 |.get=>match T with
  |[k,d]=>Res.wy ((ap7 o k M).map (·.getD d)) M|_=>.bad
def setOp(o i v:D)(M:fc):Option fc:=
 match o with
 |.ref n=>match M[n]? with
  |some (.lst xs)=>match i with
   |.int j=>(aat xs.length j).map λq=>M.set n (.lst (xs.set q v))
   |_=>none
  |some (.dT jf)=>(Ry i).bind λk=>if jf.length<100000 then some (M.set n (.dT (Eh jf k v)))else none
  |some (.dK jf)=>(Yq i).bind λk=>if jf.length<100000 then some (M.set n (.dK (Eh jf k v)))else none
  |_=>none
 |_=>none
noncomputable def Ws(f:Nat)(v:D):List (Nat×D)->List (Nat×D)
 |[]=>[(f,v)]|(g,x)::r=>if g=f then(g,v)::r else(g,x)::Ws f v r
noncomputable def Us(o:D)(f:Nat)(M:fc):Option D:=
 match o with
 |.ref n=>match M[n]? with
  |some (.ins _ fs)=>fs.lookup f|_=>none
 |_=>none
def Ut(o:D)(f:Nat)(v:D)(M:fc):Option fc:=
 match o with
 |.ref n=>match M[n]? with
  |some (.ins c fs)=>if fs.length<1000 then some (M.set n (.ins c (Ws f v fs)))else none
  |_=>none
 |_=>none
inductive Src where
 |con (ds:List D)|live (n:Nat) (len:Nat)
noncomputable def Src.len:Src->Nat
 |.con ds=>ds.length|.live _ k=>k
noncomputable def Src.item(s:Src)(i:Nat)(M:fc):Option D:=
 match s with
 |.con ds=>ds[i]?
 |.live n k=>match M[n]? with
  |some (.lst ds)=>if ds.length=k then ds[i]? else none
  |_=>none
noncomputable def Src.fin(s:Src)(M:fc):Bool:=
 match s with
 |.con _=>true
 |.live n k=>match M[n]? with
  |some (.lst ds)=>ds.length==k|_=>false
noncomputable def srcOf(M:fc)(d:D):Option Src:=
 match d with
 |.tup ds=>some (.con ds)|.vl ds=>some (.con ds)
 |.ref n=>match M[n]? with
  |some (.lst ds)=>some (.live n ds.length)|_=>none
 |_=>none
set_option genCtorIdx false
inductive Flow where
 |next|brk|cont|ret (d:D)
set_option genCtorIdx true
noncomputable def Flow.ctorIdx(d:Flow):Nat:=d.casesOn 0 1 2 (λ_=>3)
noncomputable def Hl:List Nat->List D->Env->Env
 |i::is,d::ds,ρ=>Hl is ds (ρ.set i (some d))|_,_,ρ=>ρ
def Tg.put(t:Tg)(d:D)(Y:Env):Option Env:=
 match t with
 |.name i=>some (Y.set i (some d))
 |.names is=>match d with
  |.tup ds=>if ds.length=is.length then some (Hl is ds Y)else none
  |.vl ds=>if ds.length=is.length then some (Hl is ds Y)else none
  |_=>none
structure Kg where
 call:Nat->List D->fc->Res D
 cls:List Cl
def Dr(fin:fc->Bool)(item:Nat->fc->Option D)(Y:D->Env->fc->Res (Flow×Env)):Nat->Nat->Env->fc->Res (Flow×Env)
 |0,_,ρ,M=>if fin M then .ok (.next,ρ) M else .bad
 |k+1,i,ρ,M=>match item i M with
  |none=>.bad
  |some d=>(Y d ρ M).bind λr T=>match r.1 with
   |.next=>Dr fin item Y k (i+1) r.2 T|.cont=>Dr fin item Y k (i+1) r.2 T|.brk=>.ok (.next,r.2) T|.ret v=>.ok (.ret v,r.2) T
def Er(fin:fc->Bool)(item:Nat->fc->Option D)(Y:D->fc->Res (Option D)):Nat->Nat->fc->Res (List D)
 |0,_,M=>if fin M then .ok [] M else .bad
 |k+1,i,M=>match item i M with
  |none=>.bad|some d=>(Y d M).bind λo G=>(Er fin item Y k (i+1) G).bind λT J=>.ok (match o with|some x=>x::T|none=>T) J
def Bb(s:Src)(Y:D->fc->Res (Option D))(M:fc):Res (List D):=if s.len<=100000 then Er s.fin s.item Y s.len 0 M else .bad
def Hf(c:Env->fc->Res D)(Y:Env->fc->Res (Flow×Env)):Nat->Env->fc->Res (Flow×Env)
 |0,_,_=>.bad
 |k+1,ρ,M=>(c ρ M).bind λb G=>match b with
  |.bl false=>.ok (.next,ρ) G
  |.bl true=>(Y ρ G).bind λr T=>match r.1 with
   |.next=>Hf c Y k r.2 T|.cont=>Hf c Y k r.2 T|.brk=>.ok (.next,r.2) T|.ret v=>.ok (.ret v,r.2) T
  |_=>.bad
noncomputable def aie:Nat:=1000000
noncomputable def amm:D->Option (List D)
 |.tup l=>some l|.vl l=>some l|_=>none
noncomputable def Eu(Y:List (List D))(n:Nat):List D:=(List.range n).map λi=>.tup (Y.map λl=>l.getD i .non)
noncomputable def Mg(Y:List D):Nat->List D:=λn=>(Y.zipIdx n).map λp=>D.tup [.int p.2,p.1]
def Ys:List D->Option (List (List D))
 |[]=>some []
 |d::r=>match amm d,Ys r with
  |some l,some ls=>some (l::ls)|_,_=>none
def aau(T:List D)(M:fc):Res Src:=match Ys T with
 |some Y=>if(Y.length=2\/Y.length=3)/\∀l∈Y,l.length=(Y.getLastD []).length then .ok (.con (Eu Y (Y.getLastD []).length)) M else .bad
 |none=>.bad
def aif(h:Ys ds\ls)(Y:ls.length=2\/ls.length=3)(T:∀l∈ls,l.length=(ls.getLastD []).length):aau ds M=.ok (.con (Eu ls (ls.getLastD []).length)) M:=by unfold aau;rw[h];exact dm (Y,T)
mutual
def Ex.den(W:Kg):Ex->Env->fc->Res D
 |.var i,ρ,M=>match ρ[i]? with
  |some (some d)=>.ok d M|_=>.bad
 |.cst d,_,M=>.ok d M|.bin op a b,ρ,M=>(a.den W ρ M).bind λx Y=>(b.den W ρ Y).bind λy T=>Em op x y T
 |.neg a,ρ,M=>(a.den W ρ M).bind λx Y=>match x with|.int i=>.ok (.int (-i)) Y|_=>.bad
 |.cmp op a b,ρ,M=>(a.den W ρ M).bind λx Y=>(b.den W ρ Y).bind λy T=>Res.wy ((Km op x y T).map D.bl) T
 |.chain o1 o2 a b c,ρ,M=>(a.den W ρ M).bind λx Y=>(b.den W ρ Y).bind λy T=>(Res.wy (Km o1 x y T) T).bind λq T=>if q then(c.den W ρ T).bind λz B=>Res.wy ((Km o2 y z B).map D.bl) B else .ok (.bl false) T
 |.and a b,ρ,M=>(a.den W ρ M).bind λx Y=>match x with|.bl true=>b.den W ρ Y|.bl false=>.ok (.bl false) Y|_=>.bad
 |.or a b,ρ,M=>(a.den W ρ M).bind λx Y=>match x with|.bl true=>.ok (.bl true) Y|.bl false=>b.den W ρ Y|_=>.bad
 |.not a,ρ,M=>(a.den W ρ M).bind λx Y=>match x with|.bl b=>.ok (.bl !b) Y|_=>.bad
 |.ite c a b,ρ,M=>(c.den W ρ M).bind λx Y=>match x with|.bl true=>a.den W ρ Y|.bl false=>b.den W ρ Y|_=>.bad
 |.tup es,ρ,M=>(es.den W ρ M).bind λG Y=>.ok (.tup G) Y
 |.lst es,ρ,M=>(es.den W ρ M).bind λG Y=>new (.lst G) Y
 |.Kl es,ρ,M=>(es.den W ρ M).bind λG Y=>.ok (.vl G) Y
 |.ah8,_,M=>new (.dT []) M|.ah9,_,M=>new (.dK []) M|.ix a b,ρ,M=>(a.den W ρ M).bind λx Y=>(b.den W ρ Y).bind λy T=>Res.wy (Bx x y T) T
 |.cut a lo hi,ρ,M=>(a.den W ρ M).bind λx Y=>(lo.den W ρ Y).bind λl T=>(hi.den W ρ T).bind λh B=>Res.wy (afh x l h B) B
 |.call f es,ρ,M=>(es.den W ρ M).bind λG Y=>W.call f G Y
 |.make c es,ρ,M=>(es.den W ρ M).bind λG Y=>match W.cls[c]? with
  |some C=>(W.call C.init (.ref Y.length::G) (Y++[.ins c []])).bind λr T=>match r with|.non=>.ok (.ref Y.length) T|_=>.bad
  |none=>.bad
 |.meth o m,ρ,M=>(o.den W ρ M).bind λx Y=>match x with
  |.ref n=>match Y[n]? with
   |some (.ins c _)=>match(W.cls[c]?).bind λC=>C.meths.lookup m with
    |some f=>W.call f [.ref n] Y|none=>.bad
   |_=>.bad
  |_=>.bad
 |.fld o f,ρ,M=>(o.den W ρ M).bind λx Y=>Res.wy (Us x f Y) Y
 |.blt b es,ρ,M=>(es.den W ρ M).bind λG Y=>p8 b G Y
 |.bm m o es,ρ,M=>(o.den W ρ M).bind λx Y=>if Pq m x Y then(es.den W ρ Y).bind λG T=>Lb m x G T else .bad
 |.comp v k t it e,ρ,M=>(it.den W ρ M).bind λs Y =>
  (Bb s (λd M=>match t.put d (ρ++List.replicate k none)with
   |some J=>(e.den W J M).bind λx O=>.ok (some x) O
   | none=>.bad) Y).bind λG T=>if v then .ok (.vl G) T else new (.lst G) T
 |.Ep v k t it c e,ρ,M=>(it.den W ρ M).bind λs Y =>
  (Bb s (λd M=>match t.put d (ρ++List.replicate k none)with
   |some J=>(c.den W J M).bind λb O=>match b with
    |.bl true=>(e.den W J O).bind λx N=>.ok (some x) N
    |.bl false=>.ok none O|_=>.bad
   | none=>.bad) Y).bind λG T=>if v then .ok (.vl G) T else new (.lst G) T
 |.Yp a b,ρ,M=>(a.den W ρ M).bind λx Y =>
  match(keysOf Y x).bind Ft with
  |some L=>if Fv L then(b.den W ρ Y).bind λy T =>
   match(keysOf T y).bind Ft with
   |some E=>if Fv E then .ok (.bl !Ks L E) T else .bad
   |none=>.bad
   else .bad
  |none=>.bad
 |.aib e,ρ,M=>(e.den W ρ M).bind λx Y=>match x with
  |.int i=>if i.natAbs<=100000 then .ok (.tup ((List.range i.toNat).map λ(k:Nat)=>D.int (k:Int))) Y else .bad
  |_=>.bad
 |.aas e,ρ,M=>(e.den W ρ M).bind λx Y=>match x with
  |.int i=>if i.natAbs<=100000 then new (.lst ((List.range i.toNat).map λ(k:Nat)=>D.int (k:Int))) Y else .bad
  |_=>.bad
def Gm.den(W:Kg):Gm->Env->fc->Res (List D)
 |.nil,_,M=>.ok [] M|.cons e es,ρ,M=>(e.den W ρ M).bind λx T=>(es.den W ρ T).bind λG Y=>.ok (x::G) Y
def OEx.den(W:Kg):OEx->Env->fc->Res (Option Int)
 |.none,_,M=>.ok none M|.some e,ρ,M=>(e.den W ρ M).bind λx Y=>match x with|.int i=>.ok (some i) Y|_=>.bad
def Sq.den(W:Kg):Sq->Env->fc->Res Src
 |.val e,ρ,M=>(e.den W ρ M).bind λx Y=>Res.wy (srcOf Y x) Y
 |.Xn e,ρ,M=>(e.den W ρ M).bind λx Y=>match x with
  |.int i=>if i.natAbs<=100000 then .ok (.con ((List.range i.toNat).map λ(k:Nat)=>D.int (k:Int))) Y else .bad
  |_=>.bad
 |.enm e,ρ,M=>(e.den W ρ M).bind λx Y=>match x with
  |.tup ds=>.ok (.con (Mg ds 0)) Y|_=>.bad
 |.zip es,ρ,M=>(es.den W ρ M).bind aau
end
def Lv.put(W:Kg)(l:Lv)(d:D)(Y:Env)(M:fc):Res Env:=
 match l with
 |.tg t=>Res.wy (t.put d Y) M|.sub o i=>(o.den W Y M).bind λx T=>(i.den W Y T).bind λy G=>(Res.wy (setOp x y d G) G).bind λJ _=>.ok Y J
 |.fld o f=>(o.den W Y M).bind λx T=>(Res.wy (Ut x f d T) T).bind λG _=>.ok Y G
mutual
def Dg.den(W:Kg):Dg->Env->fc->Res (Flow×Env)
 |.asg l e,Y,M=>(e.den W Y M).bind λx T=>(l.put W x Y T).bind λG J=>.ok (.next,G) J
 |.expr e,Y,M=>(e.den W Y M).bind λ_ T=>.ok (.next,Y) T
 |.iff c a b,Y,M=>(c.den W Y M).bind λx T=>match x with|.bl true=>a.den W Y T|.bl false=>b.den W Y T|_=>.bad
 |.whl c b,Y,M=>Hf (c.den W) (b.den W) aie Y M
 | .for_ t it b,Y,M=>(it.den W Y M).bind λs T=>Dr s.fin s.item (λd Y M=>match t.put d Y with
  | some G=>b.den W G M|none=>.bad) s.len 0 Y T
 |.ret e,Y,M=>(e.den W Y M).bind λx T=>.ok (.ret x,Y) T
 |.brk,Y,M=>.ok (.brk,Y) M|.cont,Y,M=>.ok (.cont,Y) M|.raise,_,_=>.bad
def p7.den(W:Kg):p7->Env->fc->Res (Flow×Env)
 |.nil,ρ,M=>.ok (.next,ρ) M
 |.cons s r,ρ,M=>(s.den W ρ M).bind λp Y=>match p.1 with
  |.next=>r.den W p.2 Y|.brk=>.ok (.brk,p.2) Y|.cont=>.ok (.cont,p.2) Y|.ret d=>.ok (.ret d,p.2) Y
end
structure Prog where
 fns:List Fn
 cls:List Cl
def Fn.run(W:Kg)(f:Fn)(Y:List D)(M:fc):Res D:=
 if Y.length=f.np then
  (f.body.den W (Y.map some++List.replicate (f.ns-f.np) none) M).bind λp T=>match p.1 with
   |.ret d=>.ok d T|.next=>.ok .non T|_=>.bad
 else .bad
def Prog.call(P:Prog):Nat->Nat->List D->fc->Res D
 |0,_,_,_=>.bad
 |n+1,f,ds,M=>match P.fns[f]? with
  |some F=>F.run (P.call n,P.cls) ds M|none=>.bad
@[simp] def acv(i:Nat):(Ex.var i).den W Z M=match Z[i]? with|some (some d)=>.ok d M|_=>.bad:=rfl
@[simp high] theorem bgm(d:D)(r:Env):(Ex.var 0).den W (some d::r) M=.ok d M:=rfl
@[simp high] theorem bgn(Y:Option D)(d:D)(r:Env):(Ex.var 1).den W (Y::some d::r) M=.ok d M:=rfl
@[simp high] theorem bgo(T Y:Option D)(d:D)(r:Env):(Ex.var 2).den W (T::Y::some d::r) M=.ok d M:=rfl
@[simp high] theorem bgp(G T Y:Option D)(d:D)(r:Env):(Ex.var 3).den W (G::T::Y::some d::r) M=.ok d M:=rfl
@[simp high] theorem bgq(J G T Y:Option D)(d:D)(r:Env):(Ex.var 4).den W (J::G::T::Y::some d::r) M=.ok d M:=rfl
@[simp high] theorem bgr(B J G T Y:Option D)(d:D)(r:Env):(Ex.var 5).den W (B::J::G::T::Y::some d::r) M=.ok d M:=rfl
@[simp high] theorem bgs(O B J G T Y:Option D)(d:D)(r:Env):(Ex.var 6).den W (O::B::J::G::T::Y::some d::r) M=.ok d M:=rfl
@[simp high] theorem bgt(C B J G T Y O:Option D)(d:D)(r:Env):(Ex.var 7).den W (C::B::J::G::T::Y::O::some d::r) M=.ok d M:=rfl
@[simp high] theorem bgu(N O B G T Y C J:Option D)(d:D)(r:Env):(Ex.var 8).den W (N::O::B::G::T::Y::C::J::some d::r) M=.ok d M:=rfl
@[simp high] theorem bgv(L C O J G T N B Y:Option D)(d:D)(r:Env):(Ex.var 9).den W (L::C::O::J::G::T::N::B::Y::some d::r) M=.ok d M:=rfl
@[simp high] theorem be3(E N C B G T L O Y J:Option D)(d:D)(r:Env):(Ex.var 10).den W (E::N::C::B::G::T::L::O::Y::J::some d::r) M=.ok d M:=rfl
@[simp high] theorem be4(P L N O J G E C T B Y:Option D)(d:D)(r:Env):(Ex.var 11).den W (P::L::N::O::J::G::E::C::T::B::Y::some d::r) M=.ok d M:=rfl
@[simp high] theorem be5(R E L C B J P N G O Y T:Option D)(d:D)(r:Env):(Ex.var 12).den W (R::E::L::C::B::J::P::N::G::O::Y::T::some d::r) M=.ok d M:=rfl
@[simp] def Uu(d:D):(Ex.cst d).den W Z M=.ok d M:=rfl
@[simp] def Nj(Y:Op2)(a b:Ex):(Ex.bin Y a b).den W Z M=(a.den W Z M).bind λx U=>(b.den W Z U).bind λy M2=>Em Y x y M2:=rfl
@[simp] def awx(a:Ex):(Ex.neg a).den W Z M=(a.den W Z M).bind λx U=>match x with|.int i=>.ok (.int (-i)) U|_=>.bad:=rfl
@[simp] def awy(Y:Cp)(a b:Ex):(Ex.cmp Y a b).den W Z M=(a.den W Z M).bind λx U=>(b.den W Z U).bind λy M2=>Res.wy ((Km Y x y M2).map D.bl) M2:=rfl
@[simp] def amn(Y T:Cp)(a b c:Ex):(Ex.chain Y T a b c).den W Z M=(a.den W Z M).bind λx M1=>(b.den W Z M1).bind λy M2=>(Res.wy (Km Y x y M2) M2).bind λq M2=>if q then(c.den W Z M2).bind λz U=>Res.wy ((Km T y z U).map D.bl) U else .ok (.bl false) M2:=rfl
def aj6(a b:Ex):(Ex.and a b).den W Z M=(a.den W Z M).bind λx U=>match x with|.bl true=>b.den W Z U|.bl false=>.ok (.bl false) U|_=>.bad:=rfl
def ap8(a b:Ex):(Ex.or a b).den W Z M=(a.den W Z M).bind λx U=>match x with|.bl true=>.ok (.bl true) U|.bl false=>b.den W Z U|_=>.bad:=rfl
@[simp] def aj7(a:Ex):(Ex.not a).den W Z M=(a.den W Z M).bind λx U=>match x with|.bl b=>.ok (.bl !b) U|_=>.bad:=rfl
def awz(c a b:Ex):(Ex.ite c a b).den W Z M=(c.den W Z M).bind λx U=>match x with|.bl true=>a.den W Z U|.bl false=>b.den W Z U|_=>.bad:=rfl
@[simp] def aw0(Y:Gm):(Ex.tup Y).den W Z M=(Y.den W Z M).bind λU M1=>.ok (.tup U) M1:=rfl
@[simp] def aw1(Y:Gm):(Ex.lst Y).den W Z M=(Y.den W Z M).bind λU M1=>new (.lst U) M1:=rfl
@[simp] def ap9(Y:Gm):(Ex.Kl Y).den W Z M=(Y.den W Z M).bind λU M1=>.ok (.vl U) M1:=rfl
@[simp] def aqa:Ex.ah8.den W Z M=new (.dT []) M:=rfl
@[simp] def aqb:Ex.ah9.den W Z M=new (.dK []) M:=rfl
@[simp] def acw(a b:Ex):(Ex.ix a b).den W Z M=(a.den W Z M).bind λx U=>(b.den W Z U).bind λy M2=>Res.wy (Bx x y M2) M2:=rfl
@[simp] def aw2(a:Ex)(T Y:OEx):(Ex.cut a T Y).den W Z M=(a.den W Z M).bind λx U=>(T.den W Z U).bind λl M2=>(Y.den W Z M2).bind λh M3=>Res.wy (afh x l h M3) M3:=rfl
@[simp] def Uv(f:Nat)(Y:Gm):(Ex.call f Y).den W Z M=(Y.den W Z M).bind λU M1=>W.call f U M1:=rfl
@[simp] theorem afj{W:Kg}{Y:Env}{M:fc}(c:Nat)(T:Gm):(Ex.make c T).den W Y M=(T.den W Y M).bind λU Z=>match W.cls[c]? with
 |some C=>(W.call C.init (.ref Z.length::U) (Z++[.ins c []])).bind λr G=>match r with|.non=>.ok (.ref Z.length) G|_=>.bad
 |none=>.bad:=rfl
@[simp] theorem Mh{W:Kg}{Y:Env}{M:fc}(o:Ex)(m:Nat):(Ex.meth o m).den W Y M=(o.den W Y M).bind λx Z=>match x with
 |.ref n=>match Z[n]? with
  |some (.ins c _)=>match(W.cls[c]?).bind λC=>C.meths.lookup m with
   |some f=>W.call f [.ref n] Z|none=>.bad
  |_=>.bad
 |_=>.bad:=rfl
@[simp] def aw3(o:Ex)(f:Nat):(Ex.fld o f).den W Z M=(o.den W Z M).bind λx M1=>Res.wy (Us x f M1) M1:=rfl
@[simp] def Nk(b:Blt)(Y:Gm):(Ex.blt b Y).den W Z M=(Y.den W Z M).bind λU M1=>p8 b U M1:=rfl
@[simp] def a3t(m:Bm)(o:Ex)(Y:Gm):(Ex.bm m o Y).den W Z M=(o.den W Z M).bind λx U=>if Pq m x U then(Y.den W Z U).bind λds M2=>Lb m x ds M2 else .bad:=rfl
@[simp] theorem aqc{W:Kg}{Y:Env}{M:fc}(e:Ex):(Ex.aib e).den W Y M=(e.den W Y M).bind λx Z=>match x with
 |.int i=>if i.natAbs<=100000 then .ok (.tup ((List.range i.toNat).map λ(k:Nat)=>D.int (k:Int))) Z else .bad
 |_=>.bad:=rfl
@[simp] theorem Yt{W:Kg}{Y:Env}{M:fc}(e:Ex):(Ex.aas e).den W Y M=(e.den W Y M).bind λx Z=>match x with
 |.int i=>if i.natAbs<=100000 then new (.lst ((List.range i.toNat).map λ(k:Nat)=>D.int (k:Int))) Z else .bad
 |_=>.bad:=rfl
def Pz(v:Bool)(k:Nat)(t:Tg)(it:Sq)(e:Ex):(Ex.comp v k t it e).den W U M=(it.den W U M).bind λs M1 =>
 (Bb s (λd M=>match t.put d (U++List.replicate k none)with
  |some Z=>(e.den W Z M).bind λx M'=>.ok (some x) M'
  | none=>.bad) M1).bind λds M2=>if v then .ok (.vl ds) M2 else new (.lst ds) M2:=rfl
def Yu(v:Bool)(k:Nat)(t:Tg)(it:Sq)(c e:Ex):(Ex.Ep v k t it c e).den W ρ M=(it.den W ρ M).bind λs M1 =>
 (Bb s (λd M=>match t.put d (ρ++List.replicate k none)with
  |some Z=>(c.den W Z M).bind λb M'=>match b with
   |.bl true=>(e.den W Z M').bind λx U=>.ok (some x) U
   |.bl false=>.ok none M'|_=>.bad
  | none=>.bad) M1).bind λds M2=>if v then .ok (.vl ds) M2 else new (.lst ds) M2:=rfl
@[simp] def Uw:Gm.nil.den W Z M=.ok [] M:=rfl
@[simp] def Jd(e:Ex)(Y:Gm):(Gm.cons e Y).den W Z M=(e.den W Z M).bind λx U=>(Y.den W Z U).bind λxs M2=>.ok (x::xs) M2:=rfl
@[simp] def amo:OEx.none.den W Z M=.ok none M:=rfl
@[simp] def amq(e:Ex):(OEx.some e).den W Z M=(e.den W Z M).bind λx U=>match x with|.int i=>.ok (some i) U|_=>.bad:=rfl
@[simp] def Ku(e:Ex):(Sq.val e).den W Z M=(e.den W Z M).bind λx M1=>Res.wy (srcOf M1 x) M1:=rfl
@[simp] theorem Rj{W:Kg}{Y:Env}{M:fc}(e:Ex):(Sq.Xn e).den W Y M=(e.den W Y M).bind λx Z=>match x with
 |.int i=>if i.natAbs<=100000 then .ok (.con ((List.range i.toNat).map λ(k:Nat)=>D.int (k:Int))) Z else .bad
 |_=>.bad:=rfl
@[simp] theorem aj8{W:Kg}{Y:Env}{M:fc}(e:Ex):(Sq.enm e).den W Y M=(e.den W Y M).bind λx Z=>match x with
 |.tup ds=>.ok (.con (Mg ds 0)) Z|_=>.bad:=rfl
@[simp] def aw4(Y:Gm):(Sq.zip Y).den W Z M=(Y.den W Z M).bind aau:=rfl
@[simp] def acx(l:Lv)(e:Ex):(Dg.asg l e).den W U M=(e.den W U M).bind λx M1=>(l.put W x U M1).bind λZ M2=>.ok (.next,Z) M2:=rfl
@[simp] def aw5(e:Ex):(Dg.expr e).den W Z M=(e.den W Z M).bind λ_ M1=>.ok (.next,Z) M1:=rfl
def a3u(c:Ex)(a b:p7):(Dg.iff c a b).den W Z M=(c.den W Z M).bind λx U=>match x with|.bl true=>a.den W Z U|.bl false=>b.den W Z U|_=>.bad:=rfl
@[simp] def a3v(e:Ex):(Dg.ret e).den W Z M=(e.den W Z M).bind λx M1=>.ok (.ret x,Z) M1:=rfl
@[simp] def a3w:Dg.brk.den W Z M=.ok (.brk,Z) M:=rfl
@[simp] def aw6:Dg.cont.den W Z M=.ok (.cont,Z) M:=rfl
@[simp] def aqd:Dg.raise.den W Z M=.bad:=rfl
def acy(c:Ex)(b:p7):(Dg.whl c b).den W Z M=Hf (c.den W) (b.den W) aie Z M:=rfl
def Vx(t:Tg)(it:Sq)(b:p7):(Dg.for_ t it b).den W Z M=(it.den W Z M).bind λs M1=>Dr s.fin s.item (λd Z M=>match t.put d Z with
 | some U=>b.den W U M|none=>.bad) s.len 0 Z M1:=rfl
@[simp] def aw7:p7.nil.den W Z M=.ok (.next,Z) M:=rfl
theorem aqe{W:Kg}{Y:Env}{M:fc}(s:Dg)(r:p7):(p7.cons s r).den W Y M=(s.den W Y M).bind λp M1=>match p.1 with
 |.next=>r.den W p.2 M1|.brk=>.ok (.brk,p.2) M1|.cont=>.ok (.cont,p.2) M1|.ret d=>.ok (.ret d,p.2) M1:=rfl
def aqf(W:Kg)(r:p7)(x:Res (Flow×Env)):Res (Flow×Env):=x.bind λp Y=>match p.1 with
 |.next=>r.den W p.2 Y|.brk=>.ok (.brk,p.2) Y|.cont=>.ok (.cont,p.2) Y|.ret d=>.ok (.ret d,p.2) Y
@[simp] def aw8(s:Dg)(r:p7):(p7.cons s r).den W Z M=aqf W r (s.den W Z M):=rfl
@[simp] def bam(r:p7):aqf W r (.ok (.next,Z) M)=r.den W Z M:=rfl
@[simp] def be6(r:p7):aqf W r (.ok (.brk,Z) M)=.ok (.brk,Z) M:=rfl
@[simp] def ban(r:p7):aqf W r (.ok (.cont,Z) M)=.ok (.cont,Z) M:=rfl
@[simp] def be7(r:p7)(d:D):aqf W r (.ok (.ret d,Z) M)=.ok (.ret d,Z) M:=rfl
def ifK{α:Type}(a b:fc->Res α)(x:Res D):Res α:=x.bind λx Y=>match x with|.bl true=>a Y|.bl false=>b Y|_=>.bad
@[simp] def bao(c:Ex)(a b:p7):(Dg.iff c a b).den W Z M=ifK (a.den W Z) (b.den W Z) (c.den W Z M):=rfl
@[simp] def bgw(c a b:Ex):(Ex.ite c a b).den W Z M=ifK (a.den W Z) (b.den W Z) (c.den W Z M):=rfl
@[simp] def bgx(a b:Ex):(Ex.and a b).den W Z M=ifK (b.den W Z) (.ok (.bl false)) (a.den W Z M):=rfl
@[simp] def bki(a b:Ex):(Ex.or a b).den W Z M=ifK (.ok (.bl true)) (b.den W Z) (a.den W Z M):=rfl
@[simp] def bkj(a b:fc->Res α):ifK a b (.ok (.bl true) M)=a M:=rfl
@[simp] def bkk(a b:fc->Res α):ifK a b (.ok (.bl false) M)=b M:=rfl
theorem abb{W:Kg}{Y:Env}{M:fc}(a b:Ex):(Ex.Yp a b).den W Y M=(a.den W Y M).bind λx Z =>
 match(keysOf Z x).bind Ft with
 |some T=>if Fv T then(b.den W Y Z).bind λy J =>
  match(keysOf J y).bind Ft with
  |some G=>if Fv G then .ok (.bl !Ks T G) J else .bad
  |none=>.bad
  else .bad
 |none=>.bad:=rfl
@[simp] def aqg(t:Tg)(d:D):(Lv.tg t).put W d Z M=Res.wy (t.put d Z) M:=rfl
@[simp] def aw9(o i:Ex)(d:D):(Lv.sub o i).put W d Z M=(o.den W Z M).bind λx M1=>(i.den W Z M1).bind λy U=>(Res.wy (setOp x y d U) U).bind λM3 _=>.ok Z M3:=rfl
@[simp] def axa(o:Ex)(f:Nat)(d:D):(Lv.fld o f).put W d Z M=(o.den W Z M).bind λx U=>(Res.wy (Ut x f d U) U).bind λM2 _=>.ok Z M2:=rfl
@[simp] def a3x(i:Nat)(d:D):(Tg.name i).put d Z\(Z.set i (some d)):=rfl
@[simp] def a1p(is:Y3)(Y:List D)(h:Y.length=is.length):(Tg.names is).put (.tup Y) Z\(Hl is Y Z):=by simp[Tg.put,h]
@[simp] def a1q(i:Nat)(is:Y3)(d:D)(Y:List D):Hl (i::is) (d::Y) Z=Hl is Y (Z.set i (some d)):=rfl
@[simp] def a3y(Y:List D):Hl [] Y ρ=ρ:=by cases Y<;>rfl
@[simp] def bap(i j:Int):Em .add (.int i) (.int j) M=.ok (.int (i+j)) M:=rfl
@[simp] def baq(i j:Int):Em .sub (.int i) (.int j) M=.ok (.int (i-j)) M:=rfl
def Mi(i j:Int)(h:(-(2^64)<i/\i<2^64)\/(-(2^64)<j/\j<2^64)):Em .mul (.int i) (.int j) M=.ok (.int (i*j)) M:=dm h
def Vy(i j:Int)(h:0<j)(Y:j<1073741824):Em .fdiv (.int i) (.int j) M=.ok (.int (i/j)) M:=dm (h,Y)
@[simp] def aqh(i j:Int)(h:0<j):Em .mod (.int i) (.int j) M=.ok (.int (i%j)) M:=dm h
@[simp] def a3z:Em .pow (.int 10) (.int 18) M=.ok (.int (10^18)) M:=by simp[Em,a1o]
def Vz(xs ys:List D)(h:xs.length+ys.length<=100000):Em .add (.vl xs) (.vl ys) M=.ok (.vl (xs++ys)) M:=dm h
@[simp] def bgy(i j:Int):Km .lt (.int i) (.int j) M\(decide (i<j)):=rfl
@[simp] def bgz(i j:Int):Km .le (.int i) (.int j) M\(decide (i<=j)):=rfl
@[simp] def cmp_gt(i j:Int):Km .gt (.int i) (.int j) M\(decide (j<i)):=rfl
@[simp] def bg0(i j:Int):Km .ge (.int i) (.int j) M\(decide (j<=i)):=rfl
@[simp] def bg1(a b:D):Km .eq a b M=Ah M a b:=rfl
@[simp] def bg2(a b:D):Km .ne a b M=(Ah M a b).map not:=rfl
@[simp] def bg3(a b:D):Km .inn a b M=T6 M a b:=rfl
@[simp] def a84(a b:D):Km .Uq a b M=(T6 M a b).map not:=rfl
def Xz(n:Nat)(i j:Int):K9 M (n+1) (.int i) (.int j)\(decide (i=j)):=rfl
def Es(Y:f a b\x)(T:Ul f as bs\y):Ul f (a::as) (b::bs)\(x&&y):=by simp[Ul,Y,T]
@[simp] def eq_int(i j:Int):Ah M (.int i) (.int j)\(decide (i=j)):=rfl
@[simp] def bkl(i j:Bool):Ah M (.bl i) (.bl j)\(i==j):=rfl
@[simp] def amr(ds:List D):gr M (.vl ds)\ds:=rfl
@[simp] def bas(ds:List D):Dk M (.vl ds)\ds:=rfl
@[simp] def a85(ds:List D):Dk M (.tup ds)\ds:=rfl
def ju(h:M[n]?\(.lst ds)):gr M (.ref n)\ds:=by simp[gr,h]
def Fw(h:gr M d\ds):Dk M d\ds:=by cases d<;>first|exact h|(simp[gr]at h)
set_option tactic.hygienic true in
def len_list(h:gr M d\ds):p8 .len [d] M=.ok (.int ds.length) M:=by
 show Vw M d=_;cases d with
 |vl B=>simp[gr]at h;subst h;rfl
 |ref n =>
  simp only[gr]at h;split at h<;>simp at h;rename_i B T;subst h;simp[Vw,T]
 |_=>simp[gr]at h
@[simp] def bau(d:D)(g:D->Res D):Pn [d] g=g d:=rfl
@[simp] def bav(g:D->Res D):Pn [] g=.bad:=rfl
@[simp] def a86(a b:D)(l:List D)(g:D->Res D):Pn (a::b::l) g=.bad:=rfl
@[simp] def bg4(i j:Int)(f:Int->Int->Int)(g:D->Option Int):two [.int i,.int j] f g M=.ok (.int (f i j)) M:=rfl
@[simp] def axb(d:D)(f:Int->Int->Int)(g:D->Option Int):two [d] f g M=Res.wy ((g d).map D.int) M:=rfl
@[simp] def a4a(Y:List D):Vw M (.tup Y)=.ok (.int Y.length) M:=rfl
@[simp] theorem a1r{M:fc}(n:Nat):Xy M (.ref n)=match M[n]? with
 |some (.dT jf)=>if Vv jf then new (.dT jf) M else .bad
 |_=>.bad:=rfl
def axc:p8 .len [.tup ds] M=.ok (.int ds.length) M:=rfl
def Ei(h:gr M d\ds)(G:0<=i)(B:ds[i.toNat]?\x):Bx d (.int i) M\x:=by
 let(T,Y):=ao.mp B;have J:i<ds.length:=by lia
 cases d with
 |vl O=>simp[gr]at h;subst h;simp[Bx,Dk,aat,G,J,T,Y]
 |ref n =>
  simp only[gr]at h;cases e:M[n]? with
  |none=>rw[e]at h;simp at h|some o=>rw[e]at h;cases o<;>simp at h<;>subst h<;>simp[Bx,gr,e,aat,G,J,T,Y]
 |_=>simp[gr]at h
def Jf(G:0<=i)(B:ds[i.toNat]?\x):Bx (.tup ds) (.int i) M\x:=by
 let(T,Y):=ao.mp B;have J:i<ds.length:=by lia
 simp[Bx,Dk,aat,G,J,T,Y]
def baw(G:0<=i)(B:ds[i.toNat]?\x):Bx (.fz ds) (.int i) M\x:=by
 let(T,Y):=ao.mp B;have J:i<ds.length:=by lia
 simp[Bx,aat,G,J,T,Y]
def aqi:p8 .len [.fz ds] M=.ok (.int ds.length) M:=rfl
@[simp] def be8(x:D)(r:List D):Bx (.tup (x::r)) (.int 0) M\x:=Jf ⋯ rfl
@[simp] def be9(x y:D)(r:List D):Bx (.tup (x::y::r)) (.int 1) M\y:=Jf ⋯ rfl
@[simp] def bfa(x y z:D)(r:List D):Bx (.tup (x::y::z::r)) (.int 2) M\z:=Jf ⋯ rfl
def abd(h:M[n]?\(.dT Z))(Y:Ry b\k):Bx (.ref n) b M=Ag Z k:=by simp[Bx,h,Y]
def a1s(h:M[n]?\(.dT Z))(Y:Ry b\k):T6 M b (.ref n)\(Ag Z k).isSome:=by simp[T6,h,Y]
def bax(h:M[n]?\(.dK Z))(Y:Yq b\k):Bx (.ref n) b M=Ag Z k:=by simp[Bx,h,Y]
@[simp] def abe(i j:Int):Ry (.tup [.int i,.int j])=some [.inl i,.inl j]:=rfl
@[simp] def bkm(i:Int):Yq (.int i)\(.inl i):=rfl
def Ed(h:M[n]?\(.lst Z)):Pq .append (.ref n) M=true:=by simp[Pq,gr,h]
def acz(h:M[n]?\(.lst Z))(Y:Z.length<6000000):Lb .append (.ref n) [d] M=.ok .non (M.set n (.lst (Z++[d]))):=by simp[Lb,onL,h,Y]
def Ej(h:M[n]?\(.lst Z))(Y:Z.length<100000):Lb .append (.ref n) [d] M=.ok .non (M.set n (.lst (Z++[d]))):=acz h (d_ Y ⋯)
def ac0(h:M[n]?\(.lst Z))(T:0<=i)(Y:i<Z.length):setOp (.ref n) (.int i) d M\(M.set n (.lst (Z.set i.toNat d))):=by simp[setOp,h,aat,T,Y]
def aqj(h:M[n]?\(.dT Z))(T:Ry b\k)(Y:Z.length<100000):setOp (.ref n) b d M\(M.set n (.dT (Eh Z k d))):=by simp[setOp,h,T,Y]
def vm{M:fc}(h:M[a]?\o):a<M.length:=(ao.mp h).1
def qj{M:fc}(h:M[a]?\p):(M.set a o)[a]?\o:=by rw[Az (vm h)]
def j9{M:fc}(h:b≠a):(M.set b o)[a]?=M[a]?:=v8 h
def yd{M:fc}{a:Nat}(h:M[a]?\o):(M++X)[a]?\o:=by rw[gq (vm h)];exact h
@[simp] def Dt{M:fc}:(M++[o])[M.length]?\o:=by simp
theorem Yv(x:Int):∀l,(insI x l).Perm (x::l)
 |[]=>Aj _
 |y::l=>by
  unfold insI;split
  .exact Aj _
  .exact((Yv x l).cons y).trans (List.Perm.swap x y l)
theorem Mj:∀l,(sortI l).Perm l
 |[]=>Aj _|x::l=>(Yv x _).trans ((Mj l).cons x)
theorem aqk(x:Int):∀{l:Xs},l.Pairwise (·<=·)->(insI x l).Pairwise (·<=·)
 |[],_=>List.pairwise_singleton _ _
 |y::l,h=>by
  let(T,G):=zx.mp h;unfold insI;split
  .refine zx.mpr (λz Y=>?_,h)
   rcases dh.mp Y with rfl|Y
   .lia
   .have:=T z Y;lia
  .refine zx.mpr (λz Y=>?_,aqk x G)
   rcases dh.mp ((Yv x l).mem_iff.mp Y)with rfl|Y
   .lia
   .exact T z Y
theorem aj9:∀l,(sortI l).Pairwise (·<=·)
 |[]=>List.Pairwise.nil|x::l=>aqk x (aj9 l)
theorem Wa(k:Int):∀l,k∈Bp l↔k∈l
 |[]=>Iff.rfl
 |x::l=>by
  unfold Bp;split
  .rename_i h
   rw[Wa k l,dh];exact(.inr,λz=>z.elim (λe=>e▸h) id)
  .rw[dh,dh,Wa k l]
theorem ac8:∀l,(Bp l).Nodup
 |[]=>Bt
 |x::l=>by
  unfold Bp;split
  .exact ac8 l
  .rename_i h
   exact ug.mpr (λz=>h ((Wa x l).mp z),ac8 l)
theorem aql:∀l,(Bp l).length<=l.length
 |[]=>bz _
 |x::l=>by
  have:=aql l;unfold Bp;split<;>simp<;>omega
theorem a1t:∀{a b:Xs},a.Pairwise (·<=·)->b.Pairwise (·<=·)->a.Nodup->b.Nodup->(∀k,k∈a↔k∈b)->a=b
 |[],[],_,_,_,_,_=>rfl|[],y::b,_,_,_,_,h=>nomatch(h y).mpr dw|x::a,[],_,_,_,_,h=>nomatch(h x).mp dw
 |x::a,y::b,ha,hb,na,nb,h=>by
  let(B,J):=zx.mp ha;let(O,Y):=zx.mp hb;let(T,N):=ug.mp na;let(G,C):=ug.mp nb;have e:x=y:=by
   rcases dh.mp ((h x).mp dw)with e|m
   .exact e
   .rcases dh.mp ((h y).mpr dw)with e|m'
    .exact e.symm
    .have:=O x m;have:=B y m';lia
  subst e
  congr 1
  refine a1t J Y N C λk=>(λm=>?_,λm=>?_)
  .rcases dh.mp ((h k).mp (bu _ m))with rfl|m'
   .exact absurd m T
   .exact m'
  .rcases dh.mp ((h k).mpr (bu _ m))with rfl|m'
   .exact absurd m G
   .exact m'
def aka(Y:ns.Pairwise (·<=·))(T:ns.Nodup)(G:∀k,k∈l↔k∈ns):ns=sortI (Bp l):=
 a1t Y (aj9 _) T ((Mj _).nodup_iff.mpr (ac8 l)) λk=>by rw[(Mj _).mem_iff,Wa,G]
noncomputable abbrev Ex.xx(a b c:Ex):Ex:=.ix (.ix a b) c
noncomputable abbrev Ex.tp(a:Ex):Ex:=.blt .tuple (.o a)
noncomputable abbrev Dg.ap(a b:Ex):Dg:=.expr (.bm .append a (.o b))
noncomputable abbrev Ex.cp(n:Nat)(i:Sq)(e:Ex):Ex:=.comp true 1 (.name n) i e
noncomputable abbrev Dg.fr(n:Nat)(e:Ex)(b:p7):Dg:=.for_ (.name n) (.Xn e) b
noncomputable abbrev Dg.fv(n:Nat)(e:Ex)(b:p7):Dg:=.for_ (.name n) (.val e) b
noncomputable abbrev Dg.as(l:Y3)(e:Ex):Dg:=.asg (.tg (.names l)) e
noncomputable abbrev Dg.pt(a b e:Ex):Dg:=.asg (.sub a b) e
abbrev Ex.k2(n:Nat)(a b:Ex):Ex:=.call n (.p a b)
abbrev Ex.k3(n:Nat)(a b c:Ex):Ex:=.call n (.q a b c)
noncomputable abbrev Ex.t2(a b:Ex):Ex:=.tup (.p a b)
noncomputable abbrev Ex.t3(a b c:Ex):Ex:=.tup (.q a b c)
end MW
namespace K31
open MW
noncomputable abbrev V0:Ex:=.var 0
noncomputable abbrev V1:Ex:=.var 1
noncomputable abbrev V2:Ex:=.var 2
noncomputable abbrev V3:Ex:=.var 3
noncomputable abbrev V4:Ex:=.var 4
noncomputable abbrev V5:Ex:=.var 5
noncomputable abbrev V6:Ex:=.var 6
noncomputable abbrev V7:Ex:=.var 7
noncomputable abbrev V8:Ex:=.var 8
noncomputable abbrev V9:Ex:=.var 9
noncomputable abbrev Yw:Ex:=.var 10
noncomputable abbrev V11:Ex:=.var 11
noncomputable abbrev V12:Ex:=.var 12
noncomputable abbrev V13:Ex:=.var 13
noncomputable abbrev V19:Ex:=.var 19
noncomputable abbrev I0:Ex:=.i 0
noncomputable abbrev I1:Ex:=.i 1
noncomputable abbrev I2:Ex:=.i 2
noncomputable section
def Ml:p7:=.c (.expr (.k2 9 V1 V2)) (.c (.expr (.k2 10 V2 V3)) (.c (.expr (.k2 11 V2 V3)) (.q (.asg (.fld V0 2) V1) (.asg (.fld V0 1) V2) (.asg (.fld V0 0) (.blt .dict (.o V3))))))
def Mm:Fn:=(4,4,Ml)
def Oo:p7:=.o (.ret (.fld V0 2))
def Oq:Fn:=(1,1,Oo)
def Mp:p7:=.o (.ret (.fld V0 1))
def Cj:Fn:=(1,1,Mp)
def Kv:p7:=.q (.f (.cmp .eq V1 (.i (-1))) (.o (.ret V2))) (.f (.cmp .eq V2 (.i (-1))) (.o (.ret V1))) (.ret (.ix V0 (.t2 V1 V2)))
def Kw:Fn:=(3,3,Kv)
def Ek:p7:=.o (.f (.cmp .eq (.ix V3 I1) (.ix V5 I0)) (.o (.ap V1 (.t2 V2 V4))))
def Ky:Dg:=.for_ (.names [4,5]) (.enm V0) Ek
def Kz:p7:=.o Ky
def K1:Dg:=.for_ (.names [2,3]) (.enm V0) Kz
def Ou:p7:=.q (.a 1 (.lst .z)) K1 (.ret V1)
def Ov:Fn:=(1,6,Ou)
def Gy:p7:=.p (.f (.cmp .eq V1 (.i (-1))) (.o (.ret (.cmp .eq V2 V3)))) (.ret (.and (.chain .le .lt I0 V1 (.l V0)) (.cmp .eq (.ix V0 V1) (.t2 V2 V3))))
def Gz:Fn:=(4,4,Gy)
def Mq:p7:=.o (.f (.not (.and (.chain .le .lt I0 (.ix V2 I0) V0) (.chain .le .lt I0 (.ix V2 I1) V0))) (.o .raise))
def Mr:Dg:=.fv 2 V1 Mq
def P0:p7:=.q (.f (.not (.chain .le .le I1 V0 (.i 3))) (.o .raise)) (.f (.cmp .gt (.l V1) (.i 5)) (.o .raise)) Mr
def Qa:Fn:=(2,3,P0)
def Ow:p7:=.o (.f (.not (.call 8 (.c V0 (.q (.ix V1 (.t2 V3 V4)) (.xx V0 V3 I0) (.xx V0 V4 I1))))) (.o .raise))
def Ox:Dg:=.for_ (.names [3,4]) (.val V2) Ow
def Ss:p7:=.q (.a 2 (.call 7 (.o V0))) (.f (.Yp V1 V2) (.o .raise)) Ox
def Su:Fn:=(2,5,Ss)
def G4:p7:=.c (.f (.cmp .Uq (.t2 V4 V5) V1) (.o .cont)) (.q (.a 6 (.k3 6 V1 (.ix V1 (.t2 V3 V4)) V5)) (.a 7 (.k3 6 V1 V3 (.ix V1 (.t2 V4 V5)))) (.f (.cmp .ne V6 V7) (.o .raise)))
def Ms:Dg:=.fr 5 (.l V0) G4
def Mt:p7:=.o Ms
def Mu:Dg:=.for_ (.names [3,4]) (.val V2) Mt
def Qc:p7:=.p (.a 2 (.call 7 (.o V0))) Mu
def Qd:Fn:=(2,8,Qc)
def Jg:p7:=.p (.f (.cmp .lt V1 (.l V0)) (.o (.ret (.ix V0 V1)))) (.ret I0)
def Jh:Fn:=(2,2,Jg)
def Np:p7:=.q (.a 2 (.k2 12 V0 V1)) (.f (.cmp .ge V2 (.bin .pow (.i 10) (.i 18))) (.o (.ret (.lst (.p (.bin .sub V2 (.bin .pow (.i 10) (.i 18))) (.cst (.bl true))))))) (.ret (.lst (.p (.bin .mod V2 (.i 2147483647)) (.cst (.bl false)))))
def Nq:Fn:=(2,3,Np)
def Qe:p7:=.c (.f (.ix V0 I1) (.q (.a 2 (.bin .mod (.ix V0 I0) V1)) (.pt V0 I0 (.bin .fdiv (.ix V0 I0) V1)) (.ret V2))) (.c (.pt V0 I0 (.bin .mod (.bin .add (.bin .mul (.ix V0 I0) (.i 48271)) (.i 29)) (.i 2147483647))) (.q (.a 3 (.bin .mod (.bin .add (.bin .add (.bin .mul (.ix V0 I0) (.ix V0 I0)) (.bin .mul (.i 39373) (.ix V0 I0))) (.i 7)) (.i 2147483629))) (.a 3 (.bin .mod (.bin .add (.bin .mul V3 V3) (.bin .mul (.i 16807) V3)) (.i 2147483587))) (.ret (.bin .mod (.bin .fdiv V3 (.i 8)) V1))))
def Qf:Fn:=(2,4,Qe)
def Ji:Ex:=.cp 12 (.Xn (.ix V7 Yw)) (.k2 14 V0 (.ix V7 V11))
def Fy:p7:=.q (.a 10 (.k2 14 V0 V6)) (.a 11 (.k2 14 V0 V6)) (.ap V8 (.t3 Yw V11 (.tp Ji)))
def Jj:Dg:=.fr 9 (.k2 14 V0 (.i 4)) Fy
def Jk:Ex:=.cp 12 (.Xn V6) (.bin .add I1 (.k2 14 V0 (.i 3)))
def Nr:p7:=.c (.a 1 (.k2 14 V0 (.i 12))) (.c (.f (.cmp .lt V1 (.i 7)) (.c (.a 2 (.Kl (.p (.t3 I0 I1 (.t2 I0 I1)) (.t3 I0 I1 (.t2 I1 I0))))) (.c (.a 3 (.Kl (.q (.t3 I0 I1 (.tup (.c I0 (.q I0 I1 I1)))) (.t3 I0 I1 (.tup (.c I0 (.q I1 I0 I1)))) (.t3 I1 I0 (.t2 I0 (.i 3)))))) (.q (.a 4 (.Kl (.o (.t3 I0 I0 (.t2 I1 I0))))) (.a 5 (.Kl (.c V2 (.c V3 (.c V4 (.c (.Kl (.o (.t3 I0 I0 (.t3 I1 I2 I0)))) (.q (.Kl (.o (.t3 I0 I0 (.t2 I0 I0)))) (.Kl .z) (.Kl (.p (.t3 I0 I1 (.t2 I0 I1)) (.t3 I1 I2 (.t3 I0 I0 I1))))))))))) (.ret (.ix V5 V1)))))) (.c (.a 6 (.bin .add I1 (.k2 14 V0 (.i 3)))) (.c (.a 7 Jk) (.q (.a 8 (.lst .z)) Jj (.ret V8)))))
def Ew:Fn:=(1,12,Nr)
def Hm:Ex:=.cp 10 (.val (.ix V7 I2)) (.xx V8 I2 Yw)
def Eb:p7:=.c (.a 4 (.tup .z)) (.q (.f (.cmp .eq (.ix V7 I1) (.ix V8 I0)) (.o (.a 4 (.tp Hm)))) (.a 9 (.t3 (.ix V7 I0) (.ix V8 I1) V4)) (.f (.and (.cmp .ne V4 (.tup .z)) (.and (.cmp .Uq V9 V1) (.or (.cmp .ne (.ix V9 I0) (.ix V9 I1)) (.cmp .ne V4 (.aib (.l V4)))))) (.o (.ap V1 V9))))
def Hn:Dg:=.for_ (.names [7,8]) (.val (.Kl (.p (.t2 (.ix V1 V5) (.ix V1 V6)) (.t2 (.ix V1 V6) (.ix V1 V5))))) Eb
def Ho:p7:=.o Hn
def Hq:Dg:=.fr 6 (.l V1) Ho
def Oz:p7:=.p Hq (.a 5 (.bin .add V5 I1))
def Hr:Dg:=.whl (.and (.cmp .lt V5 (.l V1)) (.cmp .lt (.l V1) (.i 6))) Oz
def Ay:p7:=.o (.f (.and (.or (.cmp .ne V2 V3) (.cmp .ne V4 (.aib (.l V4)))) (.cmp .Uq (.t3 V2 V3 V4) V1)) (.o (.ap V1 (.t3 V2 V3 V4))))
def Hs:Dg:=.for_ (.names [2,3,4]) (.val V0) Ay
def Sv:p7:=.c (.a 1 (.lst .z)) (.c Hs (.q (.a 5 I0) Hr (.ret V1)))
def Sw:Fn:=(1,10,Sv)
def G5:Ex:=.comp true 3 (.names [8,9,10]) (.val V2) (.t2 V8 V9)
def G6:Ex:=.cp 8 (.val (.xx V2 V5 I2)) (.xx (.ix V2 V6) I2 V8)
def Dn:p7:=.o (.f (.cmp .eq (.xx V2 V5 I1) (.xx V2 V6 I0)) (.p (.a 7 (.t3 (.xx V2 V5 I0) (.xx V2 V6 I1) (.tp G6))) (.pt V4 (.t2 V5 V6) (.ite (.cmp .inn V7 V2) (.bm .index V2 (.o V7)) (.neg I1)))))
def Mv:Dg:=.fr 6 (.l V2) Dn
def Mw:p7:=.o Mv
def Ey:Dg:=.fr 5 (.l V2) Mw
def G7:Ex:=.comp true 3 (.names [8,9,10]) (.val V2) (.blt .max (.p V8 V9))
def Mx:p7:=.p (.a 1 (.cut V1 .none (.some (.neg I1)))) (.a 2 (.call 16 (.o V1)))
def G8:Dg:=.whl (.cmp .gt (.l V2) (.i 5)) Mx
def Qg:p7:=.c (.a 1 (.call 15 (.o V0))) (.c (.a 2 (.call 16 (.o V1))) (.c G8 (.c (.a 3 (.bin .add I1 (.blt .max (.o (.bin .add G7 (.Kl (.o I0))))))) (.c (.f (.cmp .eq V2 (.Kl .z)) (.o (.a 3 (.bin .add I1 (.k2 14 V0 (.i 3)))))) (.q (.a 4 .ah8) Ey (.ret (.t3 V3 (.tp G5) V4)))))))
def Qh:Fn:=(1,8,Qg)
def Ld:Ex:=.Ep true 1 (.name 2) (.Xn (.l (.ix V0 I1))) (.cmp .eq (.xx (.ix V0 I1) V2 I0) V1) V2
def Wt:p7:=.o (.ret (.bin .add (.Kl (.o (.neg I1))) Ld))
def Wu:Fn:=(2,2,Wt)
def Nt:p7:=.o (.ret (.ite (.cmp .lt V2 I0) V1 (.xx (.ix V0 I1) V2 I1)))
def Nu:Fn:=(3,3,Nt)
def Hg:p7:=.p (.f (.or (.cmp .lt V1 I0) (.cmp .lt V2 I0)) (.o (.ret (.bin .add (.bin .add V1 V2) I1)))) (.ret (.xx V0 I2 (.t2 V1 V2)))
def Hh:Fn:=(3,3,Hg)
def afk:Ex:=.cp 11 (.Xn V9) (.bin .mod V11 Yw)
def Wv:Ex:=.comp true 2 (.names [9,10]) (.zip (.p V3 (.ix V2 I0))) (.tp afk)
def afl:Ex:=.cp 11 (.Xn V9) (.bin .fdiv V11 Yw)
def Ww:Ex:=.comp true 2 (.names [9,10]) (.zip (.p V3 (.ix V2 I0))) (.tp afl)
def Wx:p7:=.o (.ap V4 (.k3 23 (.xx V1 I1 V5) (.xx V2 I1 V5) (.xx V2 I0 (.ix V6 I1))))
def K3:Dg:=.for_ (.names [5,6]) (.enm (.meth V0 0)) Wx
def Qi:Ex:=.comp true 2 (.names [9,10]) (.zip (.p (.ix V1 I0) (.ix V2 I0))) (.bin .mul V9 Yw)
def abf:p7:=.c (.a 3 (.tp Qi)) (.c (.a 4 (.lst .z)) (.c K3 (.q (.a 7 (.tp Ww)) (.a 8 (.tp Wv)) (.ret (.t3 (.t2 V3 (.tp V4)) V7 V8)))))
def abg:Fn:=(3,9,abf)
def Lf:Ex:=.cp 5 (.val V1) (.bin .add (.bin .mul V4 V2) V5)
def Lg:p7:=.o (.expr (.bm .extend V3 (.o Lf)))
def Sx:Dg:=.fv 4 V0 Lg
def Wy:p7:=.q (.a 3 (.lst .z)) Sx (.ret (.tp V3))
def Wz:Fn:=(3,5,Wy)
def Nv:Ex:=.comp true 3 (.names [3,4,5]) (.zip (.q V1 V2 (.ix V0 I0))) (.k3 25 V3 V4 V5)
def afm:p7:=.o (.ret (.tp Nv))
def afn:Fn:=(3,3,afm)
def Fz:Ex:=.comp true 2 (.names [3,4]) (.zip (.p V0 V1)) (.bin .add (.bin .mul V3 V2) V4)
def Ux:p7:=.o (.ret (.tp Fz))
def Uy:Fn:=(3,3,Ux)
def O1:Ex:=.cp 13 (.val (.ix V1 V6)) (.ite (.cmp .eq V13 V12) V11 V13)
def Fi:p7:=.c (.a 9 (.xx V1 V5 V8)) (.q (.a 10 (.xx V1 V6 (.xx V2 V4 V8))) (.f (.cmp .ne (.bm .get V7 (.p V9 Yw)) Yw) (.c (.a 11 (.blt .min (.p (.ix V7 V9) Yw))) (.c (.a 12 (.blt .max (.p (.ix V7 V9) Yw))) (.c (.pt V1 V6 O1) (.q (.a 3 (.cst (.bl true))) (.a 7 .ah9) .brk))))) (.pt V7 V9 Yw))
def Ht:Dg:=.fr 8 (.l (.ix V1 V5)) Fi
def Hu:p7:=.q (.as [5,6] (.xx V0 I1 V4)) (.a 7 .ah9) Ht
def Hv:Dg:=.fr 4 (.l (.ix V0 I1)) Hu
def Hw:p7:=.p (.a 3 (.cst (.bl false))) Hv
def Hx:Dg:=.whl V3 Hw
def S8:p7:=.q (.a 3 (.cst (.bl true))) Hx (.ret V1)
def Tc:Fn:=(3,13,S8)
def Jl:Ex:=.cp 19 (.val (.v 16)) (.l V19)
def Jm:Ex:=.cp 19 (.val (.v 18)) (.bm .index (.ix (.v 16) V12) (.o V19))
def Jo:Ex:=.cp 19 (.val (.ix (.v 16) V11)) (.xx V13 V12 (.xx V9 Yw V19))
def Jp:p7:=.q (.as [11,12] (.xx V1 I1 Yw)) (.a 18 Jo) (.ap (.v 17) (.tp Jm))
def Jq:Dg:=.fr 10 (.l (.ix V1 I1)) Jp
def Jr:Ex:=.cp 19 (.val V13) (.blt .Kr (.o V19))
def Qj:Ex:=.cp 19 (.val (.ix V13 V5)) (.ite (.cmp .eq V19 (.v 15)) (.v 14) V19)
def Ga:p7:=.c (.a 5 (.k2 14 V0 (.ix V1 I0))) (.q (.a 11 (.k2 14 V0 (.i 7))) (.a 12 (.k2 14 V0 (.i 7))) (.f (.cmp .lt (.blt .max (.p V11 V12)) (.l (.ix V13 V5))) (.c (.a 14 (.blt .min (.p (.xx V13 V5 V11) (.xx V13 V5 V12)))) (.q (.a 15 (.blt .max (.p (.xx V13 V5 V11) (.xx V13 V5 V12)))) (.pt V13 V5 Qj) (.a 13 (.k3 26 V1 V13 V9))))))
def Js:Dg:=.fr 10 (.k2 14 V0 (.i 4)) Ga
def Jt:Ex:=.comp false 1 (.name 19) (.val V3) (.aas (.l V19))
def Ju:Ex:=.comp true 3 (.names [19,20,21]) (.val (.ix V3 V11)) (.bm .index (.ix V3 V12) (.o (.t3 V19 (.v 20) (.k3 20 V1 (.v 21) Yw))))
def Qk:p7:=.p (.as [11,12] (.xx V1 I1 Yw)) (.ap V9 Ju)
def Jv:Dg:=.fr 10 (.l (.ix V1 I1)) Qk
def Jw:Ex:=.cp 19 (.val V3) (.l V19)
def Jx:p7:=.o (.ap (.ix V3 V7) (.t3 V4 V5 V8))
def Jy:Dg:=.for_ (.names [7,8]) (.val V6) Jx
def Jz:Ex:=.cp 19 (.val (.k2 18 V1 V5)) (.t2 (.k3 19 V1 V5 V19) V19)
def Gb:p7:=.q (.a 5 (.k2 14 V0 (.ix V1 I0))) (.a 6 Jz) (.f (.cmp .lt (.bin .add (.blt .max (.o Jw)) (.l V6)) (.i 8)) (.o Jy))
def J0:Dg:=.fr 4 (.k2 14 V0 (.bin .add V2 I1)) Gb
def O2:Ex:=.cp 19 (.Xn (.ix V1 I0)) (.lst .z)
def Uz:p7:=.c (.a 3 O2) (.c J0 (.c (.a 9 (.lst .z)) (.c Jv (.c (.a 13 Jt) (.c Js (.c (.a 16 Jr) (.q (.a 17 (.lst .z)) Jq (.ret (.t2 (.tp Jl) (.tp (.v 17)))))))))))
def U0:Fn:=(3,19,Uz)
def T7:p7:=.p (.f (.cmp .lt V2 I0) (.o (.ret V1))) (.ret (.xx (.ix V0 I1) V2 V1))
def T8:Fn:=(3,3,T7)
def Gd:p7:=.c (.a 8 (.t2 (.k3 19 V0 (.ix V4 I0) V7) (.k3 28 V1 (.ix V4 I1) V7))) (.q (.a 9 (.k3 28 V2 V5 V7)) (.f (.cmp .ne (.bm .get V6 (.p V8 V9)) V9) (.o (.ret (.cst .non)))) (.pt V6 V8 V9))
def Ge:Dg:=.fv 7 (.k2 18 V0 (.ix V4 I0)) Gd
def Nx:p7:=.q (.a 6 (.blt .dict (.o V3))) Ge (.ret V6)
def Ny:Fn:=(6,10,Nx)
def O3:Ex:=.Ep true 1 (.name 6) (.val V4) (.cmp .Uq V6 V2) V6
def O4:Ex:=.Ep true 1 (.name 6) (.val V4) (.cmp .inn V6 V2) V6
def Hy:Ex:=.cp 6 (.Xn (.xx V1 I0 V5)) (.t2 V5 V6)
def O5:p7:=.o (.expr (.bm .extend V4 (.o Hy)))
def Hz:Dg:=.fr 5 (.ix V0 I0) O5
def Ia:Ex:=.cp 6 (.val (.xx V1 I1 V3)) (.t2 (.xx (.ix V0 I1) V3 I1) V6)
def O6:p7:=.o (.expr (.bm .extend V2 (.o Ia)))
def Ib:Dg:=.fr 3 (.l (.ix V0 I1)) O6
def Td:p7:=.c (.a 2 (.lst .z)) (.c Ib (.q (.a 4 (.lst .z)) Hz (.ret (.bin .add O3 O4))))
def Te:Fn:=(2,6,Td)
def Lh:Ex:=.cp 12 (.Xn (.xx V1 I0 V11)) (.ix V6 (.t2 V11 V12))
def Tf:p7:=.o (.ap Yw (.tp Lh))
def Th:Dg:=.fr 11 (.ix V0 I0) Tf
def Li:p7:=.q (.a 10 (.lst .z)) Th (.ap V9 (.tp Yw))
def Ti:Dg:=.fv 6 V3 Li
def Lj:p7:=.p (.a 8 (.call 29 (.c V0 (.c V1 (.c V2 (.q V6 V4 V7)))))) (.f (.cmp .isn V8 (.cst .non)) (.o (.ap V5 V8)))
def Ln:Dg:=.fr 7 (.xx V2 I0 (.ix V4 I0)) Lj
def Lp:p7:=.o (.iff (.cmp .inn V4 V6) (.o (.ap V5 V6)) (.o Ln))
def Tj:Dg:=.fv 6 V3 Lp
def Lq:p7:=.q (.a 5 (.lst .z)) Tj (.a 3 V5)
def Tn:Dg:=.fv 4 (.k2 30 V0 V1) Lq
def W0:p7:=.c (.a 3 (.Kl (.o .ah8))) (.c Tn (.q (.a 9 (.lst .z)) Ti (.ret (.blt .sorted (.o V9)))))
def W2:Fn:=(3,12,W0)
def J1:Ex:=.cp 11 (.Xn (.ix V0 I0)) (.bin .mul (.xx V1 I0 V11) (.xx V2 I0 V11))
def J2:p7:=.p (.a 10 (.bin .mul (.xx (.ix V1 I1) V4 V8) (.xx V2 I0 V6))) (.ap V7 (.bin .add Yw (.xx (.ix V2 I1) V4 V9)))
def J5:Dg:=.fr 9 (.xx V2 I0 V5) J2
def J6:p7:=.o J5
def J7:Dg:=.fr 8 (.xx V1 I0 V5) J6
def Ql:p7:=.c (.as [5,6] (.xx V0 I1 V4)) (.q (.a 7 (.lst .z)) J7 (.ap V3 (.tp V7)))
def Qm:Dg:=.fr 4 (.l (.ix V0 I1)) Ql
def U3:p7:=.q (.a 3 (.lst .z)) Qm (.ret (.t2 (.tp J1) (.tp V3)))
def U4:Fn:=(3,11,U3)
def Qn:p7:=.p (.f (.cmp .eq (.l V1) I0) (.o (.ret (.cst .non)))) (.ret (.ix V1 (.k2 14 V0 (.l V1))))
def Qo:Fn:=(2,2,Qn)
def Lr:Ex:=.comp true 2 (.names [2,3]) (.zip (.p V0 V1)) (.k2 34 V2 V3)
def K4:p7:=.p (.f (.blt .isSeq (.o V1)) (.q (.f (.or (.cmp .ne (.blt .isTuple (.o V0)) (.blt .isTuple (.o V1))) (.cmp .ne (.blt .isList (.o V0)) (.blt .isList (.o V1)))) (.o (.ret (.cst (.bl false))))) (.f (.cmp .ne (.l V0) (.l V1)) (.o (.ret (.cst (.bl false))))) (.ret (.blt .all (.o Lr))))) (.ret (.and (.cmp .eq V0 V1) (.cmp .eq (.blt .isBool (.o V0)) (.blt .isBool (.o V1)))))
def K5:Fn:=(2,2,K4)
def G9:Ex:=.cp 7 (.val V6) (.bin .mod V7 (.xx V2 I0 V5))
def Ha:Ex:=.cp 7 (.val V6) (.bin .fdiv V7 (.xx V2 I0 V5))
def My:p7:=.q (.a 6 (.aas (.bin .mul (.xx V1 I0 V5) (.xx V2 I0 V5)))) (.ap V3 (.tp Ha)) (.ap V4 (.tp G9))
def Mz:Dg:=.fr 5 (.ix V0 I0) My
def Qp:p7:=.c (.a 3 (.lst .z)) (.q (.a 4 (.lst .z)) Mz (.ret (.t3 (.k3 32 V0 V1 V2) (.tp V3) (.tp V4))))
def Qq:Fn:=(3,7,Qp)
def Cz:p7:=.q (.a 6 (.k2 33 V0 (.k3 31 V1 V2 V3))) (.a 7 (.k2 33 V0 (.k3 31 V1 V2 V4))) (.f (.and (.cmp .isn V6 (.cst .non)) (.cmp .isn V7 (.cst .non))) (.o (.f (.not (.k2 34 (.k3 24 V4 V6 V7) (.k3 40 V4 V6 V7))) (.o (.ret (.cst (.bl false)))))))
def Ef:Dg:=.fr 5 I2 Cz
def Ip:p7:=.p Ef (.ret (.cst (.bl true)))
def Ir:Fn:=(5,8,Ip)
def ac9:p7:=.o (.f (.not (.k2 34 (.k3 22 V3 Yw V11) (.k3 35 V2 Yw V11))) (.o (.ret (.cst (.bl false)))))
def akb:Dg:=.for_ (.names [10,11]) (.val (.Kl (.c (.t2 V4 V5) (.c (.t2 V6 V9) (.c (.t2 V9 V4) (.q (.t2 V7 V4) (.t2 V5 V8) (.t2 V4 V5))))))) ac9
def ada:Ex:=.cp 12 (.Xn (.i 3)) (.k3 27 V1 V2 (.i 3))
def a1v:p7:=.c (.a 1 (.k2 13 V0 I0)) (.c (.a 2 (.call 17 (.o V1))) (.c (.a 3 (.make 2 (.q (.ix V2 I0) (.ix V2 I1) (.blt .dict (.o (.ix V2 I2)))))) (.c (.as [4,5,6] ada) (.c (.a 7 (.t2 (.bin .mul (.tup (.o I1)) (.ix V2 I0)) (.bin .mul (.tup (.o (.tup (.o I0)))) (.l (.ix V2 I1))))) (.c (.a 8 (.t2 (.bin .mul (.tup (.o I0)) (.ix V2 I0)) (.bin .mul (.tup (.o (.tup .z))) (.l (.ix V2 I1))))) (.c (.f (.not (.k2 34 (.Kl (.p (.call 38 (.o V3)) (.call 39 (.o V3)))) (.Kl (.p V7 V8)))) (.o (.ret (.cst (.bl false))))) (.q (.a 9 (.k3 32 V2 V4 V5)) akb (.ret (.and (.call 36 (.c V1 (.c V2 (.q V6 V4 V5)))) (.call 36 (.c V1 (.c V2 (.q V6 V5 V4)))))))))))))
def aqn:Fn:=(1,12,a1v)
def W3:p7:=.o (.ret (.t2 (.bin .mul (.tup (.o I1)) (.meth V0 1)) (.bin .mul (.tup (.o (.tup (.o I0)))) (.l (.meth V0 0)))))
def W4:Fn:=(1,1,W3)
def abh:p7:=.o (.ret (.t2 (.bin .mul (.tup (.o I0)) (.meth V0 1)) (.bin .mul (.tup (.o (.tup .z))) (.l (.meth V0 0)))))
def abi:Fn:=(1,1,abh)
def Ie:Ex:=.comp true 2 (.names [7,8]) (.zip (.p (.ix V1 V4) (.ix V2 V4))) (.bin .add (.bin .mul V7 V5) V8)
def O7:p7:=.q (.a 5 (.xx V0 I0 V4)) (.a 6 Ie) (.ap V3 (.tp V6))
def O8:Dg:=.fr 4 (.l V1) O7
def Tp:p7:=.q (.a 3 (.lst .z)) O8 (.ret (.tp V3))
def Tq:Fn:=(3,7,Tp)
def prog:Prog:=([Mm,Oq,Cj,Cj,Cj,Cj,Kw,Ov,Gz,Qa,Su,Qd,Jh,Nq,Qf,Ew,Sw,Qh,Wu,Nu,Hh,Cj,abg,Wz,afn,Uy,Tc,U0,T8,Ny,Te,W2,U4,Qo,K5,Qq,Ir,aqn,W4,abi,Tq],[(0,[]),(0,[]),(0,[(0,2),(1,1)])])
end
end K31
namespace MW
theorem adb{fin:fc->Bool}{item:Nat->fc->Option D}{T:D->Env->fc->Res (Flow×Env)}(I:Nat->Env->fc->Prop){n:Nat}
 (step:∀i Y M,i<n->I i Y M->∃d fl Z U,item i M\d/\T d Y M=.ok (fl,Z) U/\(fl=.next\/fl=.cont)/\I (i+1) Z U) (B:∀Y M,I n Y M->fin M=true) :
 ∀(k i:Nat)(Y:Env)(M:fc),i+k=n->I i Y M->∃Z U,Dr fin item T k i Y M=.ok (.next,Z) U/\I n Z U
 |0,i,Y,M,e,h=>by
  have q:i=n:=by lia
  rw[q]at h;exact(Y,M,by simp[Dr,B Y M h],h)
 |k+1,i,Y,M,e,h=>by
  let(d,fl,G,N,L,C,O,P):=step i Y M (by lia) h;let(J,R,S,E):=adb I step B k (i+1) G N (by lia) P;refine(J,R,?_,E);rcases O with rfl|rfl<;>simp[Dr,L,C,S]
def X3(I:Nat->Env->fc->Prop)(T:I 0 U M)(step:∀i d U M,ds[i]?\d->I i U M->∃fl Z M',body d U M=.ok (fl,Z) M'/\(fl=.next\/fl=.cont)/\I (i+1) Z M') :
 ∃Z M',Dr (Src.con ds).fin (Src.con ds).item body (Src.con ds).len 0 U M=.ok (.next,Z) M'/\I ds.length Z M':=by
 refine adb I (λi U M Y h=>?_) (λ_ _ _=>rfl) ds.length 0 U M (u0 _) T;let(fl,Z,M',a,b,c):=step i ds[i] U M (by simp[Y]) h;exact(ds[i],fl,Z,M',by simp[Src.item,Y],a,b,c)
def ade(I:Nat->Env->fc->Prop)(G:I 0 ρ M)(step:∀i ρ M,i<n->I i ρ M->∃U Z M',body (.int i) ρ M=.ok (U,Z) M'/\(U=.next\/U=.cont)/\I (i+1) Z M') :
 ∃Z M',Dr (Src.con ((List.range n).map λ(k:Nat)=>D.int (k:Int))).fin (Src.con ((List.range n).map λ(k:Nat)=>D.int (k:Int))).item body (Src.con ((List.range n).map λ(k:Nat)=>D.int (k:Int))).len 0 ρ M=.ok (.next,Z) M'/\I n Z M':=by
 have:=X3 (ds:=(List.range n).map λ(k:Nat)=>D.int (k:Int)) (body:=body) I G (λi d ρ M Y h=>by
  have T:i<n:=by have:=(ao.mp Y).1;simpa using this
  rw[ir,u9 T]at Y;have Y:D.int (i:Int)=d:=by simpa using Y
  subst Y;exact step i ρ M T h)
 simpa using this
def aqo(I:Nat->Env->fc->Prop)(T:I 0 U M)(stay:∀i U M,I i U M->M[p]?\(.lst ds))(step:∀i d U M,ds[i]?\d->I i U M->∃fl Z M',body d U M=.ok (fl,Z) M'/\(fl=.next\/fl=.cont)/\I (i+1) Z M') :
 ∃Z M',Dr (Src.live p ds.length).fin (Src.live p ds.length).item body (Src.live p ds.length).len 0 U M=.ok (.next,Z) M'/\I ds.length Z M':=by
 refine adb I (λi U M Y h=>?_) (λU M h=>by simp[Src.fin,stay _ U M h]) ds.length 0 U M (u0 _) T;let(fl,Z,M',a,b,c):=step i ds[i] U M (by simp[Y]) h;exact(ds[i],fl,Z,M',by simp[Src.item,stay i U M h,Y],a,b,c)
theorem J8{fin:fc->Bool}{item:Nat->fc->Option D}{body:D->fc->Res (Option D)}(I:Nat->List D->fc->Prop){n:Nat}
 (step:∀i Y M,i<n->I i Y M->∃d o Z,item i M\d/\body d M=.ok o Z/\I (i+1) (Y++o.toList) Z) (T:∀Y M,I n Y M->fin M=true) :
 ∀(k i:Nat)(Y:List D)(M:fc),i+k=n->I i Y M->∃U Z,Er fin item body k i M=.ok U Z/\I n (Y++U) Z
 |0,i,Y,M,e,h=>by
  have q:i=n:=by lia
  rw[q]at h;exact([],M,by simp[Er,T Y M h],by simpa using h)
 |k+1,i,Y,M,e,h=>by
  let(d,o,B,O,J,G):=step i Y M (by lia) h;let(U,N,L,C):=J8 I step T k (i+1) (Y++o.toList) B (by lia) G;refine(o.toList++U,N,?_,by rw[<-w5];exact C);cases o<;>simp[Er,O,J,L]
def Wb{s:Src}{ds:List D}(L:s.fin M=true)(B:s.len=ds.length)(C:∀i,i<ds.length->s.item i M=ds[i]?)(h:∀d∈ds,body d M=.ok (g d) M) :
 Er s.fin s.item body s.len 0 M=.ok (ds.filterMap g) M:=by
 let(E,Y,e,N,J):=J8 (fin:=s.fin) (item:=s.item) (body:=body) (λi G Y=>Y=M/\G=(ds.take i).filterMap g) (n:=ds.length) (λi G Y T O=>by
  let(rfl,rfl):=O;refine(ds[i],g ds[i],Y,by rw[C i T];simp[T],h _ (m5 T),rfl,?_);rw[yp,List.filterMap_append];simp[T];cases e:g ds[i]<;>simp[e]) (λG Y h=>by rw[h.1];exact L) ds.length 0 [] M (u0 _) (rfl,rfl)
 rw[B,e,N];simp at J;rw[J]
def aqp(h:∀d∈ds,body d M=.ok (some (g d)) M) :
 Er (Src.con ds).fin (Src.con ds).item body (Src.con ds).len 0 M=.ok (ds.map g) M:=by
 rw[Wb (s:=.con ds) (ds:=ds) (g:=λd=>some (g d)) rfl rfl (λi _=>rfl) h,List.filterMap_eq_map']
end MW
namespace MW
theorem Rm{c:Env->fc->Res D}{T:Env->fc->Res (Flow×Env)}(I:Nat->Env->fc->Prop)(B:Env->fc->Prop)
 (step:∀m Y M,I m Y M->(∃U,c Y M=.ok (.bl false) U/\B Y U) \/
  ∃U fl Z M2 m',c Y M=.ok (.bl true) U/\T Y U=.ok (fl,Z) M2/\(fl=.next\/fl=.cont)/\m'<m/\I m' Z M2) :
 ∀(k m:Nat)(Y:Env)(M:fc),m<k->I m Y M->∃Z M',Hf c T k Y M=.ok (.next,Z) M'/\B Z M'
 |0,m,_,_,h,_=>absurd h (su _)
 |k+1,m,Y,M,h,hI=>by
  rcases step m Y M hI with⟨U,J,G⟩|⟨U,fl,O,M2,m',J,G,E,R,S⟩
  .exact(Y,U,by simp[Hf,J],G)
  .let(C,N,P,L):=Rm I B step k m' O M2 (b_ R (z_ h)) S
   refine(C,N,?_,L);rcases E with rfl|rfl<;>simp[Hf,J,G,P]
end MW
namespace MW
def vf(M Y:fc):Prop:=∀(a:Nat)(o:MO),M[a]?\o->Y[a]?\o
def vf.refl(M:fc):vf M M:=λ_ _ h=>h
def vf.trans(a:vf M Z)(b:vf Z M2):vf M M2:=λx o h=>b x o (a x o h)
def vf.app(M X:fc):vf M (M++X):=λ_ _ h=>yd h
def vf.len(k:vf M Z):M.length<=Z.length:=by
 rcases Nat.eq_zero_or_pos M.length with h|h
 .exact a_ (f_ h) (jd _)
 .have:=vm (k (M.length-1) M[M.length-1] (by simp))
  lia
theorem vf.gr(k:vf M Z)(h:gr M d\ds):MW.gr Z d\ds:=by
 cases d with
 |vl Y=>exact h
 |ref n =>
  simp only[MW.gr]at h⊢;cases e:M[n]? with
  |none=>rw[e]at h;simp at h|some o=>rw[e]at h;rw[k n o e];exact h
 |_=>simp[MW.gr]at h
def Yx(I:Nat->Env->fc->Prop)(Y:gr M d\ds)(T:I 0 ρ M)(stay:∀i ρ M,I i ρ M->gr M d\ds)(step:∀i x ρ M,ds[i]?\x->I i ρ M->∃U Z M',body x ρ M=.ok (U,Z) M'/\(U=.next\/U=.cont)/\I (i+1) Z M') :
 ∃s,srcOf M d\s/\∃Z M',Dr s.fin s.item body s.len 0 ρ M=.ok (.next,Z) M'/\I ds.length Z M':=by
 cases d with
 |vl G=>simp[gr]at Y;subst Y;exact(_,rfl,X3 I T step)
 |ref n =>
  cases e:M[n]? with
  |none=>simp[gr,e]at Y
  |some o =>
   cases o with
   |lst G =>
    simp[gr,e]at Y;subst Y;refine(.live n G.length,by simp[srcOf,e],aqo I T (λi ρ M h=>?_) step);have:=stay i ρ M h;simp only[gr]at this;split at this<;>simp_all
   |_=>simp[gr,e]at Y
 |_=>simp[gr]at Y
def akc(Y:ds.length<=100000)(h:∀d∈ds,body d M=.ok (some (g d)) M):Bb (.con ds) body M=.ok (ds.map g) M:=by rw[Bb,dm (show(Src.con ds).len<=100000 from Y)];exact aqp h
def afo(Y:ds.length<=100000)(h:∀d∈ds,body d M=.ok (g d) M):Bb (.con ds) body M=.ok (ds.filterMap g) M:=by rw[Bb,dm (show(Src.con ds).len<=100000 from Y)];exact Wb (s:=.con ds) rfl rfl (λ_ _=>rfl) h
def Qs(Y:gr M d\ds)(G:ds.length<=100000)(h:∀x∈ds,body x M=.ok (g x) M) :
 ∃s,srcOf M d\s/\Bb s body M=.ok (ds.filterMap g) M:=by
 cases d with
 |vl T=>simp[gr]at Y;subst Y;exact(_,rfl,afo G h)
 |ref n =>
  cases e:M[n]? with
  |none=>simp[gr,e]at Y
  |some o =>
   cases o with
   |lst T =>
    simp[gr,e]at Y;subst Y;exact(.live n T.length,by simp[srcOf,e],by rw[Bb,dm (show(Src.live n T.length).len<=100000 from G)];exact Wb (s:=.live n T.length) (by simp[Src.fin,e]) rfl (λi _=>by simp[Src.item,e]) h)
   |_=>simp[gr,e]at Y
 |_=>simp[gr]at Y
def Je(v:Bool)(k:Nat)(t:Tg)(it:Sq)(e:Ex):(Ex.comp v k t it e).den W Z M=(it.den W Z M).bind λs M1 =>
 (Bb s (λd M=>(Res.wy (t.put d (Z++List.replicate k none)) M).bind λU M=>(e.den W U M).bind λx M'=>.ok (some x) M') M1).bind λds M2=>if v then .ok (.vl ds) M2 else new (.lst ds) M2:=by
 rw[Pz]
 congr 1;funext s M1;congr 2;funext d M
 cases t.put d (Z++List.replicate k none)<;>rfl
def Qt(v:Bool)(k:Nat)(t:Tg)(it:Sq)(c e:Ex):(Ex.Ep v k t it c e).den W U M=(it.den W U M).bind λs M1 =>
 (Bb s (λd M=>(Res.wy (t.put d (U++List.replicate k none)) M).bind λZ M=>(c.den W Z M).bind λb M' =>
  match b with
   |.bl true=>(e.den W Z M').bind λx qq=>.ok (some x) qq
   | .bl false=>.ok none M'|_=>.bad) M1).bind λds M2=>if v then .ok (.vl ds) M2 else new (.lst ds) M2:=by
 rw[Yu]
 congr 1;funext s M1;congr 2;funext d M
 cases t.put d (U++List.replicate k none)<;>rfl
def Ro(t:Tg)(it:Sq)(b:p7):(Dg.for_ t it b).den W Z M=(it.den W Z M).bind λs M1=>Dr s.fin s.item (λd Z M=>(Res.wy (t.put d Z) M).bind λU M=>b.den W U M) s.len 0 Z M1:=by
 rw[Vx]
 congr 1;funext s M1;congr 1;funext d Z M
 cases t.put d Z<;>rfl
def vz{W:Kg}{n:Nat}(B:S=Dg.for_ t (.Xn it) b)(Y:it.den W ρ M=.ok (.int (n:Int)) M1)(O:n<=100000)(I:Nat->Env->fc->Prop)(T:I 0 ρ M1)(step:∀i ρ M,i<n->I i ρ M->∃U fl Z M',t.put (.int i) ρ\U/\b.den W U M=.ok (fl,Z) M'/\(fl=.next\/fl=.cont)/\I (i+1) Z M') :
 ∃Z M',S.den W ρ M=.ok (.next,Z) M'/\I n Z M':=by
 subst B;rw[Ro,Rj,Y];have G:((n:Int)).natAbs<=100000:=by lia
 simp only[Res.yc,G,mq,wz];exact ade I T (λi ρ M J h=>by
  let(U,fl,Z,M',a,b,c,d):=step i ρ M J h;exact(fl,Z,M',by rw[a];exact b,c,d))
def Du{W:Kg}(C:S=Dg.for_ t (.val it) b)(Y:it.den W ρ M=.ok d M1)(G:gr M1 d\ds)(I:Nat->Env->fc->Prop)(T:I 0 ρ M1)(stay:∀i ρ M,I i ρ M->gr M d\ds)(step:∀i x ρ M,ds[i]?\x->I i ρ M->∃U fl Z M',t.put x ρ\U/\b.den W U M=.ok (fl,Z) M'/\(fl=.next\/fl=.cont)/\I (i+1) Z M') :
 ∃Z M',S.den W ρ M=.ok (.next,Z) M'/\I ds.length Z M':=by
 subst C;rw[Ro,Ku,Y];let(s,O,J):=Yx (body:=λd ρ M=>(Res.wy (t.put d ρ) M).bind λZ M=>b.den W Z M) I G T stay (λi x ρ M B h=>by
  let(U,fl,Z,M',a,b,c,d):=step i x ρ M B h;exact(fl,Z,M',by rw[a];exact b,c,d))
 simp only[Res.yc,O,Res.Di];exact J
def W5{W:Kg}(J:S=Dg.for_ t (.val it) b)(Y:it.den W ρ M=.ok (.tup ds) M1)(I:Nat->Env->fc->Prop)(T:I 0 ρ M1)(step:∀i x ρ M,ds[i]?\x->I i ρ M->∃U fl Z M',t.put x ρ\U/\b.den W U M=.ok (fl,Z) M'/\(fl=.next\/fl=.cont)/\I (i+1) Z M') :
 ∃Z M',S.den W ρ M=.ok (.next,Z) M'/\I ds.length Z M':=by
 subst J;rw[Ro,Ku,Y];exact X3 I T (λi x ρ M G h=>by
  let(U,fl,Z,M',a,b,c,d):=step i x ρ M G h;exact(fl,Z,M',by rw[a];exact b,c,d))
def Qu{W:Kg}(O:S=Dg.for_ t (.enm it) b)(T:it.den W ρ M=.ok (.tup ds) M1)(I:Nat->Env->fc->Prop)(B:I 0 ρ M1)(step:∀i x ρ M,ds[i]?\x->I i ρ M->∃U fl Z M',t.put (.tup [.int i,x]) ρ\U/\b.den W U M=.ok (fl,Z) M'/\(fl=.next\/fl=.cont)/\I (i+1) Z M') :
 ∃Z M',S.den W ρ M=.ok (.next,Z) M'/\I ds.length Z M':=by
 subst O;rw[Ro,aj8,T];have:=X3 (ds:=Mg ds 0) (body:=λd ρ M=>(Res.wy (t.put d ρ) M).bind λZ M=>b.den W Z M) I B (λi x ρ M J h=>by
  have Y:i<ds.length:=by have:=(ao.mp J).1;simpa[Mg]using this
  have G:x=.tup [.int i,ds[i]]:=by simp[Mg,Y]at J;exact J.symm
  subst G;let(U,fl,Z,M',a,b,c,d):=step i ds[i] ρ M (by simp[Y]) h;exact(fl,Z,M',by rw[a];exact b,c,d))
 have e:(Mg ds 0).length=ds.length:=by simp[Mg]
 rw[e]at this;exact this
def Bj(T:it.den W U M=.ok d M1)(J:gr M1 d\ds)(G:ds.length<=100000)(h:∀x∈ds,∃Z,t.put x (U++List.replicate k none)\Z/\e.den W Z M1=.ok (g x) M1) :
 (Ex.comp v k t (.val it) e).den W U M=if v then .ok (.vl (ds.map g)) M1 else new (.lst (ds.map g)) M1:=by
 rw[Je,Ku,T];let(s,N,B):=Qs (g:=λx=>some (g x)) (body:=λd M=>(Res.wy (t.put d (U++List.replicate k none)) M).bind λY M=>(e.den W Y M).bind λx C=>.ok (some x) C) J G (λx O=>by
  let(Z,a,b):=h x O;rw[a];simp[b])
 simp only[Res.yc,N,Res.Di,B,List.filterMap_eq_map']
def Nz(T:it.den W U M=.ok (.tup ds) M1)(G:ds.length<=100000)(h:∀x∈ds,∃Z,t.put x (U++List.replicate k none)\Z/\e.den W Z M1=.ok (g x) M1) :
 (Ex.comp v k t (.val it) e).den W U M=if v then .ok (.vl (ds.map g)) M1 else new (.lst (ds.map g)) M1:=by
 rw[Je,Ku,T];have B:=akc (g:=g) (M:=M1) (body:=λd M=>(Res.wy (t.put d (U++List.replicate k none)) M).bind λY M=>(e.den W Y M).bind λx O=>.ok (some x) O) G (λx J=>by
  let(Z,a,b):=h x J;rw[a];simp[b])
 show(Bb (.con ds) _ M1).bind _=_;rw[B];rfl
def Yy(Y:it.den W U M=.ok (.int (n:Int)) M1)(T:n<=100000)(h:∀i,i<n->∃Z,t.put (.int i) (U++List.replicate k none)\Z/\c.den W Z M1=.ok (.bl (q i)) M1/\(q i=true->e.den W Z M1=.ok (g i) M1)) :
 (Ex.Ep v k t (.Xn it) c e).den W U M=if v then .ok (.vl (((List.range n).filter q).map g)) M1 else new (.lst (((List.range n).filter q).map g)) M1:=by
 rw[Qt,Rj,Y];have G:((n:Int)).natAbs<=100000:=by lia
 simp only[Res.yc,G,mq,wz];rw[afo (ds:=(List.range n).map λ(k:Nat)=>D.int (k:Int)) (g:=λd=>match d with|.int i=>if q i.toNat then some (g i.toNat)else none|_=>none) (by simpa using T) (λx B=>by
  let(i,J,rfl):=bh.mp B;let(Z,a,b,c):=h i (jh.mp J);rw[a,Res.Di,Res.yc,b,Res.yc];cases e:q i with
  | true=>simp[e,c e]|false=>simp[e])]
 have:(((List.range n).map λ(k:Nat)=>D.int (k:Int)).filterMap λd=>match d with|.int i=>if q i.toNat then some (g i.toNat)else none|_=>none)=((List.range n).filter q).map g:=by
  rw[List.filterMap_map]
  induction List.range n with
  |nil=>rfl|cons a l O=>by_cases e:q a=true<;>simp[e,O]
 rw[this];rfl
theorem akd{fin:fc->Bool}{item:Nat->fc->Option D}{body:D->Env->fc->Res (Flow×Env)}(I:Nat->Env->fc->Prop)(G:Env->fc->Prop){n:Nat}
 (step:∀i Y M,i<n->I i Y M->∃d fl Z U,item i M\d/\body d Y M=.ok (fl,Z) U/\(((fl=.next\/fl=.cont)/\I (i+1) Z U)\/(fl=.brk/\G Z U))) (O:∀Y M,I n Y M->fin M=true/\G Y M) :
 ∀(k i:Nat)(Y:Env)(M:fc),i+k=n->I i Y M->∃Z U,Dr fin item body k i Y M=.ok (.next,Z) U/\G Z U
 |0,i,Y,M,e,h=>by
  have q:i=n:=by lia
  rw[q]at h;exact(Y,M,by simp[Dr,(O Y M h).1],(O Y M h).2)
 |k+1,i,Y,M,e,h=>by
  obtain⟨d,fl,T,N,L,C,⟨E,B⟩|⟨rfl,B⟩⟩:=step i Y M (by lia) h
  .let(J,P,S,R):=akd I G step O k (i+1) T N (by lia) B
   refine(J,P,?_,R);rcases E with rfl|rfl<;>simp[Dr,L,C,S]
  .exact(T,N,by simp[Dr,L,C],B)
def afp{W:Kg}{n:Nat}(C:S=Dg.for_ t (.Xn it) b)(T:it.den W U M=.ok (.int (n:Int)) M1)(L:n<=100000)(I:Nat->Env->fc->Prop)(Y:Env->fc->Prop)(B:I 0 U M1)(N:∀U M,I n U M->Y U M)(step:∀i U M,i<n->I i U M->∃qq fl Z M',t.put (.int i) U\qq/\b.den W qq M=.ok (fl,Z) M'/\(((fl=.next\/fl=.cont)/\I (i+1) Z M')\/(fl=.brk/\Y Z M'))) :
 ∃Z M',S.den W U M=.ok (.next,Z) M'/\Y Z M':=by
 subst C;rw[Ro,Rj,T];have O:((n:Int)).natAbs<=100000:=by lia
 simp only[Res.yc,O,mq,wz];let(Z,M',e,h):=akd (fin:=(Src.con ((List.range n).map λ(k:Nat)=>D.int (k:Int))).fin) (item:=(Src.con ((List.range n).map λ(k:Nat)=>D.int (k:Int))).item) (body:=λd U M=>(Res.wy (t.put d U) M).bind λZ M=>b.den W Z M) I Y (n:=n) (λi U M G h=>by
  let(qq,fl,Z,M',a,b,c):=step i U M G h;exact(.int i,fl,Z,M',by simp[Src.item,G],by rw[a];exact b,c)) (λU M h=>(rfl,N U M h)) n 0 U M1 (u0 _) B
 have J:(Src.con ((List.range n).map λ(k:Nat)=>D.int (k:Int))).len=n:=by simp[Src.len]
 rw[J];exact(Z,M',e,h)
def adf(T:it.den W ρ M=.ok (.int (n:Int)) M1)(C:n<=100000)(I:Nat->List D->fc->Prop)(B:I 0 [] M1)(step:∀i xs M,i<n->I i xs M->∃Z x M',t.put (.int i) (ρ++List.replicate k none)\Z/\e.den W Z M=.ok x M'/\I (i+1) (xs++[x]) M') :
 ∃U M',(Ex.comp v k t (.Xn it) e).den W ρ M=(if v then .ok (.vl U) M' else new (.lst U) M')/\I n U M':=by
 rw[Je,Rj,T];have O:((n:Int)).natAbs<=100000:=by lia
 simp only[Res.yc,O,mq,wz];let(U,M',g,h):=J8 (fin:=(Src.con ((List.range n).map λ(k:Nat)=>D.int (k:Int))).fin) (item:=(Src.con ((List.range n).map λ(k:Nat)=>D.int (k:Int))).item) (body:=λd M=>(Res.wy (t.put d (ρ++List.replicate k none)) M).bind λY M=>(e.den W Y M).bind λx M'=>.ok (some x) M') I (n:=n) (λi xs M G h=>by
  let(Z,x,M',a,b,c):=step i xs M G h;exact(.int i,some x,M',by simp[Src.item,G],by rw[a];simp[b],by simpa using c)) (λ_ _ _=>rfl) n 0 [] M1 (u0 _) B
 have J:(Src.con ((List.range n).map λ(k:Nat)=>D.int (k:Int))).len=n:=by simp[Src.len]
 refine(U,M',?_,by simpa using h);rw[Bb,J,dm C,g];rfl
set_option tactic.hygienic true in
def Ls(B:it.den W ρ M=.ok d M1)(O:gr M1 d\ds)(H:ds.length<=100000)(I:Nat->List D->fc->Prop)(E:I 0 [] M1)(stay:∀i Z M,I i Z M->gr M d\ds)(step:∀i y Z M,ds[i]?\y->I i Z M->∃Y x M',t.put y (ρ++List.replicate k none)\Y/\e.den W Y M=.ok x M'/\I (i+1) (Z++[x]) M') :
 ∃G M',(Ex.comp v k t (.val it) e).den W ρ M=(if v then .ok (.vl G) M' else new (.lst G) M')/\I ds.length G M':=by
 rw[Je,Ku,B];obtain⟨s,R,L,P,Q⟩:∃s,srcOf M1 d\s/\s.len=ds.length/\(∀M i,gr M d\ds->s.item i M=ds[i]?)/\∀M,gr M d\ds->s.fin M=true:=by
  cases d with
  |vl V=>cases O;exact(.con ds,rfl,rfl,λ_ _ _=>rfl,λ_ _=>rfl)
  |ref p =>
   have get:∀{M:fc},gr M (.ref p)\ds->M[p]?\(.lst ds):=fun{M} h=>by
    simp only[gr]at h;split at h
    .rename_i z;cases h;exact z
    .cases h
   refine(.live p ds.length,by simp[srcOf,get O],rfl,λM i h=>by simp[Src.item,get h],λM h=>by simp[Src.fin,get h])
  |_=>cases O
 simp only[Res.yc,R,Res.Di];let(G,M',g,h):=J8 (fin:=s.fin) (item:=s.item) (body:=λd M=>(Res.wy (t.put d (ρ++List.replicate k none)) M).bind λT M=>(e.den W T M).bind λx M'=>.ok (some x) M') I (n:=ds.length) (λi Z M N h=>by
  let(Y,x,M',a,b,c):=step i ds[i] Z M (by simp[N]) h;exact(ds[i],some x,M',by rw[P M i (stay i Z M h)];simp[N],by rw[a];simp[b],by simpa using c)) (λZ M h=>Q M (stay _ Z M h)) ds.length 0 [] M1 (u0 _) E
 refine(G,M',?_,by simpa using h);rw[Bb,L,dm H,g];rfl
def We{Y:Type}{f g:Y->Nat}{l:List Y}(h:∀x∈l,f x<=g x):(l.map f).sum<=(l.map g).sum:=by
 induction l with
 |nil=>exact bz _
 |cons a l G =>
  rw[f9,f9,uz,uz];exact Nat.add_le_add (h a (by simp)) (G λx T=>h x (bu _ T))
def sum_filter{Y:Type}{f:Y->Nat}{p:Y->Bool}{l:List Y}:((l.filter p).map f).sum<=(l.map f).sum:=by
 induction l with
 |nil=>exact bz _
 |cons a l T =>
  rw[Aq,f9,uz];split
  .rw[f9,uz];exact Ca T _
  .exact gh T (Bg _ _)
open Classical in
def red{J:Type}{R:J->J->Prop}(tr:∀{a b c},R a b->R b c->R a c)(c:J->Nat)(G:List J) :
 ∃Z:List J,(∀g∈Z,g∈G)/\(∀g∈G,∃h∈Z,h=g\/R h g)/\Z.Pairwise (λa b=>¬R a b/\¬R b a)/\(Z.map c).sum<=(G.map c).sum:=by
 induction G with
 |nil=>exact([],by simp,by simp,.nil,bz _)
 |cons g G P =>
  let(Z,N,C,O,L):=P
  by_cases z:∃h∈Z,R h g
  .let(h,B,T):=z
   refine(Z,λx Y=>bu _ (N x Y),λx Y=>?_,O,?_)
   .rcases dh.mp Y with q|q
    .exact(h,B,.inr (q▸T))
    .exact C x q
   .rw[f9,uz];exact gh L (Bg _ _)
  .refine(g::Z.filter (λh=>decide (¬R g h)),λx Y=>?_,λx Y=>?_,?_,?_)
   .rcases dh.mp Y with q|q
    .rw[q];simp
    .exact bu _ (N x (je.mp q).1)
   .rcases dh.mp Y with q|q
    .exact(g,by simp,.inl q.symm)
    .let(h,B,T):=C x q
     by_cases y:R g h
     .refine(g,by simp,.inr ?_)
      rcases T with rfl|T
      .exact y
      .exact tr y T
     .exact(h,bu _ (je.mpr (B,wu y)),T)
   .refine zx.mpr (λh B=>?_,O.filter _)
    let(S,E):=je.mp B;exact(km E,λq=>z (h,S,q))
   .rw[f9,f9,uz,uz]
    exact Ca (gh sum_filter L) _
def aih{Y:Type}(p:Y->Bool)(l:List Y):(l.filter p).length+(l.filter λx=>!p x).length=l.length:=by
 induction l with
 |nil=>rfl
 |cons a l T =>
  rw[Aq,Aq];cases p a<;>simp<;>lia
def Yz{G:Type}{l:List G}{p:G->Bool}{a b:G}(J:a∈l)(B:b∈l)(n:a≠b)(C:p a=false)(O:p b=false):(l.filter p).length<=l.length-2:=by
 have e:=aih p l;have T:a∈l.filter (λx=>!p x):=je.mpr (J,by rw[C];rfl);have Y:b∈l.filter (λx=>!p x):=je.mpr (B,by rw[O];rfl);have:2<=(l.filter (λx=>!p x)).length:=by
  generalize l.filter (λx=>!p x)=y at T Y
  match y,T,Y with
  |[x],T,Y=>exact absurd ((ig.mp T).trans (ig.mp Y).symm) n|_::_::_,_,_=>simp
 lia
structure Plc(α:Type)where
 V:α->Prop
 W:α->List Int
 mv:α->Int->α
 st:∀p,-1∈W p/\mv p (-1)=p
 cl:∀{p w},V p->w∈W p->V (mv p w)
 tw:∀{p w v},V p->w∈W p->v∈W (mv p w)->∃u∈W p,mv p u=mv (mv p w) v
namespace Plc
variable{α:Type}(S:Plc α)
def R(p q:α):Prop:=S.V p/\∃w∈S.W p,q=S.mv p w
def End(q:α):Prop:=∃x,S.V x/\∃k∈S.W x,k≠-1/\q=S.mv x k
noncomputable def cost(G:List α):Nat:=(G.map λg=>max 1 ((S.W g).length-2)).sum
def Dm(l:List α)(q:α):Prop:=∃p∈l,S.R p q
variable{S}
def R.axd(h:S.V p):S.R p p:=(h,-1,(S.st p).1,(S.st p).2.symm)
def R.v(h:S.R p q):S.V q:=by let(T,w,Y,e):=h;rw[e];exact S.cl T Y
def R.tr(h:S.R p q)(g:S.R q r):S.R p r:=by let(T,w,G,rfl):=h;let(_,v,Y,rfl):=g;let(u,J,e):=S.tw T G Y;exact(T,u,J,e.symm)
def Dm.cl(h:S.Dm l p)(g:S.R p q):S.Dm l q:=by let(x,Y,r):=h;exact(x,Y,r.tr g)
theorem Dm.v(h:S.Dm l q):S.V q:=by let(_,_,r):=h;exact r.v
open Classical in
def gens{G N E:List α}(gv:∀g∈G,S.V g)(gg:∀q,S.V q->∃g∈G,S.R g q)(gc:S.cost G<=8)(hN:∀p∈N,S.V p/\¬S.End p)(hA:∀q,S.V q->¬S.End q->q∈N)(j:Nat) :
 ∃A:List α,A.length<=8/\(∀a∈A,S.Dm ((N++E).take j) a)/\∀q,S.Dm ((N++E).take j) q->∃a∈A,S.R a q:=by
 let(T,h1,h2,U,h4):=red (R:=S.R) (λa b=>a.tr b) (λg=>max 1 ((S.W g).length-2)) G;have I:∀g∈T,S.V g:=λg Y=>gv g (h1 g Y)
 have B:∀q,S.V q->∃g∈T,S.R g q:=λq O=>by
  let(g,Y,r):=gg q O;let(h,J,z):=h2 g Y;rcases z with rfl|z
  .exact(h,J,r)
  .exact(h,J,z.tr r)
 have P:(T.map λg=>max 1 ((S.W g).length-2)).sum<=8:=gh h4 gc
 have one:∀g∈T,∀h∈T,S.R g h->g=h:=λg Y h hh r=>by
  by_cases e:g=h
  .exact e
  .exact absurd r (List.Pairwise.forall_of_forall_of_flip (R:=λa b=>a≠b->¬S.R a b) (λ_ _ n=>absurd rfl n) (U.imp λz _=>z.1) (U.imp λz _=>z.2) Y hh e)
 by_cases hj:j<=N.length
 .refine(T.filter λg=>decide (S.Dm ((N++E).take j) g),?_,λa F=>km (je.mp F).2,λq O=>?_)
  .refine gh (qy _ _) (gh ?_ P)
   have:=We (l:=T) (f:=λ_=>1) (g:=λg=>max 1 ((S.W g).length-2)) λx _=>Nat.le_max_left _ _
   simpa[List.map_const',List.sum_replicate_nat]using this
  .let(p,M,r):=id O
   have X:p∈N:=by rw[List.take_append_of_le_length hj]at M;exact List.mem_of_mem_take M
   let(v,K):=hN p X;let(g,Y,r'):=B p v;have e:p=g:=by
    let(C,w,L,e):=r'
    by_cases z:w=-1
    .rw[e,z,(S.st g).2]
    .exact absurd (g,C,w,L,z,e) K
   subst e;exact(p,je.mpr (Y,wu (p,M,R.axd v)),r)
 .have all:∀q,S.V q->¬S.End q->S.Dm ((N++E).take j) q:=λq C K=>by
   refine(q,?_,R.axd C);rw[List.take_append];exact qu _ (by rw[Ba (by lia)];exact hA q C K)
  generalize hD:S.Dm ((N++E).take j)=D at all;have dc:∀{p q},D p->S.R p q->D q:=fun{p q} h g=>by rw[<-hD]at h⊢;exact h.cl g
  have Z:∀{q},D q->S.V q:=fun{q} h=>by rw[<-hD]at h;exact h.v
  refine(T.flatMap λg=>if D g then[g]else((S.W g).filter λw=>decide (D (S.mv g w))).map (S.mv g),?_,λa F=>?_,λq O=>?_)
  .rw[List.length_flatMap]
   refine gh (We λg Y=>?_) P
   by_cases z:D g
   .rw[dm z];exact Nat.le_max_left _ _
   .rw[cz z,du]
    refine gh ?_ (Nat.le_max_right _ _);have C:=I g Y;obtain⟨x,hx,k,hk,nk,e⟩:S.End g:=xj λn=>z (all g C n)
    let(g',H,r):=B x hx;have rg:S.R x g:=(hx,k,hk,e);cases one g' H g Y (r.tr rg);let(_,u,hu,Q):=r
    by_cases zu:u=-1
    .rw[zu,(S.st g).2]at Q
     subst Q;exact Yz (S.st x).1 hk (lg nk) (lz (by rw[(S.st x).2];exact z)) (lz (by rw[<-e];exact z))
    .exact Yz (S.st g).1 hu (lg zu) (lz (by rw[(S.st g).2];exact z)) (lz λq=>z (dc (by rw[Q];exact q) rg))
  .let(g,Y,J):=Ar.mp F
   by_cases z:D g
   .rw[dm z]at J
    rw[ig.mp J];exact z
   .rw[cz z]at J
    let(w,L,rfl):=bh.mp J;exact km (je.mp L).2
  .let(g,Y,r):=B q (Z O)
   by_cases z:D g
   .exact(g,Ar.mpr (g,Y,by rw[dm z];simp),r)
   .let(_,w,L,e):=r
    refine(q,Ar.mpr (g,Y,?_),R.axd (Z O));rw[cz z,e];exact bh.mpr (w,je.mpr (L,wu (by rw[<-e];exact O)),rfl)
end Plc
noncomputable def enc(l:Y3):Nat:=l.foldr (λa n=>a+7*n) 0
def a4b(h:∀x∈l,x<7):enc l<7^l.length:=by
 induction l with
 |nil=>decide
 |cons a l T =>
  have G:=h a (by simp);have J:=T λx Y=>h x (bu _ Y)
  show a+7*enc l<7^(l.length+1)
  rw[Nat.pow_succ]
  lia
def axe{G:Type}{A:List G}{f g:G->Nat}(J:∀a∈A,f a<7)(T:∀a∈A,g a<7)(e:enc (A.map f)=enc (A.map g)):∀a∈A,f a=g a:=by
 induction A with
 |nil=>simp
 |cons a A B =>
  have e:f a+7*enc (A.map f)=g a+7*enc (A.map g):=e;have O:=J a (by simp);have k2:=T a (by simp);intro x Y;rcases dh.mp Y with q|q
  .rw[q];lia
  .exact B (λx Y=>J x (bu _ Y)) (λx Y=>T x (bu _ Y)) (by lia) x q
def afr{l:Y3}{n:Nat}(h:l.Nodup)(b:∀x∈l,x<n):l.length<=n:=by
 induction n generalizing l with
 |zero=>cases l with
  |nil=>exact bz _|cons a l=>exact absurd (b a (by simp)) (su _)
 |succ n T =>
  have:=T (l:=l.erase n) (h.erase n) λx Y=>by
   have G:=b x (List.mem_of_mem_erase Y);have J:=(h.mem_erase_iff.mp Y).1
   lia
  by_cases z:n∈l
  .rw[List.length_erase_of_mem z]at this;lia
  .rw[List.erase_of_not_mem z]at this;lia
def Plc.count{T:Type}{S:Plc T}{A:List T}{D:T->Prop}{fs:List (T->Nat)}{act:T->Nat->Int->Nat}(E:A.length<=8)(G:∀a∈A,D a)(Q:∀q,D q->∃a∈A,S.R a q)(sm:∀f∈fs,∀q,D q->f q<7)(L:∀f∈fs,∀p,D p->∀w∈S.W p,f (S.mv p w)=act p (f p) w)
 (P:fs.Pairwise λf g=>∃q,D q/\f q≠g q):fs.length<=7^8:=by
 have n:(fs.map λf=>enc (A.map f)).Nodup:=by
  rw[m6,w6];refine P.imp_of_mem fun{f g} J hg z e=>?_
  let(q,H,O):=z;let(a,Y,_,w,N,rfl):=Q q H;have:=axe (λa Y=>sm f J a (G a Y)) (λa Y=>sm g hg a (G a Y)) e a Y;rw[L f J a (G a Y) w N,L g hg a (G a Y) w N,this]at O;exact O rfl
 have:=afr (n:=7^8) n λx B=>by
  let(f,J,rfl):=bh.mp B;have C:=a4b (l:=A.map f) λx B=>by let(a,Y,rfl):=bh.mp B;exact sm f J a (G a Y)
  rw[du]at C;exact iu C (Nat.pow_le_pow_right ⋯ E)
 simpa using this
abbrev Goes(I:Nat->Env->fc->Prop)(R:D->fc->Prop)(i:Nat)(r:Res (Flow×Env)):Prop:=∃fl ρ' M',r=.ok (fl,ρ') M'/\((fl=.next/\I i ρ' M')\/∃v,fl=.ret v/\R v M')
theorem ake{fin:fc->Bool}{item:Nat->fc->Option D}{Y:D->Env->fc->Res (Flow×Env)}(I:Nat->Env->fc->Prop)(R:D->fc->Prop){n:Nat}
 (step:∀i Z M,i<n->I i Z M->∃d,item i M\d/\Goes I R (i+1) (Y d Z M)) (C:∀Z M,I n Z M->fin M=true) :
 ∀k i Z M,i+k=n->I i Z M->Goes I R n (Dr fin item Y k i Z M)
 |0,i,Z,M,e,h=>by
  obtain rfl:i=n:=by lia
  exact(_,Z,M,by simp[Dr,C Z M h],.inl (rfl,h))
 |k+1,i,Z,M,e,h=>by
  obtain⟨d,O,N,T,B,J,⟨rfl,G⟩|⟨v,rfl,G⟩⟩:=step i Z M (by lia) h
  .have:=ake I R step C k (i+1) T B (by lia) G
   simpa[Dr,O,J]using this
  .exact(.ret v,T,B,by simp[Dr,O,J],.inr (v,rfl,G))
section
variable{W:Kg}{ρ:Env}{M M1:fc}{t:Tg}{b:p7}
def axf{it:Sq}{s:Src}{n:Nat}(J:S=Dg.for_ t it b)(Y:it.den W ρ M=.ok s M1)(O:s.len=n)(I:Nat->Env->fc->Prop)(R:D->fc->Prop)(T:I 0 ρ M1)(B:∀ρ M,I n ρ M->s.fin M=true)
 (step:∀i ρ M,i<n->I i ρ M->∃d Z,s.item i M\d/\t.put d ρ\Z/\Goes I R (i+1) (b.den W Z M)):Goes I R n (S.den W ρ M):=by
 subst J;rw[Ro,Y,Res.yc,O];exact ake I R (λi ρ M G h=>by
  let(d,Z,a,b,c):=step i ρ M G h;exact(d,a,by rw[b];exact c)) B n 0 ρ M1 (u0 n) T
end
end MW
namespace K31
open MW
abbrev PW(m:Nat):Kg:=(prog.call m,prog.cls)
noncomputable abbrev sR(n:Nat):Option D:=some (.ref n)
noncomputable abbrev sI(i:Int):Option D:=some (.int i)
set_option genInjectivity true in
structure F where
 a:Nat
 b:Nat
 r:List Nat
 deriving DecidableEq
noncomputable def nD(x:Nat):D:=.int (x:Int)
def Gp(r:Y3):D:=.tup (r.map nD)
def F.toD(f:F):D:=.tup [.int f.a,.int f.b,Gp f.r]
def akf(x y:Nat):decide ((x:Int)=(y:Int))=decide (x=y):=by
 by_cases h:x=y
 .simp[h]
 .have:¬((x:Int)=(y:Int)):=by lia
  simp[h,this]
def N5(M:fc)(n x y:Nat):K9 M (n+1) (.int x) (.int y)\(decide (x=y)):=by rw[Xz,akf]
theorem adg(M:fc)(n:Nat):∀r s:List Nat,Ul (K9 M (n+1)) (r.map nD) (s.map nD)\(decide (r=s))
 |[],[]=>by simp[Ul]|[],_::_=>by simp[Ul]|_::_,[]=>by simp[Ul]
 |x::r,y::s=>by
  rw[f9,f9,Es (a:=nD x) (b:=nD y) (N5 M n x y) (adg M n r s)]
  by_cases h:x=y<;>simp[h]
def aii(M:fc)(r s:Y3):Ah M (Gp r) (Gp s)\(decide (r=s)):=adg M 4 r s
def bg6(M:fc)(f g:F):Ah M f.toD g.toD\(decide (f=g)):=by let(a,b,r):=f;let(c,d,s):=g;have e:K9 M 5 (Gp r) (Gp s)\(decide (r=s)):=adg M 3 r s;show Ul (K9 M 5) [.int a,.int b,Gp r] [.int c,.int d,Gp s]=_;rw[Es (N5 M 4 a c) (Es (N5 M 4 b d) (Es e (show Ul (K9 M 5) [] []\true from rfl)))];simp
theorem aqq(M:fc)(g:F):∀fs:List F,Rz M g.toD (fs.map F.toD)\(fs.map λf=>decide (f=g))
 |[]=>rfl|f::fs=>by simp only[f9,Rz,bg6,aqq M g fs]
def aqr(M:fc)(g:F)(fs:List F):memD M g.toD (fs.map F.toD)\(decide (g∈fs)):=by
 rw[memD,aqq,xd]
 congr 1
 induction fs with
 |nil=>simp
 |cons f fs Y =>
  by_cases h:f=g
  .simp[h]
  .simp only[f9,List.any_cons,Y,dh,id]
   simp[h,lg h]
noncomputable def pos(g:F):List F->Nat
 |[]=>0|f::fs=>if f=g then 0 else pos g fs+1
def bay(M:fc)(g:F)(fs:List F):afe M g.toD (fs.map F.toD)=if g∈fs then some (pos g fs)else none:=by
 rw[afe,aqq,uw]
 induction fs with
 |nil=>simp
 |cons f fs T =>
  rw[f9,List.findIdx?_cons,T,pos]
  by_cases h:f=g
  .simp[h]
  .by_cases Y:g∈fs<;>simp[h,lg h,Y]
theorem adh(g:F):∀{fs:List F},g∈fs->fs[pos g fs]?\g
 |f::fs,h=>by
  by_cases e:f=g
  .simp[pos,e]
  .have:g∈fs:=by
    rcases dh.mp h with q|q
    .exact absurd q.symm e
    .exact q
   simp[pos,e,adh g this]
def aij(G:fs.Nodup)(h:fs[i]?\f):pos f fs=i:=by have m:f∈fs:=bf h;have g:=adh f m;let(B,Y):=ao.mp h;let(J,T):=ao.mp g;exact(List.getElem_inj G).mp (T.trans Y.symm)
noncomputable def F.comp(f g:F):F:=(f.a,g.b,f.r.map λx=>g.r.getD x 0)
def F.R8(f:F):Prop:=f.a=f.b/\f.r=List.range f.r.length
instance (f:F):Decidable f.R8:=inferInstanceAs (Decidable (_/\_))
structure Ok1(sz:Nat->Nat)(f:F):Prop where
 a:f.a<3
 b:f.b<3
 len:f.r.length=sz f.a
 ran:∀x∈f.r,x<sz f.b
def Sz(sz:Nat->Nat):Prop:=∀k,1<=sz k/\sz k<=4
def Good(sz:Nat->Nat)(fs:List F):Prop:=∀f∈fs,Ok1 sz f
def getD_mem{r:Y3}(h:x<r.length):r.getD x 0∈r:=by rw[bx,bw h];exact m5 h
theorem Ok1.comp(Y:Ok1 sz f)(T:Ok1 sz g)(h:f.b=g.a):Ok1 sz (f.comp g):=by
 refine(Y.a,T.b,by simp[F.comp,Y.len],λx G=>?_);let(y,J,rfl):=bh.mp G;have:y<g.r.length:=by rw[T.len,<-h];exact Y.ran y J
 exact T.ran _ (getD_mem this)
def afs(r:Y3):(List.range r.length).map (λx=>r.getD x 0)=r:=by
 apply q9;intro i
 by_cases h:i<r.length
 .simp[h,u9 h]
 .simp[Nat.le_of_not_lt h,my]
def aik(Y:Ok1 sz f)(J:Ok1 sz g)(G:f.b=g.a):(f.comp g).comp h=f.comp (g.comp h):=by
 simp only[F.comp,Aw,F.mk.injEq,true_and];apply yz;intro x T;have:x<g.r.length:=by rw[J.len,<-G];exact Y.ran x T
 simp[this]
noncomputable def idF(sz:Nat->Nat)(k:Nat):F:=(k,k,List.range (sz k))
def adi(T:Ok1 sz f)(h:f.R8):f=idF sz f.a:=by let(a,b,r):=f;let(Y,G):=h;have:=T.len;simp only[idF]at *;subst Y;rw[<-this,<-G]
def id_comp(Y:Ok1 sz f):(idF sz f.a).comp f=f:=by let(a,b,r):=f;have:=Y.len;simp only[idF,F.comp]at *;rw[<-this,afs]
def comp_id(Y:Ok1 sz f):f.comp (idF sz f.b)=f:=by
 let(a,b,r):=f;have:=Y.ran;simp only[idF,F.comp,F.mk.injEq,true_and]at *
 conv=>rhs;rw[<-List.map_id r]
 apply yz;intro x T;simp[u9 (this x T)]
def Qv(fs:List F):Prop:=∀f∈fs,∀g∈fs,f.b=g.a->f.comp g∈fs\/(f.comp g).R8
def call_of(T:1<=m)(Y:prog.fns[f]?\Z):prog.call m f ds M=Z.run (PW (m-1)) ds M:=by obtain⟨n,rfl⟩:∃n,m=n+1:=(m-1,by lia);simp[Prog.call,Y]
def a4c(n:Int)(f:Bool):Prop:=0<=n/\(f=false->n<2147483647)
def W6(t:Nat)(f:Bool)(M:fc):Prop:=∃n,M[t]?\(.lst [.int n,.bl f])/\a4c n f
structure St(t:Nat)(f:Bool)(M M':fc):Prop where
 len:M.length<=M'.length
 has:W6 t f M'
 keep:∀(a:Nat)(o:MO),a≠t->M[a]?\o->M'[a]?\o
def St.trans(a:St t f M Z)(b:St t f Z M2):St t f M M2:=
 (gh a.len b.len,b.has,λx o n h=>b.keep x o n (a.keep x o n h))
def St.of(h:W6 t f M)(k:vf M M'):St t f M M':=
 (k.len,let (n,a,b):=h;(n,k _ _ a,b),λa o _ e=>k a o e)
def Dw(Q:1<=m)(S:W6 t f M)(Y:0<many)(V:many<1073741824) :
 ∃(v:Nat)(T:fc),prog.call m 14 [.ref t,.int many] M=.ok (.int v) T/\(v:Int)<many/\St t f M T/\T.length=M.length:=by
 let(n,h,B):=S;rw[call_of Q rfl];have C:=ju h;have L:=Ei C (i:=0) ⋯ rfl;have N:=Ei C (i:=1) ⋯ rfl;have fin:∀n':Int,a4c n' f->St t f M (M.set t (.lst [.int n',.bl f])):=λn' o=>(by simp,(n',qj h,o),λa u e q=>by rw[j9 (lg e)];exact q)
 have G:many≠0:=by lia
 have E:∀y:Int,∃v:Nat,y%many=(v:Int)/\(v:Int)<many:=λy=>by have a:=Cr y G;have b:=Bc y Y;exact((y%many).toNat,by lia,by lia)
 cases f with
 |true =>
  let(v,e,l):=E n;refine(v,_,?_,l,fin (n/many) (Int.ediv_nonneg B.1 (by lia),by simp),by simp);simp[Fn.run,Qf,Qe,L,N,Y,Vy _ _ Y V,ac0 h,e]
 |false =>
  have K:=B.1;have F:=B.2 rfl;obtain⟨n',O⟩:∃n',(n*48271+29)%2147483647=n':=(_,rfl);have H:0<=n':=O▸Cr _ ⋯
  have W:n'<2147483647:=O▸Bc _ ⋯
  obtain⟨x,J⟩:∃x,(n'*n'+39373*n'+7)%2147483629=x:=(_,rfl);have A:0<=x:=J▸Cr _ ⋯
  have I:x<2147483629:=J▸Bc _ ⋯
  obtain⟨y,R⟩:∃y,(x*x+16807*x)%2147483587=y:=(_,rfl);let(v,e,l):=E (y/8);refine(v,_,?_,l,fin n' (H,λ_=>W),by simp);have k:=qj (o:=.lst [.int n',.bl false]) h;have P:=Ei (ju k) (i:=0) ⋯ rfl;simp[Fn.run,Qf,Qe,L,N,Y,ac0 h,Mi n 48271 (.inr ⋯),O,P,Mi n' n' (.inl (by lia)),Mi 39373 n' (.inl ⋯),J,Mi x x (.inl (by lia)),Mi 16807 x (.inl ⋯),R,Vy _ 8 ⋯ ⋯,e]
def akg{k:Nat}{Y:Xs}(G:1<=m):prog.call m 12 [.fz (Y.map D.int),.int k] M=.ok (.int (Y.getD k 0)) M:=by
 rw[call_of G rfl]
 by_cases T:k<Y.length
 .simp[Fn.run,Jh,Jg,aqi,T,baw (ds:=Y.map D.int) (i:=k) (x:=.int (Y.getD k 0)) q_ (by simp[T])]
 .simp[Fn.run,Jh,Jg,aqi,T]
def aqs{k:Nat}{ns:Xs}(T:2<=m):∃n f,prog.call m 13 [.fz (ns.map D.int),.int k] M=.ok (.ref M.length) (M++[.lst [.int n,.bl f]])/\a4c n f:=by
 rw[call_of (a_ ⋯ T) rfl]
 by_cases h:(10:Int)^18<=ns.getD k 0
 .refine(ns.getD k 0-10^18,true,?_,by lia,by simp)
  have Y:(1000000000000000000:Int)<=ns[k]?.getD 0:=by simpa using h
  simp[Fn.run,Nq,Np,akg (show 1<=m-1 by exact r_ T),Y,MW.new]
 .refine(ns.getD k 0%2147483647,false,?_,Cr _ ⋯,λ_=>Bc _ ⋯)
  have Y:¬(1000000000000000000:Int)<=ns[k]?.getD 0:=by simpa using h
  simp[Fn.run,Nq,Np,akg (show 1<=m-1 by exact r_ T),Y,MW.new]
def akh(n:Nat)(i:Nat)(M:fc)(h:i<n):(Src.con ((List.range n).map λ(k:Nat)=>D.int (k:Int))).item i M\(.int i):=by simp[Src.item,u9 h]
def aki(n:Nat):(Src.con ((List.range n).map λ(k:Nat)=>D.int (k:Int))).len=n:=by simp[Src.len]
def aqt{K:Nat}(S:1<=m)(R:W6 t f M)(L:K<=3) :
 ∃(T:Y3)(Y:fc),Jk.den (PW m) [sR t,a1,a2,a3,a4,a5,sI K,a7,a8,a9,a10,a11] M=.ok (.vl (T.map nD)) Y/\T.length=K/\(∀x∈T,1<=x/\x<=3)/\St t f M Y/\Y.length=M.length:=by
 unfold Jk;rw[Pz];have G:K<=100000:=a_ L ⋯
 simp[G];symm
 have h:=J8 (fin:=λ_=>true) (item:=(Src.con ((List.range K).map λ(k:Nat)=>D.int (k:Int))).item)
  (body:=λd M=>((prog.call m 14 [D.ref t,D.int 3] M).bind λy C=>Em .add (.int 1) y C).bind λx Y=>Res.ok (some x) Y)
  (λi N Y=>∃T:List Nat,N=T.map nD/\T.length=i/\(∀x∈T,1<=x/\x<=3)/\St t f M Y/\Y.length=M.length) (n:=K)
  (λi N Y E P=>by
   symm
   let(T,rfl,rfl,B,J,O):=P;let(v,C,e,l,F,Q):=Dw S J.has (many:=3) ⋯ ⋯;apply _k;refine(.int T.length,sI (1+v),C,akh K _ Y E,by simp[e],T++[1+v],by simp[nD],by simp,λx H=>?_,J.trans F,Q.trans O);rcases dz.mp H with q|q
   .exact B x q
   .have:x=1+v:=by simpa using q
    lia) (λ_ _ _=>rfl) K 0 [] M (u0 _) ([],rfl,rfl,by simp,St.of R (vf.refl M),rfl)
 let(A,Y,e,T,B,J,O,V,W):=h;apply _k;refine(T,Y,?_,J,O,V,W);rw[Bb,aki,dm G,show(Src.con ((List.range _).map λ(k:Nat)=>D.int (k:Int))).fin=λ_=>true from rfl,e];simp at B;simp[B]
def a4d{T:Y3}(V:1<=m)(Q:W6 t f M)(G:∀x∈T,1<=x/\x<=3)(J:i<T.length)(C:j<T.length) :
 ∃(r:Y3)(Y:fc),Ji.den (PW m) [sR t,a1,a2,a3,a4,a5,a6,some (.vl (T.map nD)),a8,a9,sI i,sI j] M=.ok (.vl (r.map nD)) Y /\
  r.length=T.getD i 0/\(∀x∈r,x<T.getD j 0)/\St t f M Y/\Y.length=M.length:=by
 unfold Ji;rw[Pz];have P:=Ei (M:=M) (d:=.vl (T.map nD)) (i:=i) (x:=.int ((T.getD i 0:Nat):Int)) rfl q_ (by simp[J,nD]);have R:∀Y,Bx (.vl (T.map nD)) (.int j) Y\(.int ((T.getD j 0:Nat):Int)):=λY=>Ei rfl q_ (by simp[C,nD])
 have H:=G _ (getD_mem J);have N:=G _ (getD_mem C);generalize ea:T.getD i 0=a at *;generalize eb:T.getD j 0=b at *;have L:a<=100000:=a_ H.2 ⋯
 simp[P,R,L];symm
 have h:=J8 (fin:=λ_=>true) (item:=(Src.con ((List.range a).map λ(k:Nat)=>D.int (k:Int))).item)
  (body:=λd M=>(prog.call m 14 [D.ref t,D.int b] M).bind λx Y=>Res.ok (some x) Y)
  (λi E Y=>∃r:List Nat,E=r.map nD/\r.length=i/\(∀x∈r,x<b)/\St t f M Y/\Y.length=M.length) (n:=a)
  (λi E Y J S=>by
   symm
   let(r,rfl,rfl,O,B,G):=S;let(v,W,e,l,X,F):=Dw V B.has (many:=b) (m_ N.1) (m_ (c_ N.2 ⋯));apply _k;refine(.int r.length,sI v,W,akh a _ Y J,by simp[e],r++[v],by simp[nD],by simp,λx K=>?_,B.trans X,F.trans G);rcases dz.mp K with q|q
   .exact O x q
   .have:x=v:=by simpa using q
    exact c_ (f_ this) (o_ l)) (λ_ _ _=>rfl) a 0 [] M (u0 _) ([],rfl,rfl,by simp,St.of Q (vf.refl M),rfl)
 let(z,Y,e,r,O,B,G,A,I):=h;apply _k;refine(r,Y,?_,B,G,A,I);rw[Bb,aki,dm L,show(Src.con ((List.range _).map λ(k:Nat)=>D.int (k:Int))).fin=λ_=>true from rfl,e];simp at O;simp[O]
def adk{v:Nat}{G:Y3}(Q:1<=m)(hs:W6 t f M)(R:G.length=K)(L:1<=K)(B:K<=3)(h3:∀x∈G,1<=x/\x<=3)(hp:M[p]?\(.lst []))(Y:p≠t) :
 ∃(fs:List F)(O:Env)(T:fc),Jj.den (PW m) [sR t,sI v,none,none,none,none,sI K,some (.vl (G.map nD)),sR p,a9,a10,a11] M=.ok (.next,O) T /\
  O[8]?\(sR p)/\T[p]?\(.lst (fs.map F.toD))/\fs.length<=3/\Good (λk=>G.getD k 1) fs/\M.length<=T.length/\W6 t f T/\(∀(a:Nat)(o:MO),a≠t->a≠p->M[a]?\o->T[a]?\o):=by
 symm
 let(w,s,e1,l1,H,qq):=Dw Q hs (many:=4) ⋯ ⋯;apply _k;unfold Jj;rw[Vx];have Z:w<=100000:=e_ (b_ (o_ l1) ⋯)
 simp[e1,Z];symm
 let(O,T,e,fs,S,J,W,rfl,h1,h2,h4,h5,h6,h7):=ade (n:=w) (body:=λd C M=>Fy.den (PW m) (C.set 9 (some d)) M)
  (λi C T=>∃(fs:List F)(S J W:Option D),C=[sR t,sI v,none,none,none,none,sI K,some (.vl (G.map nD)),sR p,S,J,W] /\
   T[p]?\(.lst (fs.map F.toD))/\fs.length=i/\Good (λk=>G.getD k 1) fs/\M.length<=T.length/\W6 t f T/\(∀(a:Nat)(o:MO),a≠t->a≠p->M[a]?\o->T[a]?\o))
  (M:=s) ([],a9,a10,a11,rfl,by simpa using H.keep p _ Y hp,rfl,by intro f X;simp at X,H.len,H.has,λa o N _ h=>H.keep a o N h)
  (λi C M2 hi hI=>by
   symm
   let(fs,S,J,W,rfl,U,b,g3,g4,g5,g6):=hI;let(x,M3,ex,u,E,g):=Dw Q g5 (many:=K) (m_ L) (m_ (c_ B ⋯));let(y,M4,ey,I,P,l):=Dw Q E.has (many:=K) (m_ L) (m_ (c_ B ⋯));let(r,M5,er,lr,rr,V,A):=a4d (a1:=some (.int v)) (a2:=none) (a3:=none) (a4:=none) (a5:=none) (a6:=some (.int K)) (a8:=some (.ref p)) (a9:=some (.int i)) (i:=x) (j:=y) Q P.has h3 (b_ (o_ u) (g_ R)) (b_ (o_ I) (g_ R));have gp:=V.keep p _ Y (P.keep p _ Y (E.keep p _ Y U));apply _k;have hl:(fs.map F.toD).length<100000:=by rw[du];exact c_ (f_ b) (b_ hi Z)
   refine(.next,_,M5.set p (.lst (fs.map F.toD++[F.toD (x,y,r)])),?_,.inl rfl,fs++[(x,y,r)],sI i,sI x,sI y,rfl,?_,by simp[b],?_,?_,?_,?_)
   .simp[Fy,ex,ey,er,Ej gp hl,Ed (P.keep p _ Y (E.keep p _ Y U)),p8,F.toD,Gp]
   .rw[qj gp];simp
   .intro f X
    rcases dz.mp X with q|q
    .exact g3 f q
    .have:f=(x,y,r):=by simpa using q
     subst this;refine(by show x<3;exact b_ (o_ u) B,by show y<3;exact b_ (o_ I) B,?_,?_)
     .show r.length=G.getD x 1
      rw[lr];simp[bx,bw (show x<G.length by exact b_ (o_ u) (g_ R))]
     .intro z hz
      have:=rr z hz;show z<G.getD y 1
      simp[bx,bw (show y<G.length by exact b_ (o_ I) (g_ R))]at this⊢;exact this
   .have:=V.len;have:=P.len;have:=E.len;simp;exact a_ g4 (a_ (g_ g) (a_ (g_ l) (g_ A)))
   .let(n',q1,q2):=V.has
    exact(n',by rw[j9 Y];exact q1,q2)
   .intro a o N c h
    rw[j9 (lg c)];exact V.keep a o N (P.keep a o N (E.keep a o N (g6 a o N c h))))
 have e':Dr (Src.con ((List.range w).map λ(k:Nat)=>D.int (k:Int))).fin (Src.con ((List.range w).map λ(k:Nat)=>D.int (k:Int))).item (λd C M=>Fy.den (PW m) (C.set 9 (some d)) M) (Src.con ((List.range w).map λ(k:Nat)=>D.int (k:Int))).len 0 [sR t,sI v,none,none,none,none,sI K,some (.vl (G.map nD)),sR p,a9,a10,a11] s=_:=e;apply _k;exact(fs,[sR t,sI v,none,none,none,none,sI K,some (.vl (G.map nD)),sR p,S,J,W],T,e',rfl,h1,by lia,h4,h5,h6,h7)
def aqu(hm:2<=m)(Z:W6 t f M):∃(d:D)(M':fc)(fs:List F)(sz:Nat->Nat),prog.call m 15 [.ref t] M=.ok d M'/\gr M' d\(fs.map F.toD)/\(∀n,d=.ref n->n≠t)/\Sz sz/\Good sz fs/\fs.length<=3/\St t f M M':=by
 have G:1<=m-1:=r_ hm
 let(v,M1,E,l1,L,qv):=Dw G Z (many:=12) ⋯ ⋯;rw[call_of (a_ G C_) rfl]
 by_cases V:v<7
 .have J:(v:Int)<7:=m_ V
  have T:∀(fs:List F)(sz:Nat->Nat),Ew.run (PW (m-1)) [.ref t] M=.ok (.vl (fs.map F.toD)) M1->Sz sz->Good sz fs->fs.length<=3 ->
   ∃(d:D)(M':fc)(fs:List F)(sz:Nat->Nat),Ew.run (PW (m-1)) [.ref t] M=.ok d M'/\gr M' d\(fs.map F.toD)/\(∀n,d=.ref n->n≠t)/\Sz sz/\Good sz fs/\fs.length<=3/\St t f M M':=
   λfs sz a b c d=>(_,M1,fs,sz,a,rfl,λn h=>(by cases h),b,c,d,L)
  have run:∀d,Bx (.vl [.vl [.tup [.int 0,.int 1,.tup [.int 0,.int 1]],.tup [.int 0,.int 1,.tup [.int 1,.int 0]]],.vl [.tup [.int 0,.int 1,.tup [.int 0,.int 0,.int 1,.int 1]],.tup [.int 0,.int 1,.tup [.int 0,.int 1,.int 0,.int 1]],.tup [.int 1,.int 0,.tup [.int 0,.int 3]]],
   .vl [.tup [.int 0,.int 0,.tup [.int 1,.int 0]]],.vl [.tup [.int 0,.int 0,.tup [.int 1,.int 2,.int 0]]],.vl [.tup [.int 0,.int 0,.tup [.int 0,.int 0]]],.vl [],.vl [.tup [.int 0,.int 1,.tup [.int 0,.int 1]],.tup [.int 1,.int 2,.tup [.int 0,.int 0,.int 1]]]]) (.int v) M1\d ->
   Ew.run (PW (m-1)) [.ref t] M=.ok d M1:=λd hd=>by simp[Fn.run,Ew,Nr,E,J,hd]
  have H:v=0\/v=1\/v=2\/v=3\/v=4\/v=5\/v=6:=by lia
  rcases H with rfl|rfl|rfl|rfl|rfl|rfl|rfl
  .refine T [(0,1,[0,1]),(0,1,[1,0])] (λ_=>2) ?_ (λk=>by simp) (λf Y=>?_) ⋯
   .exact run _ rfl
   .simp at Y;rcases Y with rfl|rfl<;>exact(by decide,by decide,by decide,by decide)
  .refine T [(0,1,[0,0,1,1]),(0,1,[0,1,0,1]),(1,0,[0,3])] (λk=>if k=0 then 4 else 2) ?_ (λk=>by dsimp only;split<;>omega) (λf Y=>?_) ⋯
   .exact run _ rfl
   .simp at Y;rcases Y with rfl|rfl|rfl<;>exact(by decide,by decide,by decide,by decide)
  .refine T [(0,0,[1,0])] (λ_=>2) ?_ (λk=>by simp) (λf Y=>?_) ⋯
   .exact run _ rfl
   .simp at Y;subst Y;exact(by decide,by decide,by decide,by decide)
  .refine T [(0,0,[1,2,0])] (λ_=>3) ?_ (λk=>by simp) (λf Y=>?_) ⋯
   .exact run _ rfl
   .simp at Y;subst Y;exact(by decide,by decide,by decide,by decide)
  .refine T [(0,0,[0,0])] (λ_=>2) ?_ (λk=>by simp) (λf Y=>?_) ⋯
   .exact run _ rfl
   .simp at Y;subst Y;exact(by decide,by decide,by decide,by decide)
  .refine T [] (λ_=>1) ?_ (λk=>by simp) (λf Y=>?_) ⋯
   .exact run _ rfl
   .simp at Y
  .refine T [(0,1,[0,1]),(1,2,[0,0,1])] (λk=>if k=1 then 3 else 2) ?_ (λk=>by dsimp only;split<;>exact(by decide,by decide)) (λf Y=>?_) ⋯
   .exact run _ rfl
   .simp at Y;rcases Y with rfl|rfl<;>exact(by decide,by decide,by decide,by decide)
 .symm
  have J:¬(v:Int)<7:=by lia
  let(u,M2,e2,l2,R,S):=Dw G L.has (many:=3) ⋯ ⋯;obtain⟨K,X,qk⟩:∃K:Nat,(1:Int)+(u:Int)=(K:Int)/\K=1+u:=(1+u,by lia,rfl);let(C,O,A,l3,P,N,q0):=aqt (a1:=some (.int v)) (a2:=none) (a3:=none) (a4:=none) (a5:=none) (a7:=none) (a8:=none) (a9:=none) (a10:=none) (a11:=none) (K:=K) G R.has (by lia);apply _k;have B:t<O.length:=by let(n,h,_):=N.has;exact vm h
  have h4:W6 t f (O++[.lst []]):=by let(n,h,o):=N.has;exact(n,yd h,o)
  symm
  let(fs,qq,M5,U,I,Q,q2,W,q4,q5,q6):=adk (v:=v) (K:=K) (p:=O.length) (a9:=none) (a10:=none) (a11:=none) G h4 l3 (by lia) (by lia) P (by simp) (i_ B);apply _k;refine(.ref O.length,M5,fs,λk=>C.getD k 1,?_,ju Q,λn h=>by cases h;exact i_ B,λk=>?_,W,q2,?_)
  .simp[Fn.run,Ew,Nr,E,J,e2,X,A,MW.new,U,I]
  .show 1<=C.getD k 1/\C.getD k 1<=4
   by_cases h:k<C.length
   .have:=P _ (getD_mem h)
    simp[bx,h]at this⊢;exact(this.1,a_ this.2 ⋯)
   .simp[bx,h]
  .refine L.trans (R.trans (N.trans (?_,q5,λa o na h=>q6 a o na ?_ (yd h))))
   .have:=q4;simp at this;lia
   .have:=vm h;exact h_ this
structure Up(p:Nat)(M M':fc):Prop where
 len:M'.length=M.length
 oth:∀a:Nat,a≠p->M'[a]?=M[a]?
def Up.refl(p:Nat)(M:fc):Up p M M:=(rfl,λ_ _=>rfl)
theorem Up.trans(a:Up p M Z)(b:Up p Z M2):Up p M M2:=(b.len.trans a.len,λx h=>(b.oth x h).trans (a.oth x h))
theorem Up.set(p:Nat)(M:fc)(o:MO):Up p M (M.set p o):=(by simp,λa h=>j9 (lg h))
def Ua(h:M[p]?\(.lst ds)):T6 M x (.ref p)=memD M x ds:=by simp[T6,h,Dk,gr]
def W7(f:F)(M:fc):Bx f.toD (.int 0) M\(.int f.a):=rfl
def W8(f:F)(M:fc):Bx f.toD (.int 1) M\(.int f.b):=rfl
def aqv(f:F)(M:fc):Bx f.toD (.int 2) M\(Gp f.r):=rfl
def Qw(M:fc)(r:Y3)(n:Nat):Ah M (Gp r) (.tup ((List.range n).map λ(k:Nat)=>D.int (k:Int)))\(decide (r=List.range n)):=aii M r (List.range n)
def eq_nil(M:fc)(r:Y3):Ah M (Gp r) (.tup [])\(decide (r=[])):=aii M r []
def Dd(M:fc)(a b:Nat):Ah M (.int a) (.int b)\(decide (a=b)):=by rw[eq_int,akf]
def K6(M:fc)(r:Y3):p8 .len [Gp r] M=.ok (.int r.length) M:=by simp[p8,Dk,Gp]
def J9(M:fc)(Y:List D):p8 .tuple [.vl Y] M=.ok (.tup Y) M:=by simp[p8,Dk]
def adl(M:fc)(r:Y3):p8 .tuple [.vl (r.map nD)] M=.ok (Gp r) M:=J9 M _
def ail(Y:Sz sz)(h:Ok1 sz f):1<=f.r.length/\f.r.length<=4:=by rw[h.len];exact Y _
def axi(M:fc)(r:Y3):srcOf M (Gp r)\(.con (r.map nD)):=rfl
def aqw(M:fc)(r:Y3)(h:x<r.length):Bx (Gp r) (.int x) M\(.int (r.getD x 0)):=Jf q_ (by simp[h,nD])
def aqx(J:Sz sz)(G:Ok1 sz f)(N:Ok1 sz g)(h:f.b=g.a) :
 Hm.den W [a0,a1,a2,a3,a4,a5,a6,some f.toD,some g.toD,a9] M=.ok (.vl ((f.comp g).r.map nD)) M:=by
 have Y:(f.r.map nD).length<=100000:=by rw[du,G.len];have:=J f.a;exact a_ this.2 ⋯
 unfold Hm;rw[Pz];simp[aqv,axi];have:=akc (M:=M) (ds:=f.r.map nD) (g:=λd=>match d with|.int i=>nD (g.r.getD i.toNat 0)|_=>.non)
  (body:=λd M=>((Res.wy (Bx (Gp g.r) d M) M).bind λx C=>Res.ok (some x) C)) Y (λd B=>by
   let(x,O,rfl):=bh.mp B;have T:x<g.r.length:=by rw[N.len,<-h];exact G.ran x O
   rw[show nD x=D.int (x:Int)from rfl,aqw M g.r T];simp[nD])
 rw[this];simp[F.comp,nD]
def N6(Y:List F)(f g:F):List F:=if f.b=g.a/\f.comp g∉Y/\¬(f.comp g).R8 then Y++[f.comp g]else Y
def aim(f g:F):D.tup [.int f.a,.int g.b,Gp (f.comp g).r]=(f.comp g).toD:=rfl
def Y0(J:Sz sz)(N:Ok1 sz f)(C:Ok1 sz g)(G:M[p]?\(.lst (Z.map F.toD)))(E:Z.length<100000) :
 ∃(Q R:Option D)(M':fc),Eb.den W [a0,sR p,a2,a3,a4,a5,a6,some f.toD,some g.toD,a9] M=.ok (.next,[a0,sR p,a2,a3,Q,a5,a6,some f.toD,some g.toD,R]) M' /\
  M'[p]?\(.lst ((N6 Z f g).map F.toD))/\Up p M M':=by
 by_cases h:f.b=g.a
 .have V:=aqx (W:=W) (M:=M) (a0:=a0) (a1:=some (.ref p)) (a2:=a2) (a3:=a3) (a4:=some (.tup [])) (a5:=a5) (a6:=a6) (a9:=a9) J N C h
  have H:(f.comp g).r≠[]:=λe=>by have:=(ail J (N.comp C h)).1;rw[e]at this;simp at this
  have Y:(f.comp g).r.length<=100000:=by have:=(ail J (N.comp C h)).2;exact a_ this ⋯
  have P:=aqr M (f.comp g) Z;have A:(f.comp g).a=f.a:=rfl;have K:(f.comp g).b=g.b:=rfl;have ap:=Ej (d:=(f.comp g).toD) G (by rw[du];exact E);have O:∃T:Res (Flow×Env),Eb.den W [a0,sR p,a2,a3,a4,a5,a6,some f.toD,some g.toD,a9] M=T/\(f.comp g∈Z->T=.ok (.next,[a0,sR p,a2,a3,some (Gp (f.comp g).r),a5,a6,some f.toD,some g.toD,some (f.comp g).toD]) M)/\(f.comp g∉Z->(f.comp g).R8->T=.ok (.next,[a0,sR p,a2,a3,some (Gp (f.comp g).r),a5,a6,some f.toD,some g.toD,some (f.comp g).toD]) M) /\
   (f.comp g∉Z->¬(f.comp g).R8->T=.ok (.next,[a0,sR p,a2,a3,some (Gp (f.comp g).r),a5,a6,some f.toD,some g.toD,some (f.comp g).toD]) (M.set p (.lst ((Z++[f.comp g]).map F.toD)))):=by
   refine(_,(by simp[-eq_int,Eb,W7,W8,Dd,h,V,adl,aim,eq_nil,H,Ua G,P];exact rfl),?_,?_,?_)
   .intro m;simp[m]
   .intro m i;simp[-eq_int,m,W7,W8,Dd,i.1,K6,Y,Qw,wu i.2]
   .intro m i
    by_cases B:(f.comp g).a=(f.comp g).b
    .have S:¬(f.comp g).r=List.range (f.comp g).r.length:=λq=>i (B,q)
     simp[-eq_int,W7,W8,Dd,m,B,K6,Y,Qw,S,Ed G,ap]
    .simp[-eq_int,W7,W8,Dd,m,B,K6,Y,Qw,Ed G,ap]
  let(T,e,L,k2,k3):=O
  by_cases m:f.comp g∈Z
  .exact(_,_,M,e.trans (L m),by rw[N6,cz (λq=>q.2.1 m)];exact G,Up.refl p M)
  .by_cases i:(f.comp g).R8
   .exact(_,_,M,e.trans (k2 m i),by rw[N6,cz (λq=>q.2.2 i)];exact G,Up.refl p M)
   .exact(_,_,_,e.trans (k3 m i),by rw[N6,dm (h,m,i),qj G],Up.set _ _ _)
 .refine(some (.tup []),some (.tup [.int f.a,.int g.b,.tup []]),M,?_,by rw[N6,cz (λq=>h q.1)];exact G,Up.refl p M)
  have:=aii M [] [];simp[Gp]at this;simp[-eq_int,Eb,W7,W8,Dd,h,this]
structure Inv(sz:Nat->Nat)(gs:List F):Prop where
 good:Good sz gs
 nd:gs.Nodup
 nid:∀f∈gs,¬f.R8
def Inv.snoc{sz:Nat->Nat}(h:Inv sz Z)(O:Ok1 sz f)(B:f∉Z)(G:¬f.R8):Inv sz (Z++[f]):=by
 refine(λx Y=>?_,?_,λx Y=>?_)
 .rcases dz.mp Y with q|q
  .exact h.good x q
  .have:x=f:=by simpa using q
   exact this▸O
 .rw[Ab]
  refine(h.nd,by simp,λa T b J=>?_);have:b=f:=by simpa using J
  exact λe=>B (by rw[<-this,<-e];exact T)
 .rcases dz.mp Y with q|q
  .exact h.nid x q
  .have:x=f:=by simpa using q
   exact this▸G
def Cl2(Y:List F)(f g:F):Prop:=f.b=g.a->f.comp g∈Y\/(f.comp g).R8
def Cl2.mono(h:Cl2 U f g)(s:U <+: Z):Cl2 Z f g:=λe=>(h e).imp (λm=>s.subset m) id
def Qx(Y:List F)(f g:F):Y <+: N6 Y f g:=by
 unfold N6;split
 .exact List.prefix_append _ _
 .exact List.prefix_rfl
def Y4(Y:List F)(f g:F):(N6 Y f g).length<=Y.length+1:=by unfold N6;split<;>simp
set_option tactic.hygienic true in
def aft(h:Inv sz Z)(T:Ok1 sz f)(B:Ok1 sz g):Inv sz (N6 Z f g):=by
 unfold N6;split
 .rename_i q;exact h.snoc (T.comp B q.1) q.2.1 q.2.2
 .exact h
def akj(Y:List F)(f g:F):Cl2 (N6 Y f g) f g:=by
 intro e;unfold N6
 by_cases m:f.comp g∈Y
 .left;split
  .exact qu _ m
  .exact m
 .by_cases i:(f.comp g).R8
  .exact .inr i
  .left;rw[dm (e,m,i)];simp
def U5{Y:List F}{i:Nat}(s:Y <+: Z)(h:Y[i]?\f):Z[i]?\f:=by let(t,rfl):=s;rw[gq (ao.mp h).1];exact h
def Tt{Y:List F}{i:Nat}(T:M[p]?\(.lst (Y.map F.toD)))(h:Y[i]?\f):Bx (.ref p) (.int i) M\f.toD:=Ei (ju T) q_ (by simp[h])
def N7{Y:List F}(T:M[p]?\(.lst (Y.map F.toD))):p8 .len [.ref p] M=.ok (.int Y.length) M:=by rw[len_list (ju T)];simp
def a4f{k j:Nat}(J:Sz sz)(O:Inv sz Z)(G:M[p]?\(.lst (Z.map F.toD)))(P:Z.length<90000)(L:Z[k]?\f)(B:Z[j]?\g) :
 ∃(Y Q E T:Option D)(M':fc),Hn.den W [a0,sR p,a2,a3,a4,sI k,sI j,a7,a8,a9] M=.ok (.next,[a0,sR p,a2,a3,Y,sI k,sI j,Q,E,T]) M' /\
  M'[p]?\(.lst ((N6 (N6 Z f g) g f).map F.toD))/\Up p M M':=by
 symm
 have C:=O.good f (bf L);have N:=O.good g (bf B);have y:=Y4 Z f g;let(Y,T,R,A,z,S):=Y0 (W:=W) (M:=M) (a0:=a0) (a2:=a2) (a3:=a3) (a4:=a4) (a5:=some (.int k)) (a6:=some (.int j)) (a9:=a9) J C N G (b_ P ⋯);let(H,I,X,q,V,K):=Y0 (W:=W) (M:=R) (a0:=a0) (a2:=a2) (a3:=a3) (a4:=Y) (a5:=some (.int k)) (a6:=some (.int j)) (a9:=T) J N C z (by lia);apply _k;refine(H,some g.toD,some f.toD,I,X,?_,V,S.trans K);unfold Hn;rw[Vx];simp[Tt G L,Tt G B,srcOf,Src.len,Src.fin,Dr,Src.item,A,q]
def axk{k:Nat}(X:Sz sz)(c:Inv sz Z)(K:M[p]?\(.lst (Z.map F.toD)))(y:Z.length<10000)(A:Z[k]?\f) :
 ∃(Y:List F)(B N O J C:Option D)(G:fc),Hq.den W [a0,sR p,a2,a3,a4,sI k,a6,a7,a8,a9] M=.ok (.next,[a0,sR p,a2,a3,B,sI k,N,O,J,C]) G /\
  G[p]?\(.lst (Y.map F.toD))/\Up p M G/\Z <+: Y/\Inv sz Y/\Y.length<=3*Z.length/\∀(j:Nat)(g:F),Z[j]?\g->Cl2 Y f g/\Cl2 Y g f:=by
 unfold Hq;rw[Vx];have Q:Z.length<=100000:=e_ (b_ y ⋯)
 simp[N7 K,Q];symm
 let(qq,G,e,Y,B,N,O,J,C,rfl,v,r,b,h4,h5,l):=ade (n:=Z.length) (body:=λd E M=>Ho.den W (E.set 6 (some d)) M)
  (λi E G=>∃(Y:List F)(B N O J C:Option D),E=[a0,sR p,a2,a3,B,sI k,N,O,J,C]/\G[p]?\(.lst (Y.map F.toD))/\Up p M G/\Z <+: Y/\Inv sz Y/\Y.length<=Z.length+2*i /\
   ∀(j:Nat)(g:F),j<i->Z[j]?\g->Cl2 Y f g/\Cl2 Y g f) (ρ:=[a0,sR p,a2,a3,a4,sI k,a6,a7,a8,a9]) (M:=M)
  (Z,a4,a6,a7,a8,a9,rfl,K,Up.refl p M,List.prefix_rfl,c,x_,λj g h=>absurd h (su _))
  (λi E M2 t x=>by
   symm
   let(Y,B,N,O,J,C,rfl,U,m,L,R,g5,H):=x;have S:Z[i]?=some Z[i]:=by simp[t]
   let(s,c7,c8,c9,I,a,z,o):=a4f (W:=W) (M:=M2) (a0:=a0) (a2:=a2) (a3:=a3) (a4:=B) (a7:=O) (a8:=J) (a9:=C) X R U (by lia) (U5 L A) (U5 L S);have V:=R.good f (bf (U5 L A));have P:=R.good Z[i] (bf (U5 L S));apply _k;refine(.next,_,I,?_,.inl rfl,N6 (N6 Y f Z[i]) Z[i] f,s,sI i,c7,c8,c9,rfl,z,m.trans o,(L.trans (Qx _ _ _)).trans (Qx _ _ _),aft (aft R V P) P V,?_,?_)
   .simp[Ho,a]
   .have:=Y4 Y f Z[i]
    have:=Y4 (N6 Y f Z[i]) Z[i] f
    lia
   .intro j g u T
    have pr:=(Qx Y f Z[i]).trans (Qx (N6 Y f Z[i]) Z[i] f);rcases Nat.lt_succ_iff_lt_or_eq.mp u with q|q
    .exact((H j g q T).1.mono pr,(H j g q T).2.mono pr)
    .subst q
     have:g=Z[j]:=by rw[S]at T;exact(mj T).symm
     subst this;exact((akj _ _ _).mono (Qx _ _ _),akj _ _ _))
 apply _k;refine(Y,B,N,O,J,C,G,e,v,r,b,h4,by lia,λj g P=>l j g (ao.mp P).1 P)
def aqy(f:F)(i j k:Nat)(Y:Env):(Tg.names [i,j,k]).put f.toD Y\(((Y.set i (sI f.a)).set j (sI f.b)).set k (some (Gp f.r))):=rfl
noncomputable def adm(Y:List F)(f:F):List F:=if ¬f.R8/\f∉Y then Y++[f]else Y
def ClK(Y:List F)(k:Nat):Prop:=∀(i j:Nat)(f g:F),i<k->j<k->Y[i]?\f->Y[j]?\g->Cl2 Y f g
def ams(C:Sz sz)(L:Ok1 sz f)(T:M[p]?\(.lst (Z.map F.toD)))(N:Z.length<100000) :
 ∃M',Ay.den W [a0,sR p,sI f.a,sI f.b,Gp f.r,a5,a6,a7,a8,a9] M=.ok (.next,[a0,sR p,sI f.a,sI f.b,some (Gp f.r),a5,a6,a7,a8,a9]) M' /\
  M'[p]?\(.lst ((adm Z f).map F.toD))/\Up p M M':=by
 have Y:f.r.length<=100000:=by have:=(ail C L).2;exact a_ this ⋯
 have B:=aqr M f Z;have J:D.tup [.int f.a,.int f.b,Gp f.r]=f.toD:=rfl;have ap:=Ej (d:=f.toD) T (by rw[du];exact N)
 by_cases i:f.R8
 .refine(M,?_,by rw[adm,cz (λq=>q.1 i)];exact T,Up.refl p M)
  simp[-eq_int,Ay,Dd,i.1,K6,Y,Qw,wu i.2]
 .by_cases m:f∈Z
  .refine(M,?_,by rw[adm,cz (λq=>q.2 m)];exact T,Up.refl p M)
   by_cases G:f.a=f.b
   .have O:¬f.r=List.range f.r.length:=λq=>i (G,q)
    simp[G]at J;simp[-eq_int,Ay,Dd,G,O,K6,Y,Qw,J,Ua T,B,m]
   .simp[-eq_int,Ay,Dd,G,K6,Y,Qw,J,Ua T,B,m]
  .refine(M.set p (.lst ((Z++[f]).map F.toD)),?_,by rw[adm,dm (i,m),qj T],Up.set _ _ _)
   by_cases G:f.a=f.b
   .have O:¬f.r=List.range f.r.length:=λq=>i (G,q)
    simp[G]at J;simp[-eq_int,Ay,Dd,G,O,K6,Y,Qw,J,Ua T,B,m,Ed T,ap]
   .simp[-eq_int,Ay,Dd,G,K6,Y,Qw,J,Ua T,B,m,Ed T,ap]
set_option tactic.hygienic true in
def aqz(h:Inv sz Z)(T:Ok1 sz f):Inv sz (adm Z f):=by
 unfold adm;split
 .rename_i q;exact h.snoc T q.2 q.1
 .exact h
def aq0(Y:List F)(f:F):(adm Y f).length<=Y.length+1:=by unfold adm;split<;>simp
def amt(b:Sz sz)(K:Inv sz U)(hp:M[p]?\(.lst (U.map F.toD)))(a:U.length<=3) :
 ∃(G:Env)(Y:fc),Hr.den W [a0,sR p,a2,a3,a4,sI 0,a6,a7,a8,a9] M=.ok (.next,G) Y/\G[1]?\(sR p)/\∃Z:List F,Y[p]?\(.lst (Z.map F.toD))/\Up p M Y/\Inv sz Z/\Z.length<=15 /\
  (Z.length<6->Qv Z)/\(U=[]->Z=[]):=by
 unfold Hr;rw[acy];refine Rm (λm n Y=>∃(Z:List F)(k:Nat)(A d z V y:Option D),n=[a0,sR p,a2,a3,A,sI k,d,z,V,y]/\Y[p]?\(.lst (Z.map F.toD))/\Up p M Y/\Inv sz Z/\Z.length<=15/\ClK Z k/\k<=5/\m=10-k/\(U=[]->Z=[]))
  (λG Y=>G[1]?\(sR p)/\∃Z:List F,Y[p]?\(.lst (Z.map F.toD))/\Up p M Y/\Inv sz Z/\Z.length<=15/\(Z.length<6->Qv Z)/\(U=[]->Z=[])) ?_ aie 10 _ M ⋯
  (U,0,a4,a6,a7,a8,a9,rfl,hp,Up.refl p M,K,a_ a ⋯,λi j f g h=>absurd h (su _),jd _,rfl,id)
 intro m n H hI;symm
 let(Z,k,A,d,z,V,y,rfl,E,I,u,c,s,g6,g7,X):=hI;apply _k
 by_cases O:k<Z.length
 .have T:(k:Int)<(Z.length:Int):=m_ O
  by_cases o:Z.length<6
  .have L:(Z.length:Int)<6:=m_ o
   right
   symm
   let(is,d4,d6,d7,d8,d9,M2,e,p2,u2,pr,R,l2,P):=axk (W:=W) (M:=H) (a0:=a0) (a2:=a2) (a3:=a3) (a4:=A) (a6:=d) (a7:=z) (a8:=V) (a9:=y) (k:=k) b u E (c_ c ⋯) (show Z[k]?=some Z[k]by simp[O]);apply _k;refine(H,.next,_,M2,10-(k+1),?_,?_,.inl rfl,by lia,is,k+1,d4,d6,d7,d8,d9,rfl,p2,I.trans u2,R,by lia,?_,by lia,rfl,?_)
   .simp[N7 E,T,L]
   .simp[Oz,e]
   .intro i j f g Q J S r
    have B:∀(i:Nat)(f:F),i<k+1->is[i]?\f->Z[i]?\f:=λi f K S=>by
     have t:i<Z.length:=b_ K O
     have:=U5 pr (show Z[i]?=some Z[i]by simp[t]);rw[S]at this;rw[this];simp[t]
    have C:=B i f Q S;have N:=B j g J r
    by_cases l:i=k
    .subst l
     have:f=Z[i]:=by have:=C;simp[O]at this;exact this.symm
     subst this;exact(P j g N).1
    .by_cases v:j=k
     .subst v
      have:g=Z[j]:=by have:=N;simp[O]at this;exact this.symm
      subst this;exact(P i f C).2
     .exact(s i j f g (by lia) (by lia) C N).mono pr
   .intro x
    have:=X x;subst this;simp at O
  .left
   have L:¬(Z.length:Int)<6:=by lia
   exact(H,by simp[N7 E,T,L],rfl,Z,E,I,u,c,λq=>absurd q o,X)
 .left
  have T:¬(k:Int)<(Z.length:Int):=by lia
  refine(H,by simp[N7 E,T],rfl,Z,E,I,u,c,λ_=>?_,X);intro f S g r;symm
  let(i,Q,l):=qg S;let(j,J,v):=qg r;apply _k;exact s i j f g (b_ Q (s_ O)) (b_ J (s_ O)) (by simp[Q,l]) (by simp[J,v])
def abj(hm:1<=m)(hz:Sz sz)(hg:Good sz fs)(hl:fs.length<=3)(L:gr M d\(fs.map F.toD)) :
 ∃(G:List F)(Y:fc),prog.call m 16 [d] M=.ok (.ref M.length) Y/\Y[M.length]?\(.lst (G.map F.toD))/\vf M Y/\Y.length=M.length+1/\Inv sz G/\G.length<=15/\(G.length<6->Qv G)/\(fs=[]->G=[]):=by
 rw[call_of hm rfl];symm
 have J:gr (M++[.lst []]) d\(fs.map F.toD):=(vf.app M _).gr L;let(s,K,qk,M1,e1,T,O,E,C,rfl,h1,h2,h3,h4,h5):=Yx (body:=λd N M=>match(Tg.names [2,3,4]).put d N with
  | some X=>Ay.den (PW (m-1)) X M|none=>.bad)
  (λi N Y=>∃(T:List F)(O E C:Option D),N=[some d,sR M.length,O,E,C,none,none,none,none,none]/\Y[M.length]?\(.lst (T.map F.toD))/\Up M.length (M++[.lst []]) Y/\Inv sz T/\T.length<=i/\(fs=[]->T=[]))
  (ρ:=[some d,sR M.length,none,none,none,none,none,none,none,none]) (M:=M++[.lst []]) J
  ([],none,none,none,rfl,by simp,Up.refl _ _,(λf B=>by simp at B,by simp,λf B=>by simp at B),by simp,λ_=>rfl)
  (λi N Y V=>by
   symm
   let(T,O,E,C,rfl,g1,S,g3,Z,g5):=V;apply _k;cases d with
   |vl xs=>exact L
   |ref n =>
    have hn:n≠M.length:=by
     simp only[gr]at L;cases e:M[n]? with
     |none=>rw[e]at L;simp at L|some o=>have:=vm e;exact h_ this
    simp only[gr]at J⊢;rw[S.oth n hn];exact J
   | _=>simp[gr]at L)
  (λi x N Y hx V=>by
   symm
   let(T,O,E,C,rfl,g1,S,g3,Z,g5):=V;obtain⟨f,B,rfl⟩:∃f,fs[i]?\f/\f.toD=x:=by simpa using hx
   have R:=bf B;have qq:=(ao.mp B).1;let(U,e2,H,I):=ams (W:=PW (m-1)) (M:=Y) (a0:=some d) (a5:=none) (a6:=none) (a7:=none) (a8:=none) (a9:=none) hz (hg f R) g1 (c_ Z (b_ qq (a_ hl ⋯)));apply _k;refine(.next,_,U,?_,.inl rfl,adm T f,sI f.a,sI f.b,some (Gp f.r),rfl,H,S.trans I,aqz g3 (hg f R),?_,λe=>?_)
   .rw[aqy];exact e2
   .have:=aq0 T f;exact a_ this (v_ Z)
   .subst e;simp at B)
 apply _k;have A:T.length<=3:=by simp at h4;exact a_ h4 hl
 symm
 let(qv,U,e2,q1,G,H,I,P,l2,c2,z2):=amt (W:=PW (m-1)) (M:=M1) (a0:=some d) (a2:=O) (a3:=E) (a4:=C) (a6:=none) (a7:=none) (a8:=none) (a9:=none) hz h3 h1 A;have up:=h2.trans I;apply _k;refine(G,U,?_,H,λa o h=>?_,?_,P,l2,c2,λe=>z2 (h5 e))
 .have Q:Hs.den (PW (m-1)) [some d,sR M.length,none,none,none,none,none,none,none,none] (M++[.lst []])=.ok (.next,[some d,sR M.length,O,E,C,none,none,none,none,none]) M1:=by
   unfold Hs;rw[Vx];simp[K];exact e1
  simp[Fn.run,Sw,Sv,MW.new,Q,e2,q1]
 .have:=vm h
  rw[up.oth a (h_ this)];exact yd h
 .rw[up.len];simp
noncomputable def eD(f:F):D:=.tup [.int f.a,.int f.b]
def Ka(Y:List F):D:=.tup (Y.map eD)
def ent(Y:List F)(f g:F):Int:=if f.comp g∈Y then(pos (f.comp g) Y:Int)else -1
noncomputable def ky(j k:Nat):List Kx:=[.inl (j:Int),.inl (k:Int)]
def adn(h:ky j k=ky Z k'):j=Z/\k=k':=by simp[ky]at h;exact(D_ h.1,D_ h.2)
def Bef(j k Y T:Nat):Prop:=Y<j\/(Y=j/\T<k)
structure Tb(hs:List F)(j k:Nat)(jf:List (List Kx×D)):Prop where
 keys:∀p∈jf,∃(j' k':Nat)(f g:F),p=(ky j' k',.int (ent hs f g))/\hs[j']?\f/\hs[k']?\g/\f.b=g.a/\Bef j k j' k'
 look:∀(j' k':Nat)(f g:F),hs[j']?\f->hs[k']?\g->f.b=g.a->Bef j k j' k'->Ag jf (ky j' k')\(.int (ent hs f g))
 len:jf.length<=j*hs.length+k
def amu{Y:List (List Kx×D)}(h:∀p∈Y,p.1≠q):Ag Y q=none:=by unfold Ag;rw[List.find?_eq_none.mpr (λp T=>by simpa using h p T)];rfl
def amv{Y:List (List Kx×D)}(h:∀p∈Y,p.1≠q):Eh Y q v=Y++[(q,v)]:=by unfold Eh;rw[cz];simp only[Ao,gf,not_exists,not_and];exact h
def ado{Y:List (List Kx×D)}(h:q≠q'):Ag (Y++[(q,v)]) q'=Ag Y q':=by
 unfold Ag;rw[List.find?_append];cases e:Y.find? (λp=>decide (p.1=q'))with
 |some p=>rfl|none=>simp[h]
def adp{Y:List (List Kx×D)}(h:∀p∈Y,p.1≠q):Ag (Y++[(q,v)]) q\v:=by unfold Ag;rw[List.find?_append,List.find?_eq_none.mpr (λp T=>by simpa using h p T)];simp
def Tb.skip(h:Tb Z j k jf)(O:Z[j]?\f)(B:Z[k]?\g)(n:f.b≠g.a):Tb Z j (k+1) jf:=by
 refine(λp C=>?_,λT Y J G a b c d=>?_,by have:=h.len;exact a_ this (w_ x_))
 .symm
  let(T,Y,J,G,e,a,b,c,d):=h.keys p C;apply _k;exact(T,Y,J,G,e,a,b,c,by unfold Bef at *;lia)
 .by_cases q:T=j/\Y=k
  .symm
   let(rfl,rfl):=q;rw[O]at a;rw[B]at b;cases a;cases b;apply _k;exact absurd c n
  .exact h.look T Y J G a b c (by unfold Bef at *;lia)
def Tb.fresh(h:Tb U j k Z):∀p∈Z,p.1≠ky j k:=by
 intro p Y e;symm
 let(J,G,B,T,rfl,a,b,c,d):=h.keys p Y;have:=adn e;unfold Bef at d;apply _k
 lia
def Tb.put(h:Tb Z j k U)(O:Z[j]?\f)(B:Z[k]?\g)(n:f.b=g.a):Tb Z j (k+1) (Eh U (ky j k) (.int (ent Z f g))):=by
 rw[amv h.fresh];refine(λp C=>?_,λT Y J G a b c d=>?_,by have:=h.len;simp;lia)
 .rcases dz.mp C with q|q
  .symm
   let(T,Y,J,G,e,a,b,c,d):=h.keys p q;apply _k;exact(T,Y,J,G,e,a,b,c,by unfold Bef at *;lia)
  .have:p=(ky j k,.int (ent Z f g)):=by simpa using q
   exact(j,k,f,g,this,O,B,n,by unfold Bef;lia)
 .by_cases q:T=j/\Y=k
  .symm
   let(rfl,rfl):=q;rw[O]at a;rw[B]at b;cases a;cases b;apply _k;exact adp h.fresh
  .rw[ado (λe=>q (by have:=adn e;exact(this.1.symm,this.2.symm)))]
   exact h.look T Y J G a b c (by unfold Bef at *;lia)
def Tb.next(h:Tb Z j Z.length jf):Tb Z (j+1) 0 jf:=by
 refine(λp B=>?_,λG T J Y a b c d=>?_,by have:=h.len;have e:(j+1)*Z.length=j*Z.length+Z.length:=Nat.succ_mul _ _;exact a_ this (a_ (g_ e) x_))
 .symm
  let(G,T,J,Y,e,a,b,c,d):=h.keys p B;apply _k;exact(G,T,J,Y,e,a,b,c,by unfold Bef at *;lia)
 .have:=(ao.mp b).1
  exact h.look G T J Y a b c (by unfold Bef at *;lia)
def aq1{T:List F}{j k:Nat}(O:Sz sz)(B:Ok1 sz f)(P:Ok1 sz g)(h:f.b=g.a)(J:M[q]?\(.lst (T.map F.toD)))(N:T[j]?\f)(L:T[k]?\g) :
 G6.den W [a0,a1,sR q,a3,a4,sI j,sI k,a7] M=.ok (.vl ((f.comp g).r.map nD)) M:=by
 have Y:(f.r.map nD).length<=100000:=by rw[du,B.len];have:=O f.a;exact a_ this.2 ⋯
 unfold G6;rw[Nz (ds:=f.r.map nD) (M1:=M) (g:=λd=>match d with|.int i=>nD (g.r.getD i.toNat 0)|_=>.non) (by simp[Tt J N,aqv,Gp]) Y (λx E=>by
  let(y,C,rfl):=bh.mp E;have G:y<g.r.length:=by rw[P.len,<-h];exact B.ran y C
  exact(_,rfl,by simp[Tt J L,aqv,nD,aqw M g.r G]))]
 simp[F.comp,nD]
def ain(V:Sz sz)(Q:Inv sz Z)(R:Z.length<=5)(Y:M[q]?\(.lst (Z.map F.toD)))(N:M[r]?\(.dT U))(T:Z[j]?\f)(J:Z[k]?\g)(L:Tb Z j k U) :
 ∃(K:Option D)(M':fc)(G:List (List Kx×D)),Dn.den W [a0,a1,sR q,a3,sR r,sI j,sI k,a7] M=.ok (.next,[a0,a1,sR q,a3,sR r,sI j,sI k,K]) M' /\
  M'[r]?\(.dT G)/\Tb Z j (k+1) G/\Up r M M':=by
 have E:=(ao.mp T).1;have A:=(ao.mp J).1;have I:=Q.good f (bf T);have X:=Q.good g (bf J)
 by_cases h:f.b=g.a
 .have H:=aq1 (W:=W) (M:=M) (a0:=a0) (a1:=a1) (a3:=a3) (a4:=some (.ref r)) (a7:=a7) V I X h Y T J
  have S:=aqr M (f.comp g) Z;have C:U.length<100000:=by
   have:=L.len;have:j*Z.length<=5*5:=wj (e_ (b_ E R)) R
   lia
  have st:=aqj (d:=.int (ent Z f g)) (b:=.tup [.int j,.int k]) N rfl C;refine(some (f.comp g).toD,_,Eh U (ky j k) (.int (ent Z f g)),?_,qj (o:=.dT (Eh U (ky j k) (.int (ent Z f g)))) N,L.put T J h,Up.set _ _ _)
  by_cases m:f.comp g∈Z
  .have O:Lb .index (.ref q) [(f.comp g).toD] M=.ok (.int (pos (f.comp g) Z)) M:=by simp[Lb,onL,ju Y,bay,m]
   have P:Pq .index (.ref q) M=true:=by simp[Pq,ju Y]
   have B:ent Z f g=(pos (f.comp g) Z:Int):=dm m;rw[B]at st;simp[-eq_int,Dn,Tt Y T,Tt Y J,W7,W8,Dd,h,H,adl,aim,Ua Y,S,m,P,O,st,B,ky]
  .have B:ent Z f g=-1:=cz m
   rw[B]at st;simp[-eq_int,Dn,Tt Y T,Tt Y J,W7,W8,Dd,h,H,adl,aim,Ua Y,S,m,st,B,ky]
 .refine(a7,M,U,?_,N,L.skip T J h,Up.refl r M)
  simp[-eq_int,Dn,Tt Y T,Tt Y J,W7,W8,Dd,h]
def a4h(l:Sz sz)(m:Inv sz Z)(E:Z.length<=5)(A:M[q]?\(.lst (Z.map F.toD)))(hr:M[r]?\(.dT []))(C:q≠r) :
 ∃(T:Env)(M':fc)(Y:List (List Kx×D)),Ey.den W [a0,a1,sR q,a3,sR r,a5,a6,a7] M=.ok (.next,T) M'/\T[2]?\(sR q)/\T[3]?\a3/\T[4]?\(sR r)/\T.length=8 /\
  M'[r]?\(.dT Y)/\Tb Z Z.length 0 Y/\Up r M M':=by
 unfold Ey;symm
 have X:∀(M':fc),Up r M M'->p8 .len [.ref q] M'=.ok (.int Z.length) M':=λM' u=>N7 (by rw[u.oth q C];exact A)
 let(T,M',e,V,J,G,Y,rfl,s,o,U):=vz (S:=Ey) (W:=W) (n:=Z.length) (ρ:=[a0,a1,sR q,a3,sR r,a5,a6,a7]) (M:=M) (M1:=M) rfl (by simp[N7 A]) (a_ E ⋯)
  (λj O M'=>∃(V J G:Option D)(Y:List (List Kx×D)),O=[a0,a1,sR q,a3,sR r,V,J,G]/\M'[r]?\(.dT Y)/\Tb Z j 0 Y/\Up r M M')
  (a5,a6,a7,[],rfl,hr,(λp hp=>by simp at hp,λj' k' f g a b c d=>by unfold Bef at d;lia,by simp),Up.refl r M)
  (λj O B t Q=>by
   symm
   let(V,J,G,Y,rfl,g1,i,z):=Q;apply _k;have N:B[q]?\(.lst (Z.map F.toD)):=by rw[z.oth q C];exact A
   symm
   let(qq,L,e2,c6,I,H,rfl,K,k2,k3):=vz (S:=Mv) (W:=W) (n:=Z.length) (ρ:=[a0,a1,sR q,a3,sR r,sI j,J,G]) (M:=B) (M1:=B) rfl (by simp[N7 N]) (a_ E ⋯)
    (λk O M'=>∃(J G:Option D)(Y:List (List Kx×D)),O=[a0,a1,sR q,a3,sR r,sI j,J,G]/\M'[r]?\(.dT Y)/\Tb Z j k Y/\Up r B M')
    (J,G,Y,rfl,g1,i,Up.refl r B)
    (λk O L hk Q=>by
     symm
     let(J,G,Y,rfl,K,k2,k3):=Q;apply _k;have R:L[q]?\(.lst (Z.map F.toD)):=by rw[k3.oth q C];exact N
     symm
     let(I,y,P,e3,v,t3,x):=ain (W:=W) (M:=L) (a0:=a0) (a1:=a1) (a3:=a3) (a7:=G) l m E R K (show Z[j]?=some Z[j]by simp[t]) (show Z[k]?=some Z[k]by simp[hk]) k2;apply _k;exact(_,.next,_,y,rfl,e3,.inl rfl,_,I,P,rfl,v,t3,k3.trans x))
   apply _k;exact(_,.next,_,L,rfl,by simp[Mw,e2],  .inl rfl,sI j,c6,I,H,rfl,K,k2.next,z.trans k3))
 apply _k;exact(_,M',Y,e,rfl,rfl,rfl,rfl,s,o,U)
structure Gq(sz:Nat->Nat)(K:Nat)(hs:List F)(jf:List (List Kx×D)):Prop where
 hz:Sz sz
 inv:Inv sz hs
 cl:Qv hs
 len:hs.length<=5
 k1:1<=K
 k3:K<=3
 Y5:∀f∈hs,f.a<K
 aav:∀f∈hs,f.b<K
 tb:Tb hs hs.length 0 jf
theorem afu:∀(Y:Y3)(a:Nat),∃v:Nat,(Y.map λ(x:Nat)=>(x:Int)).foldl (λm x=>if m<x then x else m) (a:Int)=(v:Int)/\a<=v/\(∀x∈Y,x<=v)/\(v=a\/v∈Y)
 |[],a=>(a,rfl,bz _,by simp,.inl rfl)
 |x::Y,a=>by
  symm
  let(v,e,T,B,J):=afu Y (if a<x then x else a);apply _k;refine(v,?_,?_,λy G=>?_,?_)
  .rw[f9,List.foldl_cons,<-e]
   congr 1
   by_cases q:a<x
   .have:(a:Int)<(x:Int):=m_ q
    simp[q]
   .have:¬(a:Int)<(x:Int):=by lia
    simp[q]
  .split at T<;>omega
  .rcases dh.mp G with q|q
   .subst q;split at T<;>omega
   .exact B y q
  .rcases J with q|q
   .by_cases w:a<x
    .right;rw[dm w]at q;subst q;simp
    .left;rw[cz w]at q;exact q
   .right;exact bu _ q
theorem Y6:∀Z:List Nat,Xx (Z.map nD)\(Z.map λ(x:Nat)=>(x:Int))
 |[]=>rfl|x::Z=>by simp[nD,Xx,show Xx (Z.map nD)=_ from Y6 Z]
def aq2(h:xs≠[]):∃v:Nat,p8 .max [.vl (xs.map nD)] M=.ok (.int v) M/\(∀x∈xs,x<=v)/\v∈xs:=by
 symm
 obtain⟨a,r,rfl⟩:∃a r,xs=a::r:=List.exists_cons_of_ne_nil h;let(v,e,Y,G,J):=afu r a;apply _k;refine(v,?_,λx T=>?_,?_)
 .have:=Y6 (a::r)
  simp only[p8,axb,amr,uw,this];simp only[f9,a3r,uw,xd,Res.Di,e]
 .rcases dh.mp T with q|q
  .subst q;exact Y
  .exact G x q
 .rcases J with q|q
  .rw[q];simp
  .exact bu _ q
def max2(a b:Nat):p8 .max [.int a,.int b] M=.ok (nD (max a b)) M:=by
 by_cases h:a<b
 .have Y:(a:Int)<b:=m_ h
  have e:max a b=b:=by lia
  simp[p8,h,nD,e]
 .have Y:¬(a:Int)<b:=by lia
  have e:max a b=a:=by lia
  simp[p8,h,nD,e]
noncomputable def toF:D->F
 |.tup [.int a,.int b,.tup r]=>⟨a.toNat,b.toNat,r.map λd=>match d with|.int i=>i.toNat|_=>0⟩
 |_=>(0,0,[])
def X4(f:F):toF f.toD=f:=by
 let(a,b,r):=f;show F.mk a b ((r.map nD).map λd=>match d with|.int i=>i.toNat|_=>0)=F.mk a b r;rw[Aw]
 conv=>rhs;rw[<-List.map_id r]
 exact t7 _ (yz λx _=>rfl)
def aq3{Y:List F}(T:Y.length<=100000)(G:M[q]?\(.lst (Y.map F.toD))) :
 G7.den W [a0,a1,sR q,a3,a4,a5,a6,a7] M=.ok (.vl ((Y.map λf=>max f.a f.b).map nD)) M:=by
 unfold G7;rw[Bj (d:=.ref q) (ds:=Y.map F.toD) (M1:=M) (g:=λd=>nD (max (toF d).a (toF d).b)) (by simp) (ju G) (by simpa using T) (λx J=>by
  symm
  let(f,B,rfl):=bh.mp J;apply _k;exact(_,aqy _ _ _ _ _,by simp[max2,X4]))]
 simp[X4]
def amw{T:List F}(G:Z[2]?\(sR q))(Y:Z.length=8)(J:T.length<=100000)(O:M[q]?\(.lst (T.map F.toD))) :
 G5.den W Z M=.ok (.vl (T.map eD)) M:=by
 unfold G5;rw[Bj (d:=.ref q) (ds:=T.map F.toD) (M1:=M) (g:=λd=>eD (toF d)) (by simp[G]) (ju O) (by simpa using J) (λx B=>by
  symm
  let(f,C,rfl):=bh.mp B;apply _k;refine(_,aqy _ _ _ _ _,?_);rw[X4];simp[eD,List.getElem?_set,Y])]
 simp[X4]
def amx(hm:1<=m)(A:Sz sz)(E:W6 t f M)(hg:Good sz fs)(V:fs.length<=3)(hd:gr M d\(fs.map F.toD))(hq:M[q]?\(.lst (hs.map F.toD)))(N:q≠t)(X:Inv sz hs)(L:hs.length<=15)(hc:hs.length<6->Qv hs)(h0:fs=[]->hs=[]) :
 ∃(T:Env)(M':fc),G8.den (PW m) [sR t,some d,sR q,a3,a4,a5,a6,a7] M=.ok (.next,T) M'/\∃(H:D)(G:Nat)(Y:List F),T=[sR t,some H,sR G,a3,a4,a5,a6,a7] /\
  M'[G]?\(.lst (Y.map F.toD))/\G≠t/\Inv sz Y/\Y.length<=5/\Qv Y/\vf M M':=by
 unfold G8;rw[acy];refine Rm (λn K M'=>∃(d:D)(fs hs:List F)(q:Nat),K=[sR t,some d,sR q,a3,a4,a5,a6,a7]/\fs.length=n/\Good sz fs/\fs.length<=3/\gr M' d\(fs.map F.toD)/\M'[q]?\(.lst (hs.map F.toD))/\q≠t /\
  Inv sz hs/\hs.length<=15/\(hs.length<6->Qv hs)/\(fs=[]->hs=[])/\vf M M')
  (λT M'=>∃(H:D)(G:Nat)(Y:List F),T=[sR t,some H,sR G,a3,a4,a5,a6,a7]/\M'[G]?\(.lst (Y.map F.toD))/\G≠t/\Inv sz Y/\Y.length<=5/\Qv Y/\vf M M') ?_ aie fs.length _ M (by unfold aie;exact c_ V ⋯)
  (d,fs,hs,q,rfl,rfl,hg,V,hd,hq,N,X,L,hc,h0,vf.refl M)
 intro n K B hI;symm
 let(d,fs,hs,q,rfl,rfl,g1,W,C,P,g5,U,g7,g8,g9,J):=hI;apply _k
 by_cases c:5<hs.length
 .right
  symm
  have S:(5:Int)<(hs.length:Int):=m_ c
  have Z:fs≠[]:=λe=>by rw[g9 e]at c;simp at c
  have qq:1<=fs.length:=List.length_pos_iff.mpr Z
  have R:afh d none (some (-1)) B\(.vl (fs.dropLast.map F.toD)):=by
   have O:aic (fs.map F.toD) none (some (-1))=fs.dropLast.map F.toD:=by
    have e2:((-1:Int)+(fs.length:Int)).toNat=fs.length-1:=by lia
    simp[aic,clip,e2,List.map_dropLast,List.dropLast_eq_take]
   cases d with
   |tup ds=>simp[gr]at C|vl ds=>simp only[afh,C,xd,O]|ref n=>simp only[afh,C,xd,O]|_=>simp[gr]at C
  have gd:Good sz fs.dropLast:=λf hf=>g1 f (List.dropLast_subset fs hf)
  let(Y,M2,e,p2,k2,l2,i2,I,c2,z2):=abj (M:=B) (m:=m) (d:=.vl (fs.dropLast.map F.toD)) hm A gd (by simp;exact a_ W ⋯) rfl;have Q:t<B.length:=by let(n,h,_):=E;exact vm (J t _ h)
  apply _k;refine(B,.next,_,M2,fs.length-1,?_,?_,.inl rfl,by lia,.vl (fs.dropLast.map F.toD),fs.dropLast,Y,B.length,rfl,by simp,gd,by simp;exact a_ W ⋯,rfl,p2,i_ Q,i2,I,c2,z2,J.trans k2)
  .simp[N7 P,S]
  .simp[-List.map_dropLast,Mx,R,e]
 .left
  have S:¬(5:Int)<(hs.length:Int):=by lia
  exact(B,by simp[N7 P,S],d,q,hs,rfl,P,g5,U,s_ c,g8 (c_ (s_ c) ⋯),J)
def aio(E:3<=m)(L:W6 t f M):∃(K r:Nat)(sz:Nat->Nat)(N:List F)(Z:List (List Kx×D))(M':fc),prog.call m 17 [.ref t] M=.ok (.tup [.int K,Ka N,.ref r]) M'/\M'[r]?\(.dT Z)/\M.length<=r/\Gq sz K N Z/\St t f M M':=by
 rw[call_of (a_ ⋯ E) rfl];have q6:t<M.length:=by let(n,h,_):=L;exact vm h
 symm
 let(d,I,fs,sz,e1,d1,n1,V,g1,l1,s1):=aqu (m:=m-1) (r_ E) L;let(N,M2,e2,p2,k2,q5,i2,b2,c2,z2):=abj (M:=I) (m:=m-1) (d:=d) (r_ (a_ ⋯ E)) V g1 l1 d1;apply _k;have q4:t<I.length:=by let(n,h,_):=s1.has;exact vm h
 symm
 have s2:St t f I M2:=St.of s1.has k2;let(q8,M3,e3,d',q,T,rfl,O,q3,A,P,c3,k3):=amx (M:=M2) (m:=m-1) (t:=t) (f:=f) (d:=d) (fs:=fs) (hs:=N) (q:=I.length) (a3:=none) (a4:=none) (a5:=none) (a6:=none) (a7:=none) (r_ (a_ ⋯ E)) V s2.has g1 l1 (k2.gr d1) p2 (i_ q4) i2 b2 c2 z2;have s3:St t f M2 M3:=St.of s2.has k3;have q1:=s1.trans (s2.trans s3);apply _k;symm
 have H:=aq3 (W:=PW (m-1)) (M:=M3) (a0:=some (.ref t)) (a1:=some d') (a3:=none) (a4:=none) (a5:=none) (a6:=none) (a7:=none) (by exact a_ P ⋯:T.length<=100000) O;let(v,ev,S,qv):=aq2 (M:=M3) (xs:=(T.map λf:F=>max f.a f.b)++[0]) (by simp);have J:Em .add (.vl ((T.map λf:F=>max f.a f.b).map nD)) (.vl [.int 0]) M3=.ok (.vl (((T.map λf:F=>max f.a f.b)++[0]).map nD)) M3:=by rw[Vz _ _ (by simp;exact a_ P ⋯)];simp[nD]
 generalize hX:(D.vl ((T.map λf:F=>max f.a f.b).map nD))=X at H J;generalize hY:(D.vl (((T.map λf:F=>max f.a f.b)++[0]).map nD))=Y at ev J;have q7:v<=2:=by
  rcases dz.mp qv with w|w
  .symm
   let(x,B,rfl):=bh.mp w;apply _k;have:=(A.good x B).a;have:=(A.good x B).b;lia
  .simp at w;exact a_ (f_ w) (jd _)
 have Q:Ah M3 (.ref q) (.vl [])\(decide (T=[])):=by
  simp only[Ah];cases T with
  |nil=>simp[K9,gr,O,Ul]|cons a l=>simp[K9,gr,O]
 apply _k;symm
 obtain⟨K,G,hK,k1,qk,ka,kb,p4,s4,l4⟩:∃(K:Nat)(G:fc),
  (Dg.iff (.cmp .eq (.v 2) (.Kl .nil)) (.o (.asg (.tg (.name 3)) (.bin .add (.i 1) (.call 14 (.p (.v 0) (.i 3)))))) .nil).den (PW (m-1)) [sR t,some d',sR q,sI (1+(v:Int)),none,none,none,none] M3
   = .ok (.next,[sR t,some d',sR q,sI K,none,none,none,none]) G/\1<=K/\K<=3/\(∀f∈T,f.a<K)/\(∀f∈T,f.b<K)/\G[q]?\(.lst (T.map F.toD))/\St t f M3 G/\G.length=M3.length:=by
  by_cases U:T=[]
  .symm
   let(w,G,ew,lw,sw,qq):=Dw (m:=m-1) (r_ (a_ ⋯ E)) s3.has (many:=3) ⋯ ⋯;apply _k;refine(1+w,G,?_,x_,by lia,by simp[U],by simp[U],sw.keep q _ q3 O,sw,qq);simp[Q,U,ew]
  .refine(1+v,M3,?_,x_,by lia,λx B=>?_,λx B=>?_,O,St.of s3.has (vf.refl _),rfl)
   .simp[Q,U]
   .have:=S (max x.a x.b) (qu _ (bh.mpr (x,B,rfl)));lia
   .have:=S (max x.a x.b) (qu _ (bh.mpr (x,B,rfl)));lia
 have p5:(G++[.dT []])[q]?\(.lst (T.map F.toD)):=yd p4;have C:=vm p4;let(zq,M6,Z,e6,r2,r3,r4,r8,p6,t6,u6):=a4h (W:=PW (m-1)) (M:=G++[.dT []]) (q:=q) (r:=G.length) (a0:=some (.ref t)) (a1:=some d') (a3:=some (.int K)) (a5:=none) (a6:=none) (a7:=none) V A P p5 (by simp) (h_ C);apply _k;have q2:M6[q]?\(.lst (T.map F.toD)):=by rw[u6.oth q (h_ C)];exact p5
 have q0:=amw (W:=PW (m-1)) (M:=M6) r2 r8 (by exact a_ P ⋯:T.length<=100000) q2;have R:=q1.trans s4;refine(K,G.length,sz,T,Z,M6,?_,p6,R.len,(V,A,c3,P,k1,qk,ka,kb,t6),?_)
 .simp only[Fn.run,Qh,Qg]
  simp[-bao,e1,e2,e3,H,J,ev,hK,MW.new,e6,r3,r4,q0,J9,Ka]
 .refine R.trans (?_,?_,λa o na h=>?_)
  .rw[u6.len];simp
  .let(n,h,o):=s4.has
   exact(n,by rw[u6.oth t (by have:=vm h;exact h_ this)];exact yd h,o)
  .rw[u6.oth a (by have:=vm h;exact h_ this)];exact yd h
noncomputable def pD(p:Nat×Nat):D:=.tup [.int p.1,.int p.2]
def Meet(Y:List F)(j k:Nat):Prop:=∃f g,Y[j]?\f/\Y[k]?\g/\f.b=g.a
structure Ps(hs:List F)(j k:Nat)(ps:List (Nat×Nat)):Prop where
 all:∀p:Nat×Nat,p∈ps↔Meet hs p.1 p.2/\Bef j k p.1 p.2
 len:ps.length<=j*hs.length+k
def Ps.skip(h:Ps Z j k ps)(T:Z[j]?\f)(Y:Z[k]?\g)(n:f.b≠g.a):Ps Z j (k+1) ps:=by
 refine(λp=>?_,by have:=h.len;exact a_ this (w_ x_));rw[h.all p];constructor
 .exact λq=>(q.1,by have:=q.2;unfold Bef at *;lia)
 .intro q
  refine(q.1,?_);have J:=q.2
  by_cases e:p.1=j/\p.2=k
  .symm
   let(B,G,a,b,c):=q.1;rw[e.1,T]at a;rw[e.2,Y]at b;cases a;cases b;apply _k;exact absurd c n
  .unfold Bef at *;lia
def Ps.put(h:Ps Z j k ps)(Y:Z[j]?\f)(T:Z[k]?\g)(n:f.b=g.a):Ps Z j (k+1) (ps++[(j,k)]):=by
 refine(λp=>?_,by have:=h.len;simp;lia);rw[dz,h.all p,ig];constructor
 .rintro(q|q)
  .exact(q.1,by have:=q.2;unfold Bef at *;lia)
  .subst q;exact((f,g,Y,T,n),by unfold Bef;lia)
 .intro q
  by_cases e:p.1=j/\p.2=k
  .right;exact Prod.ext e.1 e.2
  .left;exact(q.1,by have:=q.2;unfold Bef at *;lia)
def Ps.next(h:Ps Z j Z.length ps):Ps Z (j+1) 0 ps:=by
 refine(λp=>?_,by have:=h.len;have e:(j+1)*Z.length=j*Z.length+Z.length:=Nat.succ_mul _ _;exact a_ this (a_ (g_ e) x_));rw[h.all p];constructor
 .exact λq=>(q.1,by have:=q.2;unfold Bef at *;lia)
 .intro q
  refine(q.1,?_);symm
  let(f,g,a,b,c):=q.1;have:=(ao.mp b).1;have:=q.2;apply _k;unfold Bef at *;lia
def afv(f:F)(M:fc):Bx (eD f) (.int 0) M\(.int f.a):=rfl
def Y7(f:F)(M:fc):Bx (eD f) (.int 1) M\(.int f.b):=rfl
def Tu{i:Nat}(h:Z[i]?\f):Bx (Ka Z) (.int i) M\(eD f):=Jf q_ (by simp[h])
def Ig:p8 .len [Ka Z] M=.ok (.int Z.length) M:=by simp[p8,Dk,Ka]
def Qy(x y:D)(i j:Nat)(Y:Env):(Tg.names [i,j]).put (.tup [x,y]) Y\((Y.set i (some x)).set j (some y)):=rfl
def afw(C:Z.length<=5)(T:M[q]?\(.lst (ps.map pD)))(J:Z[j]?\f)(B:Z[k]?\g)(O:Ps Z j k ps) :
 ∃(M':fc)(Y:List (Nat×Nat)),Ek.den W [a0,sR q,sI j,eD f,sI k,eD g] M=.ok (.next,[a0,sR q,sI j,some (eD f),sI k,some (eD g)]) M' /\
  M'[q]?\(.lst (Y.map pD))/\Ps Z j (k+1) Y/\Up q M M':=by
 have G:=(ao.mp J).1;have N:=(ao.mp B).1
 by_cases h:f.b=g.a
 .have L:(ps.map pD).length<100000:=by
   have:=O.len;have:j*Z.length<=5*5:=wj (e_ (b_ G C)) C
   rw[du];lia
  have ap:=Ej (d:=.tup [.int j,.int k]) T L;refine(M.set q (.lst ((ps++[Prod.mk j k]).map pD)),ps++[(j,k)],?_,qj T,O.put J B h,Up.set _ _ _);simp[-eq_int,Ek,afv,Y7,Dd,h,Ed T,ap,pD]
 .refine(M,ps,?_,T,O.skip J B h,Up.refl q M)
  simp[-eq_int,Ek,afv,Y7,Dd,h]
def afx(d:1<=m)(F:hs.length<=5) :
 ∃(M':fc)(Y:List (Nat×Nat)),prog.call m 7 [Ka hs] M=.ok (.ref M.length) M'/\M'[M.length]?\(.lst (Y.map pD))/\Ps hs hs.length 0 Y/\Up M.length (M++[.lst []]) M':=by
 rw[call_of d rfl];symm
 let(t,M',e,O,R,T,G,Y,rfl,A,Q,z):=Qu (S:=K1) (W:=PW (m-1)) (ds:=hs.map eD) (ρ:=[Ka hs,sR M.length,none,none,none,none]) (M:=M++[.lst []]) (M1:=M++[.lst []]) rfl (by simp[Ka])
  (λj J M'=>∃(O R T G:Option D)(Y:List (Nat×Nat)),J=[some (Ka hs),sR M.length,O,R,T,G]/\M'[M.length]?\(.lst (Y.map pD))/\Ps hs j 0 Y/\Up M.length (M++[.lst []]) M')
  (none,none,none,none,[],rfl,by simp,(λp=>by simp[Bef],by simp),Up.refl _ _)
  (λj x J B K C=>by
   symm
   let(O,R,T,G,Y,rfl,v,I,c):=C;obtain⟨f,r,rfl⟩:∃f,hs[j]?\f/\eD f=x:=by simpa using K
   let(s,P,n,q,l,N,rfl,E,k2,k3):=Qu (S:=Ky) (W:=PW (m-1)) (ds:=hs.map eD) (ρ:=[Ka hs,sR M.length,sI j,eD f,T,G]) (M:=B) (M1:=B) rfl (by simp[Ka])
    (λk J M'=>∃(T G:Option D)(Y:List (Nat×Nat)),J=[some (Ka hs),sR M.length,sI j,some (eD f),T,G]/\M'[M.length]?\(.lst (Y.map pD))/\Ps hs j k Y/\Up M.length B M')
    (T,G,Y,rfl,v,I,Up.refl _ _)
    (λk y J P i C=>by
     symm
     let(T,G,Y,rfl,E,k2,k3):=C;obtain⟨g,o,rfl⟩:∃g,hs[k]?\g/\eD g=y:=by simpa using i
     let(H,L,u,V,t3,X):=afw (W:=PW (m-1)) (M:=P) (a0:=some (Ka hs)) F E r o k2;apply _k;exact(_,.next,_,H,Qy _ _ _ _ _,u,.inl rfl,sI k,some (eD g),L,rfl,V,t3,k3.trans X))
   rw[du]at k2;apply _k;exact(_,.next,_,P,Qy _ _ _ _ _,by simp[Kz,n],.inl rfl,sI j,some (eD f),q,l,N,rfl,E,k2.next,c.trans k3))
 rw[du]at Q;apply _k;refine(M',Y,?_,A,Q,z);simp[Fn.run,Ov,Ou,MW.new,e]
def bothW(T:List F)(Y:List (List Kx×D))(x y:Int):Option D:=if x=-1 then some (.int y)else if y=-1 then some (.int x)else Ag Y [.inl x,.inl y]
def akk(J:1<=m)(G:M[r]?\(.dT Z))(h:bothW U Z x y\v):prog.call m 6 [.ref r,.int x,.int y] M=.ok v M:=by
 rw[call_of J rfl];unfold bothW at h
 by_cases Y:x=-1
 .rw[dm Y]at h;cases h
  simp[Fn.run,Kw,Kv,Y]
 .rw[cz Y]at h
  by_cases T:y=-1
  .rw[dm T]at h;cases h
   simp[Fn.run,Kw,Kv,Y,T]
  .rw[cz T]at h
   simp[Fn.run,Kw,Kv,Y,T,abd G (abe x y),h]
def amy(Y:List F)(c:F):Int:=if c∈Y then(pos c Y:Int)else -1
def N8(Y:List F)(f g:F):ent Y f g=amy Y (f.comp g):=rfl
def akl(Y:hs.Nodup){i:Nat}(h:hs[i]?\f):amy hs f=i:=by have m:f∈hs:=bf h;rw[amy,dm m,aij Y h]
def Wf:∀k:List Kx,Ry (ap5 k)\k:=by
 intro k;show acs (k.map ap4)\k
 induction k with
 |nil=>rfl|cons a l Y=>cases a<;>simp[acs,ap4,Yq,Y]
theorem afy:∀Z:List (List Kx×D),Ft (Z.map λp=>ap5 p.1)\(Z.map (·.1))
 |[]=>rfl|p::l=>by simp[Ft,Wf,afy l]
theorem afz:∀Z:List (Nat×Nat),Ft (Z.map pD)\(Z.map λp=>ky p.1 p.2)
 |[]=>rfl|p::l=>by simp[Ft,pD,afz l,ky]
def aq4{Y:List (List Kx×D)}(h:Ag Y q\v):∃p∈Y,p.1=q:=by
 unfold Ag at h;cases e:Y.find? (λp=>decide (p.1=q))with
 |none=>rw[e]at h;cases h|some p=>exact(p,List.mem_of_find?_eq_some e,by simpa using List.find?_some e)
section
variable{sz:Nat->Nat}{K:Nat}{hs:List F}{jf:List (List Kx×D)}(P:Gq sz K hs jf)
include P
theorem Gq.look(Y:hs[j]?\f)(T:hs[k]?\g)(h:f.b=g.a):Ag jf (ky j k)\(.int (ent hs f g)):=
 P.tb.look j k f g Y T h (.inl (ao.mp Y).1)
theorem Gq.no(h:¬Meet hs j k):Ag jf (ky j k)=none:=by apply amu;intro p Y e;let(T,G,f,g,rfl,a,b,c,_):=P.tb.keys p Y;let(rfl,rfl):=adn e;exact h (f,g,a,b,c)
theorem Gq.kl:jf.length<=25:=by
 have:=P.tb.len;have:hs.length*hs.length<=5*5:=wj P.len P.len
 lia
theorem Gq.plain:Fv (jf.map (·.1))=true:=by have:=P.kl;simp only[Fv,du,az,gf];refine(a_ this ⋯,?_);rw[jg];intro k T;let(p,Y,rfl):=bh.mp T;let(j,k,f,g,rfl,_):=P.tb.keys p Y;simp[ky]
theorem Gq.sm:Vv jf=true:=by
 unfold Vv;rw[jg];intro p Y;let(j,k,f,g,rfl,a,b,_):=P.tb.keys p Y;have:=(ao.mp a).1;have:=(ao.mp b).1;have:=P.len;simp[ky]
 lia
theorem Gq.same(h:Ps hs hs.length 0 ps):Ks (jf.map (·.1)) (ps.map λp=>ky p.1 p.2)=true:=by
 unfold Ks;rw[az,jg,jg];constructor
 .intro x T
  let(p,Y,rfl):=bh.mp T;let(j,k,f,g,rfl,a,b,c,d):=P.tb.keys p Y;rw[Ao];exact(ky j k,bh.mpr ((j,k),(h.all (j,k)).mpr ((f,g,a,b,c),d),rfl),by simp)
 .intro y J
  let(p,Y,rfl):=bh.mp J;let((f,g,a,b,c),d):=(h.all p).mp Y;let(q,G,e):=aq4 (P.look a b c);rw[Ao];exact(q.1,bh.mpr (q,G,rfl),by simp[e])
theorem Gq.Fj(h:c∈hs\/c.R8):(amy hs c=-1/\c.R8)\/∃i:Nat,hs[i]?\c/\amy hs c=i:=by
 by_cases m:c∈hs
 .exact .inr (pos c hs,adh c m,dm m)
 .exact .inl (cz m,h.resolve_left m)
theorem Gq.aq5{j k l:Nat}(O:hs[j]?\f)(c:hs[k]?\g)(N:hs[l]?\h)(G:f.b=g.a)(B:g.b=h.a) :
 ∃v:Int,bothW hs jf (ent hs f g) l\(.int v)/\bothW hs jf j (ent hs g h)\(.int v):=by
 have A:=bf O;have mg:=bf c;have H:=bf N;have of:=P.inv.good f A;have E:=P.inv.good g mg;have Q:=P.inv.good h H;have as:=aik (h:=h) of E G;rw[N8,N8];have L:¬((j:Int)=-1):=by lia
 have M:¬((l:Int)=-1):=by lia
 rcases P.Fj (P.cl f A g mg G)with⟨C,I⟩|⟨u,y,C⟩
 .have d:=adi (of.comp E G) I
  have z:f.a=g.b:=I.1;have T:(f.comp g).comp h=h:=by rw[d];show(idF sz f.a).comp h=h;rw[z,B];exact id_comp Q
  rcases P.Fj (P.cl g mg h H B)with⟨J,S⟩|⟨w,V,J⟩
  .have R:=adi (E.comp Q B) S
   have Y:f.comp (g.comp h)=f:=by rw[R];show f.comp (idF sz g.a)=f;rw[<-G];exact comp_id of
   have X:f=h:=by rw[<-Y,<-as,T]
   have q:j=l:=by rw[<-aij P.inv.nd O,<-aij P.inv.nd N,X]
   refine(l,by simp[bothW,C],?_);rw[J,bothW,cz L,dm rfl,q]
  .have W:¬((w:Int)=-1):=by lia
   refine(l,by simp[bothW,C],?_);rw[J,bothW,cz L,cz W];have:=P.look O V (show f.b=(g.comp h).a from G);rw[N8,<-as,T,akl P.inv.nd N]at this;exact this
 .have D:¬((u:Int)=-1):=by lia
  have F:=P.look y N (show(f.comp g).b=h.a from B);rcases P.Fj (P.cl g mg h H B)with⟨J,S⟩|⟨w,V,J⟩
  .have R:=adi (E.comp Q B) S
   have Y:f.comp (g.comp h)=f:=by rw[R];show f.comp (idF sz g.a)=f;rw[<-G];exact comp_id of
   refine(j,?_,?_)
   .rw[C,bothW,cz D,cz M]
    rw[N8,as,Y,akl P.inv.nd O]at F;exact F
   .rw[J,bothW,cz L,dm rfl]
  .have W:¬((w:Int)=-1):=by lia
   refine(amy hs ((f.comp g).comp h),?_,?_)
   .rw[C,bothW,cz D,cz M];exact F
   .rw[J,bothW,cz L,cz W]
    have:=P.look O V (show f.b=(g.comp h).a from G);rw[N8,<-as]at this;exact this
end
def axm(V:1<=m)(P:Gq sz K Z U):prog.call m 9 [.int K,Ka Z] M=.ok .non M:=by
 rw[call_of V rfl];let(A,O,e,(Y,rfl),rfl):=W5 (S:=Mr) (W:=PW (m-1)) (ds:=Z.map eD) (ρ:=[sI K,Ka Z,none]) (M:=M) (M1:=M) rfl (by simp[Ka])
  (λj G O=>(∃Y:Option D,G=[sI K,some (Ka Z),Y])/\O=M) ((none,rfl),rfl)
  (λj x G C E R=>by
   let((Y,rfl),rfl):=R;obtain⟨f,F,rfl⟩:∃f,Z[j]?\f/\eD f=x:=by simpa using E
   have L:=bf F;have N:=P.Y5 f L;have B:=P.aav f L;refine(_,.next,_,C,rfl,?_,.inl rfl,(some (eD f),rfl),rfl);have J:(f.a:Int)<K:=m_ N
   have T:(f.b:Int)<K:=m_ B
   have H:(0:Int)<=(f.a:Int):=q_
   have Q:(0:Int)<=(f.b:Int):=q_
   simp[Mq,afv,Y7,N,B,J,T,H,Q])
 have I:(1:Int)<=K:=by have:=P.k1;exact n_ this
 have k3:(K:Int)<=3:=by have:=P.k3;exact n_ this
 have X:¬(5:Int)<(Z.length:Int):=by have:=P.len;lia
 simp[Fn.run,Qa,P0,I,k3,Ig,X,e]
def a4k{j k:Nat}(E:1<=m)(P:Gq sz K Z U)(O:Z[j]?\f)(N:Z[k]?\g)(h:f.b=g.a):prog.call m 8 [Ka Z,.int (ent Z f g),.int f.a,.int g.b] M=.ok (.bl true) M:=by
 rw[call_of E rfl,N8];have C:=bf O;have mg:=bf N;rcases P.Fj (P.cl f C g mg h)with⟨T,L⟩|⟨u,J,T⟩
 .have B:f.a=g.b:=L.1
  simp[Fn.run,Gz,Gy,T,B]
 .have Y:=(ao.mp J).1
  have R:¬((u:Int)=-1):=by lia
  have z:(0:Int)<=(u:Int):=q_
  have G:(u:Int)<(Z.length:Int):=m_ Y
  have e:Ah M (eD (f.comp g)) (.tup [.int f.a,.int g.b])\true:=by show Ul (K9 M 5) [.int f.a,.int g.b] [.int f.a,.int g.b]\true;rw[Es (N5 M 4 _ _) (Es (N5 M 4 _ _) (show Ul (K9 M 5) [] []\true from rfl))];simp
  simp[Fn.run,Gz,Gy,T,R,z,Y,G,Ig,Tu J,e]
def axn(O:2<=m)(P:Gq sz K Z jf)(I:M[r]?\(.dT jf)):∃U,prog.call m 10 [Ka Z,.ref r] M=.ok .non U/\vf M U/\U.length=M.length+1:=by
 rw[call_of (a_ ⋯ O) rfl];let(M1,Y,X,N,B,R):=afx (M:=M) (m:=m-1) (hs:=Z) (r_ O) P.len;have H:vf M M1:=λa o h=>by rw[R.oth a (by have:=vm h;exact h_ this)];exact yd h
 have V:=H r _ I;have L:(keysOf M1 (.ref r)).bind Ft\(jf.map (·.1)):=by simp only[keysOf,V,uw,afy]
 have G:(keysOf M1 (.ref M.length)).bind Ft\(Y.map λp=>ky p.1 p.2):=by simp only[keysOf,N,gr,uw,afz]
 have y:Fv (Y.map λp=>ky p.1 p.2)=true:=by
  have:=B.len;have:Z.length*Z.length<=5*5:=wj P.len P.len
  simp only[Fv,du,az,gf];refine(by lia,?_);rw[jg];intro k u;let(p,F,rfl):=bh.mp u;simp[ky]
 have C:(Ex.Yp (.v 1) (.v 2)).den (PW (m-1)) [some (Ka Z),sR r,sR M.length,none,none] M1=.ok (.bl false) M1:=by rw[abb];simp only[acv,List.getElem?_cons_succ,List.getElem?_cons_zero,Res.yc,L,P.plain,G,y,P.same B,mq,rm]
 let(q,U,e,(E,J,rfl),rfl):=Du (S:=Ox) (W:=PW (m-1)) (d:=.ref M.length) (ds:=Y.map pD) (ρ:=[Ka Z,sR r,sR M.length,none,none]) (M:=M1) (M1:=M1) rfl (by simp) (ju N)
  (λj T U=>(∃E J:Option D,T=[some (Ka Z),sR r,sR M.length,E,J])/\U=M1) ((none,none,rfl),rfl) (λi T M h=>by rw[h.2];exact ju N)
  (λi x T z l A=>by
   let((E,J,rfl),rfl):=A;obtain⟨p,F,rfl⟩:∃p,Y[i]?\p/\pD p=x:=by simpa using l
   let((f,g,a,b,c),d):=(B.all p).mp (bf F);refine(_,.next,_,z,Qy _ _ _ _ _,?_,.inl rfl,(some (.int p.1),sI p.2,rfl),rfl);have Q:=abd V (abe p.1 p.2);rw[show([.inl (p.1:Int),.inl (p.2:Int)]:List Kx)=ky p.1 p.2 from rfl,P.look a b c]at Q;simp[Ow,Q,Tu a,Tu b,afv,Y7,a4k (show 1<=m-1 by exact r_ O) P a b c])
 refine(U,?_,H,by rw[R.len];simp);simp[Fn.run,Su,Ss,X,C,e]
def axo(E:2<=m)(P:Gq sz K Z jf)(hr:M[r]?\(.dT jf)):∃U,prog.call m 11 [Ka Z,.ref r] M=.ok .non U/\vf M U/\U.length=M.length+1:=by
 rw[call_of (a_ ⋯ E) rfl];let(M1,I,e1,p1,t1,A):=afx (M:=M) (m:=m-1) (hs:=Z) (r_ E) P.len;have X:vf M M1:=λa o h=>by rw[A.oth a (by have:=vm h;exact h_ this)];exact yd h
 have N:=X r _ hr;have hl:=P.len;let(qq,U,e,(V,R,B,G,T,rfl),rfl):=Du (S:=Mu) (W:=PW (m-1)) (d:=.ref M.length) (ds:=I.map pD) (ρ:=[Ka Z,sR r,sR M.length,none,none,none,none,none]) (M:=M1) (M1:=M1) rfl (by simp) (ju p1)
  (λj O U=>(∃V R B G T:Option D,O=[some (Ka Z),sR r,sR M.length,V,R,B,G,T])/\U=M1) ((none,none,none,none,none,rfl),rfl) (λi O M h=>by rw[h.2];exact ju p1)
  (λi x O F hx H=>by
   let((V,R,B,G,T,rfl),rfl):=H;obtain⟨p,hp,rfl⟩:∃p,I[i]?\p/\pD p=x:=by simpa using hx
   let((f,g,a,b,c),d):=(t1.all p).mp (bf hp);let(qk,M3,e3,(c5,c6,c7,rfl),rfl):=vz (S:=Ms) (W:=PW (m-1)) (n:=Z.length) (ρ:=[Ka Z,sR r,sR M.length,sI p.1,sI p.2,B,G,T]) (M:=F) (M1:=F) rfl (by simp[Ig]) (a_ hl ⋯)
    (λj O U=>(∃B G T:Option D,O=[some (Ka Z),sR r,sR M.length,sI p.1,sI p.2,B,G,T])/\U=F) ((B,G,T,rfl),rfl)
    (λl O M4 Q H=>by
     let((B,G,T,rfl),rfl):=H;have J:Z[l]?=some Z[l]:=by simp[Q]
     have Y:=a1s N (abe p.2 l);rw[show([.inl (p.2:Int),.inl (l:Int)]:List Kx)=ky p.2 l from rfl]at Y
     by_cases q:g.b=Z[l].a
     .rw[P.look b J q]at Y
      let(v,v1,v2):=P.aq5 a b J c q;have L:=abd N (abe p.1 p.2);rw[show([.inl (p.1:Int),.inl (p.2:Int)]:List Kx)=ky p.1 p.2 from rfl,P.look a b c]at L;have C:=abd N (abe p.2 l);rw[show([.inl (p.2:Int),.inl (l:Int)]:List Kx)=ky p.2 l from rfl,P.look b J q]at C;refine(_,.next,_,M4,rfl,?_,.inl rfl,(some (.int l),sI v,sI v,rfl),rfl);simp[G4,Y,L,C,akk (show 1<=m-1 by exact r_ E) N v1,akk (show 1<=m-1 by exact r_ E) N v2]
     .rw[P.no (λ(g',h',x,y,z)=>by rw[b]at x;rw[J]at y;cases x;cases y;exact q z)]at Y
      refine(_,.cont,_,M4,rfl,?_,.inr rfl,(some (.int l),G,T,rfl),rfl);simp[G4,Y])
   refine(_,.next,_,M3,Qy _ _ _ _ _,?_,.inl rfl,(some (.int p.1),sI p.2,c5,c6,c7,rfl),rfl);simp[Mt,e3])
 refine(U,?_,X,by rw[A.len];simp);simp[Fn.run,Qd,Qc,e1,e]
def Made(n r K:Nat)(T:List F)(Y:List (List Kx×D))(M:fc):Prop:=M[n]?\(.ins 2 [(2,.int K),(1,Ka T),(0,.ref r)])/\M[r]?\(.dT Y)
def axp(J:3<=m)(P:Gq sz K Z U)(T:M[r]?\(.dT U))(N:M[n]?\(.ins 2 [])) :
 ∃M' r',prog.call m 0 [.ref n,.int K,Ka Z,.ref r] M=.ok .non M'/\Made n r' K Z U M'/\M.length<=r'/\r'<M'.length/\(∀(a:Nat)(o:MO),a≠n->M[a]?\o->M'[a]?\o):=by
 rw[call_of (a_ ⋯ J) rfl];have A:=axm (M:=M) (m:=m-1) (r_ (a_ ⋯ J)) P;let(S,W,L,l1):=axn (M:=M) (m:=m-1) (r_ J) P T;let(Y,D,k2,l2):=axo (M:=S) (m:=m-1) (r_ J) P (L r _ T);have k:=L.trans k2;have G:=k n _ N;have Q:=k r _ T;have B:r≠n:=λe=>by rw[e,N]at T;cases T
 have F:Ut (.ref n) 2 (.int K) Y\(Y.set n (.ins 2 [(2,.int K)])):=by simp[Ut,G,Ws]
 have I:=qj (o:=.ins 2 [(2,.int K)]) G;have s2:Ut (.ref n) 1 (Ka Z) (Y.set n (.ins 2 [(2,.int K)]))\(Y.set n (.ins 2 [(2,.int K),(1,Ka Z)])):=by simp[Ut,I,Ws]
 have V:=qj (o:=.ins 2 [(2,.int K),(1,Ka Z)]) G;have X:(Y.set n (.ins 2 [(2,.int K),(1,Ka Z)]))[r]?\(.dT U):=by rw[j9 (lg B)];exact Q
 have R:p8 .dict [.ref r] (Y.set n (.ins 2 [(2,.int K),(1,Ka Z)]))=.ok (.ref Y.length) (Y.set n (.ins 2 [(2,.int K),(1,Ka Z)])++[.dT U]):=by simp[p8,X,P.sm,MW.new]
 have C:(Y.set n (.ins 2 [(2,.int K),(1,Ka Z)])++[.dT U])[n]?\(.ins 2 [(2,.int K),(1,Ka Z)]):=yd V;have H:Ut (.ref n) 0 (.ref Y.length) (Y.set n (.ins 2 [(2,.int K),(1,Ka Z)])++[.dT U])\((List.set Y n (MO.ins 2 [(2,.int K),(1,Ka Z)])++[MO.dT U]).set n (MO.ins 2 [(2,.int K),(1,Ka Z),(0,.ref Y.length)])):=by simp[Ut,C,Ws]
 have O:=vm G;refine(_,Y.length,?_,(qj (o:=.ins 2 [(2,.int K),(1,Ka Z),(0,.ref Y.length)]) C,?_),by lia,by simp,λa o E h=>?_)
 .simp[Fn.run,Mm,Ml,A,W,D,F,s2,R,H]
 .rw[j9 (h_ O)]
  rw[jk (by simp)];simp
 .rw[j9 (lg E)]
  exact yd (by rw[j9 (lg E)];exact k a o h)
end K31
namespace L2
open PySem PySem.Spec PyProof.Rows
abbrev Key:=Sum Int Str
noncomputable def Y8:Key->Value->Bool
 |.inl k,v=>Value.isInt k v|.inr x,v=>Value.isStrOf x v
noncomputable def bhe(w:World):Key->Int
 |.inl k=>hashInt k|.inr x=>hashStr w x
theorem Ce:∀{k:Key}{v:Value},Y8 k v=true->(∃i t,k=Sum.inl i/\v=Value.int i t)\/(∃x t,k=Sum.inr x/\v=Value.str x t)
 |.inl i,v,h=>by
  let(t,e):=Value.isInt_shape (k:=i) (v:=v) h;exact .inl (i,t,rfl,e)
 |.inr x,v,h=>by
  let(t,e):=Value.isStrOf_shape (x:=x) (v:=v) h;exact .inr (x,t,rfl,e)
def amz(i:Int)(t:Tok):Y8 (.inl i) (.int i t)=true:=by simp[Y8,Value.isInt]
def am0(x:Str)(t:Tok):Y8 (.inr x) (.str x t)=true:=by simp[Y8,Value.isStrOf]
def a4l(a b:Int):decide ((Sum.inl a:Key)=Sum.inl b)=(a==b):=by
 by_cases e:a=b
 .subst e;simp
 .have h:¬(Sum.inl a:Key)=Sum.inl b:=λq=>e (Sum.inl.inj q)
  rw[lz h];exact(vd.mpr e).symm
def a4m(a b:Str):decide ((Sum.inr a:Key)=Sum.inr b)=decide (a=b):=by
 by_cases e:a=b
 .subst e;simp
 .have h:¬(Sum.inr a:Key)=Sum.inr b:=λq=>e (Sum.inr.inj q)
  rw[lz h,lz e]
def a4n(a:Int)(b:Str):decide ((Sum.inl a:Key)=Sum.inr b)=false:=lz (λq=>nomatch q)
def a4o(a:Str)(b:Int):decide ((Sum.inr a:Key)=Sum.inl b)=false:=lz (λq=>nomatch q)
def ql(prog:Program)(w:World):PySem.KeyKind prog w Key where
 is:=Y8
 hash:=bhe w
 inj:=λv a b G T=>by
  rcases Ce G with⟨i,t,rfl,rfl⟩|⟨x,t,rfl,rfl⟩
  .rcases Ce T with⟨j,u,rfl,e⟩|⟨y,u,rfl,e⟩
   .injection e with e1 _;rw[e1]
   .exact nomatch e
  .rcases Ce T with⟨j,u,rfl,e⟩|⟨y,u,rfl,e⟩
   .exact nomatch e
   .injection e with e1 _;rw[e1]
 byValue:=λk v h=>by rcases Ce h with⟨i,t,rfl,rfl⟩|⟨x,t,rfl,rfl⟩<;>rfl
 pyHash:=λY h=>by
  rcases Ce Y with⟨i,t,rfl,rfl⟩|⟨x,t,rfl,rfl⟩
  .exact wpAny_pyHash_int h
  .exact wpAny_pyHash_str h
 eqBool:=λJ Y h=>by
  rcases Ce J with⟨i,t,rfl,rfl⟩|⟨x,t,rfl,rfl⟩
  .rcases Ce Y with⟨j,u,rfl,rfl⟩|⟨y,u,rfl,rfl⟩
   .rw[a4l]at h;exact wpAny_eqBool_int h
   .rw[a4n]at h;exact SeqAt.EqAt.int_str i t y u _ _ _ _ h
  .rcases Ce Y with⟨j,u,rfl,rfl⟩|⟨y,u,rfl,rfl⟩
   .rw[a4o]at h;exact SeqAt.EqAt.str_int x t j u _ _ _ _ h
   .rw[a4m]at h;exact wpAny_eqBool_str h
 «strs»:=λk x t v h=>by
  rcases Ce h with⟨i,u,rfl,e⟩|⟨y,u,rfl,e⟩
  .exact nomatch e
  .injection e with e1 _
   subst e1;cases v<;>rfl
def af0(prog:Program)(w:World)(i:Int)(t:Tok):(ql prog w).is (.inl i) (.int i t)=true:=amz i t
def af1(prog:Program)(w:World)(x:Str)(t:Tok):(ql prog w).is (.inr x) (.str x t)=true:=am0 x t
end L2
namespace L2
open PySem PySem.Spec PyProof.Rows
set_option genInjectivity true in
inductive V where
 |non|bl (b:Bool)|int (i:Int)|str (x:Str)|ref (a:Addr)
 deriving DecidableEq
def RelV:V->Value->Prop
 |.non,u=>u=Value.none|.bl b,u=>u=Value.bool b|.int i,u=>∃t,u=Value.int i t|.str x,u=>∃t,u=Value.str x t|.ref a,u=>u=Value.ref a
abbrev Vals:List V->List Value->Prop:=Paired RelV
theorem Vals.length(r:Vals U Z):U.length=Z.length:=Paired.length r
theorem Vals.get:∀{T:List V}{Y:Zl}{i:Nat}{x:V},Vals T Y->T[i]?\x->∃u,Y[i]?\u/\RelV x u
 |_,_,_,_,.nil,e=>by simp at e|_,_,0,_,.cons r _,e=>by simp at e;subst e;exact(_,rfl,r)
 |_,_,i+1,x,.cons _ t,e=>by
  let(u,G,J):=Vals.get (i:=i) (x:=x) t (by simpa using e);exact(u,by simpa using G,J)
theorem Vals.set{x:V}{u:Value}(r:RelV x u):∀{T:List V}{Y:Zl}(i:Nat),Vals T Y->Vals (T.set i x) (Y.set i u)
 |_,_,_,.nil=>.nil|_,_,0,.cons _ t=>.cons r t|_,_,i+1,.cons q t=>.cons q (Vals.set r i t)
theorem Vals.append:∀{J Y:List V}{G T:Zl},Vals J G->Vals Y T->Vals (J++Y) (G++T):=by intro _ _ _ _ h r;induction h with|nil=>exact r|cons q t ih=>exact .cons q ih
theorem Vals.take:∀{T:List V}{Y:Zl}(n:Nat),Vals T Y->Vals (T.take n) (Y.take n)
 |_,_,0,_=>.nil|_,_,_+1,.nil=>.nil|_,_,n+1,.cons r t=>.cons r (Vals.take n t)
theorem Vals.drop:∀{T:List V}{Y:Zl}(n:Nat),Vals T Y->Vals (T.drop n) (Y.drop n)
 |_,_,0,r=>r|_,_,_+1,.nil=>.nil|_,_,n+1,.cons _ t=>Vals.drop n t
def Qz:Option V->Option Value->Prop
 |some v,some u=>RelV v u|none,none=>True|_,_=>False
def KV{Y:Type}:List (Y×V)->List (Y×Value)->Prop:=Paired λ(p:Y×V) (q:Y×Value)=>p.1=q.1/\RelV p.2 q.2
noncomputable def kV:Key->V
 |.inl i=>.int i|.inr x=>.str x
set_option genCtorIdx false
inductive HO where
 |lst (xs:List V)
 |tup (xs:List V)
 |dK (jf:List (Key×V))|dT (jf:List (List Key×V))
 |ins (C dx:Addr) (fs:List (Str×V))
 |own (x:Addr)
 |Um (o:Obj) (u:HO)
set_option genCtorIdx true
noncomputable def HO.ctorIdx(u:HO):Nat:=u.casesOn (λ_=>0) (λ_=>1) (λ_=>2) (λ_=>3) (λ_ _ _=>4) (λ_=>5) (λ_ _=>6)
abbrev Hp:=Addr->Option HO
noncomputable def upd(H:Hp)(a:Addr)(o:HO):Hp:=λb=>if b=a then some o else H b
def yr:upd H a o a\o:=by unfold upd;rw[dm rfl]
def qm(h:b≠a):upd H a o b=H b:=by unfold upd;rw[cz h]
def aq6{H:Hp}(h:H a\o)(Y:H b\u)(d:o≠u):a≠b:=by intro e;subst e;rw[h]at Y;exact d (mj Y)
def qt{H:Hp}(h:H a\o)(Y:H b=none):a≠b:=by intro e;subst e;rw[h]at Y;cases Y
section
variable(P:Program)(w:World)
def aaw(h:Heap)(a:Addr)(Y:U1):Prop:=∃o,h.get? a\o/\o.cls=.type "tuple"/\∃n,o.data=.seq Y n/\o.dict=none
def aaw.is(x:aaw h a items):IsTup h a items:=let (o,h1,h2,n,h3,_):=x;(o,h1,h2,n,h3)
def aaw.new(h:Heap)(items:U1):aaw (h.push { cls:=.type "tuple",data:=.seq items }) h.objs.size items:=(_,dg _ rfl,rfl,_,rfl,rfl)
def Ci(H:Hp)(h:Heap)(a:Addr):HO->Prop
 |.lst Y=>Y.length<=sizeLine/\∃(T:Zl)(n:Nat),Vals Y T/\h.get? a=some { cls:=.type "list",data:=.seq T.toArray n }|.tup Y=>Y.length<=sizeLine/\∃T:List Value,Vals Y T/\aaw h a T.toArray|.dK jf=>jf.length<=sizeLine/\(a==sysModules)=false/\∃B,KV jf B/\h.DictOf (ql P w) a B
 |.dT jf=>jf.length<=sizeLine/\(a==sysModules)=false/\∃Y:List (List Key×Addr×Value),
  Paired (λ(p:List Key×V) (q:List Key×Addr×Value)=>p.1=q.1/\H q.2.1\(.tup (p.1.map kV))/\RelV p.2 q.2.2) jf Y /\
  ∃o J O,h.get? a\o/\o.ExactDict/\o.data=.dict J O/\J.toList=Y.map (entryOfKey (tupleKind (ql P w)))/\(Y.map (·.1)).Nodup
 |.ins C dx fs=>H dx\(.own a)/\fs.length<=1000/\dx≠a/\h.get? a\(PySem.W.instObj C dx) /\
  ∃G,h.Ns1 dx G/\(∀f,Qz (fs.lookup f) (G f))/\PySem.Within G (fs.map (·.1))
 |.own _=>∃o,h.get? a\o|.Um o u=>h.get? a\o/\Ci H h a u
def Tv(H:Hp)(h:Heap):Prop:=∀a o,H a\o->Ci P w H h a o
end
theorem Ci.lt(x:Ci P w H h a o):a<h.objs.size:=by
 cases o with
 |lst T=>let(_,_,_,_,e):=x;exact cj e
 |tup T=>let(_,_,_,p):=x;exact(aaw.is p).lt
 |dK Y=>let(_,_,_,_,o,_,_,e,_):=x;exact cj e
 |dT Y=>let(_,_,_,_,o,_,_,e,_):=x;exact cj e
 |ins C J fs=>let(_,_,_,e,_):=x;exact cj e
 |own y=>let(_,e):=x;exact cj e
 |Um G u=>let(e,_):=x;exact cj e
theorem Paired.a4p{B J:Type}{F G:B->J->Prop}:∀{T:List B}{Y:List J},Paired F T Y->(∀a b,F a b->G a b)->Paired G T Y:=by intro _ _ h f;induction h with|nil=>exact .nil|cons r t ih=>exact .cons (f _ _ r) ih
def Ci.stay(x:Ci P w H h a o)(k:∀b u,(b=a\/H b\(.own a))->h.get? b\u->h'.get? b\u)(Q:∀b,H b\(.own a)->U b\(.own a))(V:∀b Z,H b\(.tup Z)->U b\(.tup Z)):Ci P w U h' a o:=by
 induction o with
 |lst Z=>let(z,J,n,r,e):=x;exact(z,J,n,r,k _ _ (.inl rfl) e)
 |tup Z=>let(z,J,r,Y,e,c):=x;exact(z,J,r,Y,k _ _ (.inl rfl) e,c)
 |dK L=>let(z,y,E,r,Y,T,G,e,c):=x;exact(z,y,E,r,Y,T,G,k _ _ (.inl rfl) e,c)
 |dT L =>
  let(z,y,Z,r,Y,T,G,e,c):=x;exact(z,y,Z,Paired.a4p r λp q z=>(z.1,V _ _ z.2.1,z.2.2),Y,T,G,k _ _ (.inl rfl) e,c)
 |ins C W fs =>
  let(d,z,O,e,N,(B,T,G,S,c),r):=x;exact(Q _ d,z,O,k _ _ (.inl rfl) e,N,(B,T,G,k _ _ (.inr d) S,c),r)
 |own y=>let(Y,e):=x;exact(Y,k _ _ (.inl rfl) e)
 |Um Y u R=>let(e,q):=x;exact(k _ _ (.inl rfl) e,R q)
theorem Tv.lt(x:Tv P w H h)(e:H a\o):a<h.objs.size:=(x a o e).lt
def Tv.fresh(x:Tv P w H h)(e:h.objs.size<=a):H a=none:=by
 cases q:H a with
 |none=>rfl|some u=>exact absurd (iu (x.lt q) e) (o8 _)
def Tv.kept(x:Tv P w H h)(k:∀b u,h.get? b\u->h'.get? b\u):Tv P w H h':=λa o e =>
 (x a o e).stay (λb u _ q=>k b u q) (λ_ q=>q) λ_ _ q=>q
def Tv.laid(x:Tv P w H h)(k:∀b u,h.get? b\u->h'.get? b\u)(G:h.objs.size<=a)(new:Ci P w (upd H a o) h' a o):Tv P w (upd H a o) h':=λb u e=>by
 have T:=x.fresh G
 by_cases Y:b=a
 .subst Y;rw[yr]at e;cases e;exact new
 .rw[qm Y]at e
  exact(x b u e).stay (λc v _ q=>k c v q) (λc q=>by rw[qm (qt q T)];exact q) λc J q=>by rw[qm (qt q T)];exact q
def Rd(H:Hp)(a:Addr)(u:HO):Prop:=H a\u\/∃o,H a\(.Um o u)
def Rd.ok(r:Rd H a u)(x:Tv P w H h):Ci P w H h a u:=by
 rcases r with r|⟨o,r⟩
 .exact x a u r
 .let(_,q):=x a _ r
  exact q
def Mut:Option HO->Prop
 |some (.lst _)=>True|some (.dK _)=>True|some (.dT _)=>True|some (.ins _ _ _)=>True|_=>False
def Tv.write(ok:Tv P w H h)(G:Mut (H x))(L:e=x\/H e\(.own x))(k:∀b u,b≠e->h.get? b\u->h'.get? b\u)(C:∃u,h'.get? e\u)(new:Ci P w (upd H x Z) h' x Z):Tv P w (upd H x Z) h':=λb u q=>by
 have T:∀c y,H c\(.own y)->c≠x:=λc y r z=>by subst z;rw[r]at G;exact G
 have N:∀c O,H c\(.tup O)->c≠x:=λc O r z=>by subst z;rw[r]at G;exact G
 by_cases J:b=x
 .subst J;rw[yr]at q;cases q;exact new
 .rw[qm J]at q
  by_cases Y:b=e
  .have E:H b\(.own x):=by
    rcases L with z|z
    .exact absurd (Y.trans z) J
    .rw[Y];exact z
   rw[q]at E;cases E;let(v,R):=C;exact(v,by rw[Y];exact R)
  .refine(ok b u q).stay (λc v B r=>k c v ?_ r) (λc r=>by rw[qm (T c b r)];exact r) λc O r=>by rw[qm (N c O r)];exact r
   rcases B with rfl|B
   .exact Y
   .rintro rfl
    rcases L with z|z
    .exact T c b B z
    .rw[B]at z;cases z;exact J rfl
structure Un(fs ex:X9)(H H':Hp)(h h':Heap):Prop where
 keep:∀b o,h.get? b\o->H b=none->b∉fs->b∉ex->h'.get? b\o
 slot:∀b o,h.get? b\o->H b=none->b∈fs->b∉ex->∃sl,h'.get? b=some { o with slots:=sl }
 free:∀b o,h.get? b\o->H b=none->b∉ex->H' b=none
 there:∀b o,h.get? b\o->b∉ex->∃o',h'.get? b\o'
 Y9:∀b xs,H b\(.tup xs)->H' b\(.tup xs)
 adq:∀b o u,H b\(.Um o u)->H' b\(.Um o u)
def Un.any(u:Un fs ex H H1 h U)(q:h.get? b\Z)(n:H b=none)(Y:b∉ex):∃sl,U.get? b=some { Z with slots:=sl }:=by
 by_cases T:b∈fs
 .exact u.slot b Z q n T Y
 .exact(Z.slots,u.keep b Z q n T Y)
def Un.kept(k:∀b u,h.get? b\u->h'.get? b\u):Un fs ex H H h h':=
 (λb Y q _ _ _=>k b Y q,λb Y q _ _ _=>(Y.slots,k b Y q),λ_ _ _ n _=>n,λb Y q _=>(Y,k b Y q),λ_ _ q=>q,λ_ _ _ q=>q)
def Un.refl:Un fs ex H H h h:=Un.kept λ_ _ q=>q
theorem Un.laid(k:∀b u,h.get? b\u->h'.get? b\u)(T:h.objs.size<=a)(Y:H a=none):Un fs ex H (upd H a o) h h' where
 keep:=λb u q _ _ _=>k b u q
 slot:=λb u q _ _ _=>(u.slots,k b u q)
 free:=λb u q n _=>by rw[qm (gn (iu (cj q) T))];exact n
 there:=λb u q _=>(u,k b u q)
 Y9:=λb G q=>by rw[qm (qt q Y)];exact q
 adq:=λb u G q=>by rw[qm (qt q Y)];exact q
def Un.write(T:Mut (H x))(N:e=x\/H e\(.own x))(k:∀b u,b≠e->h.get? b\u->h'.get? b\u)(G:∃u,h'.get? e\u):Un fs ex H (upd H x o) h h':=by
 have J:∀b,H b=none->b≠x:=λb n z=>by subst z;rw[n]at T;exact T
 have B:∀b,H b=none->b≠e:=λb n z=>by
  subst z;rcases N with r|r
  .exact J b n r
  .rw[n]at r;cases r
 have O:∀b u,H b\u->¬Mut (some u)->b≠x:=λb u q C z=>by subst z;rw[q]at T;exact C T
 refine(λb u q n _ _=>k b u (B b n) q,λb u q n _ _=>(u.slots,k b u (B b n) q),λb u q n _=>by rw[qm (J b n)];exact n,λb u q _=>?_,
  λb L q=>by rw[qm (O b _ q λz=>z)];exact q,λb u L q=>by rw[qm (O b _ q λz=>z)];exact q)
 by_cases Y:b=e
 .subst Y;exact G
 .exact(u,k b u Y q)
noncomputable def trk(h:Heap)(H:Hp):List Addr:=(List.range h.objs.size).filter λa=>(H a).isSome
def adt(h:Heap)(H:Hp):Heap:=PySem.W.hideAll h (trk h H)
def am1(h:Heap)(H:Hp):(adt h H).objs.size=h.objs.size:=PySem.W.hideAll_size _ _
def aq7(e:h.get? b\o)(n:H b=none):(adt h H).get? b\o:=
 PySem.W.hideAll_get _ e λY=>by have q:(H b).isSome=true:=(je.mp Y).2;rw[n]at q;simp at q
def axq(e:(adt h H).get? b\o):h.get? b\o/\H b=none:=by
 have Y:h.get? b\o:=PySem.W.of_hideAll (trk h H) e;refine(Y,?_);cases q:H b with
 |none=>rfl
 |some x =>
  have T:b∈trk h H:=je.mpr (jh.mpr (cj Y),by simp[q]);have z:(adt h H).get? b=none:=PySem.W.hideAll_none (trk h H) T;rw[z]at e;cases e
end L2
namespace L2
open PySem PySem.Spec PyProof.Rows
structure Mod(K:Fg)(mg:Zs)(base:Heap):Prop where
 kin:K.In base
 glob:base.Ns mainGlobals mg
 blt:∃mb,base.Ns builtinsNs mb/\∀x:Str,x≠"__name__"-> mb x=bootBuiltins x
 nolimit:base.NoLimit
structure Cx where
 prog:Program
 w:World
 K:Fg
 mg:Str->Option Value
 base:Heap
 A:Around
 N:List Str
 s₀:Shared
 H₀:Hp
 env:Env
 outer:List Env
 stack:List Env
 ex:List Addr
 fn:Str->Bool
 calm:Bool
 pn:List (Addr×Obj)
 xe:Value->Shared->Prop
noncomputable def frs(l:List Env):List Addr:=l.filterMap (·.frame)
abbrev Cx.fs(X:Cx):List Addr:=frs X.outer
def Vis(Y:Scope)(x:Str):Prop:=Y.names.lookup x\.local\/Y.names.lookup x\.cell\/Y.names.lookup x\.free
def Loc(Y:Scope)(x:Str):Prop:=Y.names.lookup x\.local\/Y.names.lookup x\.cell
def Look(Y:Env)(h:Heap)(m:Zs)(x:Str)(u:Value):Prop:=
 (Y.kindOf x\.local/\m x\u)\/((Y.kindOf x\.cell\/Y.kindOf x\.free)/\∃c,Y.cells.lookup x\c/\h.IsCell c (some u))
structure Cx.Ok(X:Cx):Prop where
 mod:Mod X.K X.mg X.base
 kind:X.env.scope.kind=.function
 glob:X.env.globals=mainGlobals
 blt:X.env.builtins=builtinsNs
 above:X.s₀.heap.objs.size<=X.env.locals
 inj:∀x y c,X.env.cells.lookup x\c->X.env.cells.lookup y\c->x=y
 has:∀x,(X.env.kindOf x\.cell\/X.env.kindOf x\.free)->∃c,X.env.cells.lookup x\c
 cab:∀x c,X.fn x=true->X.env.cells.lookup x\c->X.s₀.heap.objs.size<=c
 hd:X.calm=true->X.A.handled=none
 frames:X.A.frames\X.stack
 stk:X.stack=X.outer\/(X.stack=X.env::X.outer/\X.env.frame\X.env.locals)
 exf:∀b∈X.ex,b≠X.env.locals/\∀x c,X.env.cells.lookup x\c->c≠b
 bs:∀b o,X.base.get? b\o->X.s₀.heap.get? b\o/\X.H₀ b=none
 bsz:X.base.objs.size<=X.s₀.heap.objs.size
 aq9:∀b o,X.base.get? b\o->b∉X.ex
 axs:∀b∈X.ex,b∉X.fs
 Xo:X.s₀.heap.FunFrames X.base X.outer
 frf:∀b∈X.fs,X.H₀ b=none
structure Inv(X:Cx)(pins:Zp)(σ:List (Option V))(H:Hp)(s:Shared):Prop where
 ok:X.Ok
 os:s.os=X.s₀.os
 bare:AllBare s.gens
 base:Un X.fs X.ex X.H₀ H X.s₀.heap s.heap
 loc:∃m,s.heap.Ns X.env.locals m/\∀(i:Nat)(x:Str)(v:V),X.N[i]?\x->σ[i]?\(some v)->Vis X.env.scope x->∃u,RelV v u/\Look X.env s.heap m x u
 cell:∀x c,X.env.cells.lookup x\c->∃v,s.heap.IsCell c v
 free:H X.env.locals=none
 Q0:∀x c,X.env.cells.lookup x\c->H c=none
 pin:∀p∈X.pn++pins,s.heap.get? p.1\p.2/\H p.1=none/\p.1≠X.env.locals/\p.1∉X.fs/\∀v,p.2.data≠.cell v
 Bv:Tv X.prog X.w H s.heap
 len:σ.length=X.N.length
def Cx.Ok.bhg{X:Cx}(ok:X.Ok)(e:X.base.get? b\o):b∉X.fs:=λY=>by have:=(ok.Xo.mem Y).1;rw[e]at this;cases this
theorem Inv.bs(I:Inv X pins σ H s):∀b o,X.base.get? b\o->s.heap.get? b\o/\H b=none:=λb o e =>
 (I.base.keep b o (I.ok.bs b o e).1 (I.ok.bs b o e).2 (I.ok.bhg e) (I.ok.aq9 b o e),I.base.free b o (I.ok.bs b o e).1 (I.ok.bs b o e).2 (I.ok.aq9 b o e))
def Inv.bk(I:Inv X pins σ H s):∀b o,X.base.get? b\o->s.heap.get? b\o:=λb o e=>(I.bs b o e).1
theorem Inv.mod(I:Inv X pins σ H s):Mod X.K X.mg X.base:=I.ok.mod
def Inv.kIn(I:Inv X pins σ H s):X.K.In s.heap:=I.ok.mod.kin.keeps I.bk
theorem Inv.lt(I:Inv X pins σ H s):X.env.locals<s.heap.objs.size:=let (_,hn,_):=I.loc;hn.lt
def Inv.sz(I:Inv X pins σ H s):X.s₀.heap.objs.size<=s.heap.objs.size:=gh I.ok.above (xq I.lt)
def Inv.a4t(I:Inv X pins σ H s)(h:s.heap.objs.size<=a):a∉X.fs:=λT=>by let(_,o,Y,_):=I.ok.Xo.mem T;exact absurd (iu (cj Y) (gh I.sz h)) (o8 _)
def Inv.cne(I:Inv X pins σ H s):∀x c,X.env.cells.lookup x\c->c≠X.env.locals:=λx c e z=>by let(v,o,J,G):=I.cell x c e;let(m,(C,B,O,Y,T,_),_):=I.loc;rw[z,Y]at J;cases J;rw[T]at G;cases G
theorem Inv.Xo(I:Inv X pins σ H s):s.heap.FunFrames X.base X.outer:=by
 have all:∀(l:List Env),(∀b∈frs l,b∈X.fs)->X.s₀.heap.FunFrames X.base l->s.heap.FunFrames X.base l:=by
  intro l
  induction l with
  |nil=>intro _ _;trivial
  |cons B r E =>
   intro J O;let(C,(L,o,G,S,R,N),P):=O;have Y:L∈X.fs:=J L (by unfold frs;rw[List.filterMap_cons,G];exact dw);let(Q,e):=I.base.slot L o R (I.ok.frf L Y) Y λz=>I.ok.axs L z Y
   exact(C,(L,_,G,S,e,N),E (λb T=>J b (by unfold frs;rw[List.filterMap_cons,G];exact bu _ T)) P)
 exact all X.outer (λ_ T=>T) I.ok.Xo
theorem Inv.stack(I:Inv X pins σ H s):s.heap.FunFrames X.base X.stack:=by
 rcases I.ok.stk with e|⟨e,hf⟩
 .rw[e];exact I.Xo
 .rw[e]
  let(m,Y,_):=I.loc;refine .cons (by rw[I.ok.kind];decide) hf Y ?_ I.Xo;exact Heap.get?_none_of_le (gh I.ok.bsz I.ok.above)
def Inv.adu(I:Inv X pins σ H s):∀b∈frs X.stack,b∈X.env.locals::X.fs:=λb Y=>by
 rcases I.ok.stk with e|⟨e,hf⟩
 .rw[e]at Y;exact bu _ Y
 .rw[e]at Y
  unfold frs at Y;rw[List.filterMap_cons,hf]at Y;exact Y
def Inv.akm(I:Inv X pins σ H s):∀b∈frs X.stack,H b=none:=λb Y=>by
 rcases dh.mp (I.adu b Y)with e|Y
 .rw[e];exact I.free
 .let(_,o,T,_):=I.ok.Xo.mem Y
  exact I.base.free b o T (I.ok.frf b Y) λz=>I.ok.axs b z Y
def Inv.step{ch:X9}(I:Inv X pins σ H s)(G:∀b∈ch,(b∈X.ex\/X.s₀.heap.objs.size<=b)/\b≠X.env.locals/\(∀x c,X.env.cells.lookup x\c->c≠b)/\∀p∈X.pn++pins,p.1≠b)(keep:∀b o,b≠X.env.locals->b∉X.fs->b∉ch->s.heap.get? b\o->H b=none->U.get? b\o)(O:∀b o,b≠X.env.locals->b∈X.fs->b∉ch->s.heap.get? b\o->H b=none->∃sl,U.get? b=some { o with slots:=sl })(free:∀b o,b∉ch->s.heap.get? b\o->H b=none->H' b=none)(L:∀b o,b∉ch->s.heap.get? b\o->∃o',U.get? b\o')(f:∀b Z,H b\(.tup Z)->H' b\(.tup Z))(Q:∀b o u,H b\(.Um o u)->H' b\(.Um o u))(A:∀m,s.heap.Ns X.env.locals m->U.Ns X.env.locals m)(y:Tv X.prog X.w H' U)(t:AllBare g') :
 Inv X pins σ H' { s with heap:=U,gens:=g',drawn:=d',toks:=t' }:=by
 have P:∀b o,X.s₀.heap.get? b\o->b≠X.env.locals:=λb o e=>gn (iu (cj e) I.ok.above)
 have B:∀b o,X.s₀.heap.get? b\o->b∉X.ex->b∉ch:=λb o e Y C=>by
  rcases(G b C).1 with z|z
  .exact Y z
  .exact absurd (iu (cj e) z) (o8 _)
 have J:∀x c,X.env.cells.lookup x\c->∀v,s.heap.IsCell c v->U.IsCell c v:=λx c e v (o,E,R)=>by
  have T:c∉ch:=λz=>(G c z).2.2.1 x c e rfl
  by_cases K:c∈X.fs
  .let(sl,q):=O c o (I.cne x c e) K T E (I.Q0 x c e)
   exact(_,q,R)
  .exact(o,keep c o (I.cne x c e) K T E (I.Q0 x c e),R)
 refine(I.ok,I.os,t,(λb o e n C Y=>?_,λb o e n C Y=>?_,λb o e n Y=>?_,λb o e Y=>?_,λb Z e=>f b Z (I.base.Y9 b Z e),λb o Z e=>Q b o Z (I.base.adq b o Z e)),?_,λx c e=>?_,?_,λx c e=>?_,λp M=>?_,y,I.len)
 .exact keep b o (P b o e) C (B b o e Y) (I.base.keep b o e n C Y) (I.base.free b o e n Y)
 .let(sl,N):=I.base.slot b o e n C Y
  let(S,V):=O b _ (P b o e) C (B b o e Y) N (I.base.free b o e n Y);exact(S,V)
 .let(o',N):=I.base.there b o e Y
  exact free b o' (B b o e Y) N (I.base.free b o e n Y)
 .let(o',N):=I.base.there b o e Y
  exact L b o' (B b o e Y) N
 .let(m,j,D):=I.loc
  refine(m,A m j,λi x v N V g=>?_);let(u,r,l):=D i x v N V g;refine(u,r,?_);rcases l with l|⟨k,c,e,z⟩
  .exact .inl l
  .exact .inr (k,c,e,J x c e _ z)
 .let(v,z):=I.cell x c e
  exact(v,J x c e v z)
 .let(m,(o,_,_,E,_),_):=I.loc
  exact free _ o (λz=>(G _ z).2.1 rfl) E I.free
 .let(v,o,E,R):=I.cell x c e
  exact free c o (λz=>(G c z).2.2.1 x c e rfl) E (I.Q0 x c e)
 .let(e,n,F,W,d):=I.pin p M
  have T:p.1∉ch:=λz=>(G p.1 z).2.2.2 p M rfl
  exact(keep p.1 p.2 F W T e n,free p.1 p.2 T e n,F,W,d)
def Inv.un(I:Inv X pins σ H s)(u:Un X.fs [] H Z s.heap h')(C:Tv X.prog X.w Z h'):Inv X pins σ Z { s with heap:=h',toks:=t' }:=by
 let(m,(o,E,S,B,r),_):=id I.loc;let(P,O):=u.any B I.free (by simp);exact I.step (g':=s.gens) (d':=s.drawn) (ch:=[]) (λ_ z=>nomatch z) (λb o _ G _ e n=>u.keep b o e n G (by simp)) (λb o _ G _ e n=>u.slot b o e n G (by simp)) (λb o _ e n=>u.free b o e n (by simp)) (λb o _ e=>u.there b o e (by simp)) u.Y9 u.adq (λR N=>by
  let(Q,J,T,Y,L):=N;rw[B]at Y;cases Y;exact(_,J,T,O,L)) C I.bare
def Inv.call(I:Inv X pins σ H s)(u:Un (frs X.stack) ch H Z s.heap h')(N:Tv X.prog X.w Z h')(E:AllBare g')(G:∀b∈ch,(b∈X.ex\/X.s₀.heap.objs.size<=b)/\b≠X.env.locals/\(∀x c,X.env.cells.lookup x\c->c≠b)/\∀p∈X.pn++pins,p.1≠b) :
 Inv X pins σ Z { s with heap:=h',gens:=g',drawn:=d',toks:=t' }:=by
 let(m,(o,S,W,C,r),_):=id I.loc;let(Q,B):=u.any C I.free λz=>(G _ z).2.1 rfl
 exact I.step (ch:=ch) G (λb o B L Y e n=>u.keep b o e n (λz=>(dh.mp (I.adu b z)).elim B L) Y) (λb o _ _ Y e n=>u.any e n Y) (λb o Y e n=>u.free b o e n Y) (λb o Y e=>u.there b o e Y) u.Y9 u.adq (λV P=>by
  let(F,O,J,T,R):=P;rw[C]at T;cases T;exact(_,O,J,B,R)) N E
def Inv.turned(I:Inv X pins σ H s)(k:∀b o,b≠it->s.heap.get? b\o->Z.get? b\o)(R:H it=none)(G:it≠X.env.locals)(N:it∈X.ex\/X.s₀.heap.objs.size<=it)(O:∀x c,X.env.cells.lookup x\c->c≠it)(J:∀p∈X.pn++pins,p.1≠it):Inv X pins σ H { s with heap:=Z,toks:=t' }:=by
 have T:∀b u,H b\u->b≠it:=λb u e z=>by rw[z,R]at e;cases e
 refine I.step (g':=s.gens) (d':=s.drawn) (ch:=[it]) (λb C=>?_) (λb o _ _ Y e _=>k b o (λz=>Y (by simp[z])) e) (λb o _ _ Y e _=>(o.slots,k b o (λz=>Y (by simp[z])) e)) (λ_ _ _ _ n=>n)
  (λb o Y e=>(o,k b o (λz=>Y (by simp[z])) e)) (λ_ _ e=>e) (λ_ _ _ e=>e) (λm L=>?_) (λb u e=>?_) I.bare
 .have e:b=it:=by simpa using C
  subst e;exact(N,G,O,J)
 .let(o,B,P,E,r):=L
  exact(o,B,P,k _ o (lg G) E,r)
 .refine(I.Bv b u e).stay (λc v Y q=>k c v ?_ q) (λ_ q=>q) λ_ _ q=>q
  rcases Y with z|z
  .rw[z];exact T b u e
  .exact T c _ z
def Inv.tok(I:Inv X pins σ H s)(t:Nat):Inv X pins σ H { s with toks:=t }:=I.un (h':=s.heap) (t':=t) Un.refl I.Bv
theorem Inv.kept(I:Inv X pins σ H s)(k:∀b u,s.heap.get? b\u->Z.get? b\u):Inv X pins σ H { s with heap:=Z,toks:=t' }:=I.un (Un.kept k) (I.Bv.kept k)
theorem Inv.laid(I:Inv X pins σ H s)(k:∀b u,s.heap.get? b\u->h'.get? b\u)(Y:s.heap.objs.size<=a)(new:Ci X.prog X.w (upd H a o) h' a o) :
 Inv X pins σ (upd H a o) { s with heap:=h',toks:=t' }:=I.un (Un.laid k Y (I.Bv.fresh Y)) (I.Bv.laid k Y new)
theorem Inv.write(I:Inv X pins σ H s)(T:Mut (H x))(G:e=x\/H e\(.own x))(k:∀b u,b≠e->s.heap.get? b\u->Z.get? b\u)(Y:∃u,Z.get? e\u)(new:Ci X.prog X.w (upd H x o) Z x o):Inv X pins σ (upd H x o) { s with heap:=Z,toks:=t' }:=I.un (Un.write T G k Y) (I.Bv.write T G k Y new)
def Inv.weak(I:Inv X pins σ H s)(G:σ'.length=σ.length)(w:∀(i:Nat) v,σ'[i]?\(some v)->σ[i]?\(some v)):Inv X pins σ' H s:=
 (I.ok,I.os,I.bare,I.base,let (m,hn,hl'):=I.loc;(m,hn,λi x v Y J T=>hl' i x v Y (w i v J) T),I.cell,I.free,I.Q0,I.pin,I.Bv,G.trans I.len)
def Inv.U6(I:Inv X pins σ H s)(h:∀p∈akn,s.heap.get? p.1\p.2/\H p.1=none/\p.1≠X.env.locals/\p.1∉X.fs/\∀v,p.2.data≠.cell v):Inv X akn σ H s:=
 (I.ok,I.os,I.bare,I.base,I.loc,I.cell,I.free,I.Q0,λp Y=>(dz.mp Y).elim (λz=>I.pin p (qu _ z)) (h p),I.Bv,I.len)
def Hj{N:Yf}(T:N.Nodup){i:Nat}(a:N[i]?\x)(b:N[j]?\x):i=j:=by let(B,Y):=ao.mp a;let(J,G):=ao.mp b;exact(List.getElem_inj T).mp (Y.trans G.symm)
def am2(I:Inv X pins σ H s)(hN:X.N.Nodup)(V:X.N[i]?\x)(B:Loc X.env.scope x)(r:RelV v u)(h:∀U,Inv X pins (σ.set i (some v)) H U->(∃a,Heap.SameBut a s.heap U.heap/\(a=X.env.locals\/X.env.cells.lookup x\a))->Q () U)(hf:autoParam (X.fn x=true\/X.env.scope.names.lookup x\.local) aU1._auto_1):wpAny M A (storeName X.env x u) Q E s:=by
 let(m,hn,hl):=id I.loc;have qk:(X.env.scope.kind==.class||(X.env.scope.kind==.module&&X.env.locals != X.env.globals))=false:=by rw[I.ok.kind];rfl
 have C:i < σ.length:=by rw[I.len];exact(ao.mp V).1
 have cne:=I.cne;have T:∀{a:Addr}{h':Heap},(∃o,s.heap.get? a\o/\H a=none)->Heap.SameBut a s.heap h'->Tv X.prog X.w H h':=fun{a h'} ha Y b ob e=>by
  let(_,_,Tw):=ha;refine(I.Bv b ob e).stay (λc D J q=>(Y.2 c ?_).trans q) (λ_ q=>q) λ_ _ q=>q
  rintro rfl;rcases J with rfl|J
  .rw[Tw]at e;cases e
  .rw[Tw]at J;cases J
 rcases B with hk|hk
 .refine wpAny_storeName_local hk hn (λh' Rx Y=>?_) qk
  let(oL,_,_,qq,_):=id hn;refine h _ (I.ok,I.os,I.bare,(λb o e n P B=>?_,λb o e n P B=>?_,I.base.free,λb o e B=>?_,I.base.Y9,I.base.adq),(_,Rx,λj y v' G O e3=>?_),λy c e=>?_,I.free,I.Q0,λp hp=>?_,T (oL,qq,I.free) Y,by simpa using I.len) (_,Y,.inl rfl)
  .exact(Y.2 b (gn (iu (cj e) I.ok.above))).trans (I.base.keep b o e n P B)
  .let(sl,G):=I.base.slot b o e n P B
   exact(sl,(Y.2 b (gn (iu (cj e) I.ok.above))).trans G)
  .let(o',G):=I.base.there b o e B
   exact(o',(Y.2 b (gn (iu (cj e) I.ok.above))).trans G)
  .by_cases L:j=i
   .subst L
    rw[V]at G;cases G;rw[Az C]at O;cases O;exact(u,r,.inl (hk,by simp))
   .rw[v8 (lg L)]at O
    let(u',r',q):=hl j y v' G O e3;refine(u',r',?_);rcases q with⟨k,e⟩|⟨k,c,e,z⟩
    .refine .inl (k,?_)
     have:y≠x:=λe=>L (Hj hN G (e▸V))
     simp[this,e]
    .exact .inr (k,c,e,z.sameBut Y (cne y c e))
  .let(D,z):=I.cell y c e
   exact(D,z.sameBut Y (cne y c e))
  .let(e,n,K,nf,d):=I.pin p hp
   exact((Y.2 p.1 K).trans e,n,K,nf,d)
 .have R:X.fn x=true:=by
   rcases hf with z|z
   .exact z
   .rw[z]at hk;cases hk
  let(c,J):=I.ok.has x (.inl hk);let(D,z):=I.cell x c J;refine wpAny_storeName_cell I.ok.kind hk J z (λh' F Y=>?_);let(oc,W,qv):=id z;refine h { s with heap:=h' } (I.ok,I.os,I.bare,(λb o e n P B=>?_,λb o e n P B=>?_,I.base.free,λb o e B=>?_,I.base.Y9,I.base.adq),(m,hn.sameBut Y (lg (cne x c J)),λj y v' G O e3=>?_),λy Z e=>?_,I.free,I.Q0,λp hp=>?_,T (oc,W,I.Q0 x c J) Y,by simpa using I.len) (c,Y,.inr J)
  .exact(Y.2 b (gn (iu (cj e) (I.ok.cab x c R J)))).trans (I.base.keep b o e n P B)
  .let(sl,G):=I.base.slot b o e n P B
   exact(sl,(Y.2 b (gn (iu (cj e) (I.ok.cab x c R J)))).trans G)
  .let(o',G):=I.base.there b o e B
   exact(o',(Y.2 b (gn (iu (cj e) (I.ok.cab x c R J)))).trans G)
  .by_cases L:j=i
   .subst L
    rw[V]at G;cases G;rw[Az C]at O;cases O;exact(u,r,.inr (.inl hk,c,J,F))
   .rw[v8 (lg L)]at O
    let(u',r',q):=hl j y v' G O e3;refine(u',r',?_);rcases q with q|⟨k,Z,e,z'⟩
    .exact .inl q
    .refine .inr (k,Z,e,z'.sameBut Y ?_)
     rintro rfl;exact L (Hj hN G (I.ok.inj _ _ _ e J▸V))
  .by_cases S:Z=c
   .subst S;exact(_,F)
   .let(w2,z2):=I.cell y Z e
    exact(w2,z2.sameBut Y S)
  .let(e,n,K,nf,d):=I.pin p hp
   refine((Y.2 p.1 ?_).trans e,n,K,nf,d);intro q;rw[q,W]at e;have q':oc=p.2:=mj e;exact d D (by rw[<-q'];exact qv)
def arb(I:Inv X pins σ H s)(G:X.N.Nodup)(T:X.N[i]?\x)(J:Loc X.env.scope x)(r:RelV v u)(h:∀Z,Inv X pins (σ.set i (some v)) H Z->Q () Z)(B:autoParam (X.fn x=true\/X.env.scope.names.lookup x\.local) aU1._auto_1):wpAny M A (storeName X.env x u) Q E s:=
 am2 I G T J r (λZ Y _=>h Z Y) B
def Inv.call'(I:Inv X pins σ H s)(C:s'.os=s.os)(u:Un (frs X.stack) ch H Z s.heap s'.heap)(B:Tv X.prog X.w Z s'.heap)(O:AllBare s'.gens)(Y:∀b∈ch,(b∈X.ex\/X.s₀.heap.objs.size<=b)/\b≠X.env.locals/\(∀x c,X.env.cells.lookup x\c->c≠b)/\∀p∈X.pn++pins,p.1≠b):Inv X pins σ Z s':=by let(L,T,G,J,N):=s';have e:N=s.os:=C;subst e;exact I.call (g':=T) (t':=J) (d':=G) u B O Y
abbrev XK:=Value->Option Addr->Hp->Prop
abbrev St:=List (Option V)
abbrev VK:=V->Hp->Prop
abbrev TE:=St->Hp->VK->Prop
abbrev TT:=St->Hp->(Bool->Hp->Prop)->Prop
abbrev TA:=St->Hp->(List V->Hp->Prop)->Prop
structure Ends where
 nx:St->Hp->Prop
 rt:VK
 bk:St->Hp->Prop:=λ_ _=>False
 ct:St->Hp->Prop:=λ_ _=>False
abbrev TS:=Ends->St->Hp->Prop
def EP(X:Cx)(Y:Zp)(G:St)(Q:VK)(u:Value)(J:Shared):Prop:=∃v T,Inv X Y G T J/\RelV v u/\Q v T
def TP(X:Cx)(Y:Zp)(G:St)(Q:Bool->Hp->Prop)(b:Bool)(J:Shared):Prop:=∃T,Inv X Y G T J/\Q b T
def AP(X:Cx)(Y:Zp)(J:St)(Q:List V->Hp->Prop)(O:Zl)(B:Shared):Prop:=∃G T,Inv X Y J T B/\Vals G O/\Q G T
def SP(X:Cx)(T:Zp)(D:Ends)(f:Flow)(J:Shared):Prop:=
 match f with
 |.next=>∃Y G,Inv X T Y G J/\D.nx Y G|.brk=>∃Y G,Inv X T Y G J/\D.bk Y G|.cont=>∃Y G,Inv X T Y G J/\D.ct Y G|.ret u=>∃v Y G,Inv X T Y G J/\RelV v u/\D.rt v G
def PE(X:Cx)(e:Expr)(t:TE):Prop:=
 ∀(Y:Zp)(s:Shared)(T:St)(H:Hp)(Q:VK),Inv X Y T H s->t T H Q->wpAny (model X.prog X.w) X.A (eval e X.env) (EP X Y T Q) X.xe s
def PT(X:Cx)(e:Expr)(t:TT):Prop:=
 ∀(Y:Zp)(s:Shared)(T:St)(H:Hp)(Q:Bool->Hp->Prop),Inv X Y T H s->t T H Q->wpAny (model X.prog X.w) X.A (isTrue e X.env (eval e X.env)) (TP X Y T Q) X.xe s
def PW(X:Cx)(e:Expr)(t:TT):Prop:=
 ∀(T:Sem Value)(Y:Zp)(s:Shared)(G:St)(H:Hp)(Q:Bool->Hp->Prop),Inv X Y G H s->t G H Q->wpAny (model X.prog X.w) X.A (isTrue e X.env T) (TP X Y G Q) X.xe s
def PW.pt(h:PW X e t):PT X e t:=h _
def PA(X:Cx)(G:Ya)(t:TA):Prop:=
 ∀(pos:Pos)(Y:Zp)(s:Shared)(T:St)(H:Hp)(Q:List V->Hp->Prop),Inv X Y T H s->t T H Q->wpAny (model X.prog X.w) X.A (spliced (backTo pos (starEach G X.env))) (AP X Y T Q) X.xe s
def PS(X:Cx)(st:Stmt)(t:TS):Prop:=
 ∀(Y:Zp)(s:Shared)(T:St)(H:Hp)(D:Ends),Inv X Y T H s->t D T H->wpAny (model X.prog X.w) X.A (exec st X.env) (SP X Y D) X.xe s
def U7(X:Cx)(st:List Stmt)(t:TS):Prop:=
 ∀(Y:Zp)(s:Shared)(T:St)(H:Hp)(D:Ends),Inv X Y T H s->t D T H->wpAny (model X.prog X.w) X.A (execs st X.env) (SP X Y D) X.xe s
def Ko(h:wpAny M A t Q E s)(Y:∀a s,Q a s->Z a s):wpAny M A t Z E s:=kj h Y λ_ _ x=>x
def R9(h:wpAny M A t (EP X pins σ Q) E s)(k:∀a s x H,Inv X pins σ H s->RelV x a->Q x H->Z a s):wpAny M A t Z E s:=Ko h λ_ _ z=>by let(_,_,i,r,q):=z;exact k _ _ _ _ i r q
def thA(h:wpAny M A t (AP X pins σ Q) E s)(k:∀a s x H,Inv X pins σ H s->Vals x a->Q x H->Z a s):wpAny M A t Z E s:=Ko h λ_ _ z=>by let(_,_,i,r,q):=z;exact k _ _ _ _ i r q
def thT(h:wpAny M A t (TP X pins σ Q) E s)(k:∀a s H,Inv X pins σ H s->Q a H->Z a s):wpAny M A t Z E s:=Ko h λ_ _ z=>by let(_,i,q):=z;exact k _ _ _ i q
end L2
namespace L2
open PySem PySem.Spec PyProof.Rows
def bhk(i:Nat):TE:=λY H Q=>∃v,Y[i]?\(some v)/\Q v H
def tC(v:V):TE:=λ_ H Q=>Q v H
def a4w(E:X.N[i]?\x)(R:Vis X.env.scope x)(J:autoParam ((x==("__debug__": Str))=false) aU2._auto_1)(B:autoParam ((x==("__classdict__": Str))=false) aU2._auto_1):PE X (.Name x pos) (bhk i):=by
 intro T s C H Q I h;let(v,e,h):=h;let(m,S,L):=I.loc;let(u,r,l):=L i x v E e R;have fin:EP X T C Q u s:=(v,H,I,r,h);rcases l with⟨Y,P⟩|⟨Y,c,O,G⟩
 .exact wpAny_Name (wpAny_loadName_local I.ok.kind Y S P fin) J
 .rcases Y with Y|Y
  .exact wpAny_Name (wpAny_loadName_cell I.ok.kind Y O G fin) J
  .exact wpAny_Name (wpAny_loadName_free I.ok.kind Y O G fin B) J
def a4x:PE X (.Constant (.int i) j pos) (tC (.int i)):=λ_ _ _ H _ I h=>wpAny_Constant_int (.int i,H,I.tok _,(_,rfl),h)
def ba5:PE X (.Constant (.bool b) j pos) (tC (.bl b)):=λ_ _ _ H _ I h=>Constant_bool (.bl b,H,I,rfl,h)
def a4y:PE X (.Constant .none j pos) (tC .non):=λ_ _ _ H _ I h=>Constant_none (.non,H,I,rfl,h)
def Gl(X:Cx)(x:Str):Prop:=X.env.kindOf x\.globalImplicit
def adw(I:Inv X pins σ H s)(T:Gl X x)(G:X.mg x\u)(h:Q u s)(Y:autoParam ((x==("__debug__": Str))=false) aU2._auto_1):wpAny (model X.prog X.w) X.A (eval (.Name x pos) X.env) Q E s:=
 Calls.Name_function_global I.ok.kind T (Calls.loadGlobal_global (by rw[I.ok.glob];exact I.mod.glob.keeps I.bk) G h) Y
def Eg(I:Inv X pins σ H s)(J:Gl X x)(B:X.mg x=none)(O:bootBuiltins x\u)(h:Q u s)(C:autoParam (x≠"__name__") aU2._auto_1)(Y:autoParam ((x==("__debug__": Str))=false) aU2._auto_1):wpAny (model X.prog X.w) X.A (eval (.Name x pos) X.env) Q E s:=by let(N,G,T):=I.mod.blt;exact Calls.Name_function_global I.ok.kind J (Calls.loadGlobal_builtin (by rw[I.ok.glob];exact I.mod.glob.keeps I.bk) B (by rw[I.ok.blt];exact G.keeps I.bk) ((T x C).trans O) h) Y
def axt(T:Gl X x)(G:X.mg x\u)(r:RelV v u)(Y:autoParam ((x==("__debug__": Str))=false) aU2._auto_1):PE X (.Name x pos) (tC v):=
 λ_ _ _ H _ I h=>adw I T G (v,H,I,r,h) Y
def PC(X:Cx)(B:CmpOp)(a b:Expr)(t:TE):Prop:=
 ∀(Y:Zp)(s:Shared)(J:St)(H:Hp)(Q:VK),Inv X Y J H s->t J H Q ->
  wpAny (model X.prog X.w) X.A (eval a X.env) (λv T=>wpAny (model X.prog X.w) X.A (eval b X.env) (λu G=>wpAny (model X.prog X.w) X.A (compareOp B v u) (EP X Y J Q) X.xe G) X.xe T) X.xe s
def af2(b:Expr)(h:op≠.In)(T:op≠.NotIn):behindInMarks op b=false:=by
 have Y:(op==CmpOp.In)=false:=by cases op<;>first|rfl|exact absurd rfl h
 have G:(op==CmpOp.NotIn)=false:=by cases op<;>first|rfl|exact absurd rfl T
 cases b<;>simp[behindInMarks,Y,G]
def tB(t:TE):TT:=λY H Q=>t Y H λx T=>∃c,x=.bl c/\Q c T
def a4z(h:PC X op a b t)(J:autoParam (behindInMarks op b=false) aU3._auto_1):PE X (.Compare a [op] [b] pos) t:=λY s T H Q I G=>wpAny_Compare1 (h Y s T H Q I G) J
def a5a(h:PC X op a b t)(T:autoParam (behindInMarks op b=false) aU3._auto_1):PT X (.Compare a [op] [b] pos) (tB t):=by intro Y s G H Q I N;refine wpAny_isTrue_Compare1 (Ko (h Y s G H _ I N) λv L T=>Ko T λu P B=>R9 B λc E x J I1 C O=>?_) T;let(d,rfl,q):=O;cases C;exact nq (J,I1,q)
def a5b(h:PE X e t)(J:autoParam (∀Z,isTrue e X.env Z=(do let v<-Z;standAt e.pos;holding [v] (truthy v))) aU4._auto_1):PT X e (tB t):=by intro Y s T H Q I C;refine isTrue_plain (R9 (h Y s T H _ I C) λv N x G I1 O B=>?_) (J _);let(d,rfl,q):=B;cases O;exact nq (G,I1,q)
def bhl(t u:TT):TT:=λY H Q=>t Y H λc T=>if c=true then u Y T Q else Q false T
def tOr(t u:TT):TT:=λY H Q=>t Y H λc T=>if c=true then Q true T else u Y T Q
def bhm(t:TT):TT:=λY H Q=>t Y H λc T=>Q (!c) T
def axu(T:PT X a tA):PW X (.BoolOp .And [a] pos) tA:=by
 intro J Y s G H Q I h;refine isTrue_and (Ko (T Y s G H Q I h) λc B e=>?_);cases c with
 |true=>exact isTrue_and_nil e|false=>exact e
def a5c(T:PT X a tA):PW X (.BoolOp .Or [a] pos) tA:=by
 intro J Y s G H Q I h;refine isTrue_or (Ko (T Y s G H Q I h) λc B e=>?_);cases c with
 |false=>exact isTrue_or_nil e|true=>exact e
def a5d{T:Ya}(C:PT X a tA)(L:PW X (.BoolOp .And (b::T) pos) tB'):PW X (.BoolOp .And (a::b::T) pos) (bhl tA tB'):=by
 intro O Y s G H Q I h;refine isTrue_and (thT (C Y s G H _ I h) λc N J I1 B=>?_);cases c with
 |true=>exact L O Y N G J Q I1 B|false=>exact(J,I1,B)
def ba6{T:Ya}(C:PT X a tA)(L:PW X (.BoolOp .Or (b::T) pos) tB'):PW X (.BoolOp .Or (a::b::T) pos) (tOr tA tB'):=by
 intro O Y s G H Q I h;refine isTrue_or (thT (C Y s G H _ I h) λc N J I1 B=>?_);cases c with
 |true=>exact(J,I1,B)|false=>exact L O Y N G J Q I1 B
def a5e(G:PT X a tA):PT X (.UnaryOp .Not a pos) (bhm tA):=by intro Y s T H Q I h;exact isTrue_not (G Y s T H (λc J=>Q (!c) J) I h)
def ba7(G J:TE):TE:=λY H Q=>G Y H λx T=>∃c,x=.bl c/\if c=true then J Y T Q else Q (.bl false) T
def bho(G J:TE):TE:=λY H Q=>G Y H λx T=>∃c,x=.bl c/\if c=true then Q (.bl true) T else J Y T Q
def ba8(T:TE):TE:=λY H Q=>T Y H λx G=>∃c,x=.bl c/\Q (.bl (!c)) G
def a5f{T:Ya}(O:PE X a Z)(N:PE X (.BoolOp .And (b::T) pos) tb):PE X (.BoolOp .And (a::b::T) pos) (ba7 Z tb):=by
 intro Y s J H Q I h;refine BoolOp_and (R9 (O Y s J H _ I h) λv C x B I1 L G=>?_);let(c,rfl,G):=G;cases L;refine nq ?_;cases c with
 |true=>exact N Y C J B Q I1 G|false=>exact(.bl false,B,I1,rfl,G)
def ba9{T:Ya}(O:PE X a Z)(N:PE X (.BoolOp .Or (b::T) pos) tb):PE X (.BoolOp .Or (a::b::T) pos) (bho Z tb):=by
 intro Y s J H Q I h;refine BoolOp_or (R9 (O Y s J H _ I h) λv C x B I1 L G=>?_);let(c,rfl,G):=G;cases L;refine nq ?_;cases c with
 |false=>exact N Y C J B Q I1 G|true=>exact(.bl true,B,I1,rfl,G)
def a5g(J:PE X a Z):PE X (.UnaryOp .Not a pos) (ba8 Z):=by intro Y s G H Q I h;refine UnaryOp_ (R9 (J Y s G H _ I h) λv C x B I1 O T=>?_);let(c,rfl,T):=T;cases O;exact not_of (nq (.bl (!c),B,I1,rfl,T))
def tIf(t:TT)(G J:TE):TE:=λY H Q=>t Y H λc T=>if c=true then G Y T Q else J Y T Q
def arc(N:PT X c tA)(O:PE X a Z)(C:PE X b tb):PE X (.IfExp c a b pos) (tIf tA Z tb):=by
 intro Y s T H Q I h;refine wpAny_IfExp (thT (N Y s T H _ I h) λd G J I1 B=>?_);cases d with
 |true=>exact O Y G T J Q I1 B|false=>exact C Y G T J Q I1 B
end L2
namespace L2
open PySem PySem.Spec PyProof.Rows
def Kc(K:Fg)(H:Hp)(a:Addr)(T:List V):Prop:=
 Rd H a (.lst T) \/
  ∃(o:Obj)(Y:U1)(n:Nat),K.lookup a\o/\o.cls=.type "list"/\o.dict=none/\o.data=.seq Y n/\Y.size<=sizeLine/\Vals T Y.toList
def O9(K:Fg)(H:Hp)(a:Addr)(T:List V):Prop:=
 Rd H a (.tup T) \/
  ∃(o:Obj)(Y:U1)(n:Nat),K.lookup a\o/\o.cls=.type "tuple"/\o.data=.seq Y n/\Y.size<=sizeLine/\Vals T Y.toList
noncomputable def bhp:Value->Option V
 |.none=>some .non|.bool b=>some (.bl b)|.int i _=>some (.int i)|.str x _=>some (.str x)|.ref a=>some (.ref a)|_=>none
def RelV.abs(r:RelV x u):bhp u\x:=by
 cases x with
 |non=>cases r;rfl|bl _=>cases r;rfl|int _=>let(t,rfl):=r;rfl
 |str _=>let(t,rfl):=r;rfl
 |ref _=>cases r;rfl
def RelV.inj(r:RelV x u)(q:RelV y u):x=y:=mj (r.abs.symm.trans q.abs)
theorem Vals.inj{T ys:List V}{Y:Zl}(h:Vals T Y)(G:Vals ys Y):T=ys:=by
 induction h generalizing ys with
 |nil=>cases G;rfl|cons r t J=>cases G with|cons O B=>rw[r.inj O,J B]
def Kc.of{K:Fg}(h:H a\(.lst xs)):Kc K H a xs:=.inl (.inl h)
def O9.of{K:Fg}(h:H a\(.tup xs)):O9 K H a xs:=.inl (.inl h)
def Inv.list(I:Inv X pins σ H s)(h:Kc X.K H a U):∃Z:List Value,Vals U Z/\PlainL s.heap a Z.toArray/\U.length<=sizeLine:=by
 rcases h with h|⟨o,Z,n,hk,hc,hd,hs,hz,r⟩
 .let(z,Z,n,r,e):=h.ok I.Bv
  exact(Z,r,(_,n,e,rfl,rfl,rfl),z)
 .refine(Z.toList,r,(o,n,I.kIn a o hk,hc,hd,by simpa using hs),?_)
  have e:=r.length;simp only[u5]at e;exact a_ (f_ e) hz
def Inv.tuple(I:Inv X pins σ H s)(h:O9 X.K H a U):∃Z:List Value,Vals U Z/\IsTup s.heap a Z.toArray/\U.length<=sizeLine:=by
 rcases h with h|⟨o,Z,n,hk,hc,hs,hz,r⟩
 .let(z,Z,r,p):=h.ok I.Bv
  exact(Z,r,p.is,z)
 .refine(Z.toList,r,(o,I.kIn a o hk,hc,n,by simpa using hs),?_)
  have e:=r.length;simp only[u5]at e;exact a_ (f_ e) hz
def Inv.af3(I:Inv X pins σ H s)(h:Kc X.K H a Z)(J:Kc X.K H a ys):Z=ys:=by
 let(B,r,(o,n,e,_,_,d),_):=I.list h;let(its',G,(C,O,T,_,_,Y),_):=I.list J;rw[e]at T;cases T;rw[d]at Y;injection Y with d1 _
 have:B=its':=by simpa using t7 Array.toList d1
 subst this;exact r.inj G
def Inv.abl(I:Inv X pins σ H s)(h:O9 X.K H a Z)(J:O9 X.K H a ys):Z=ys:=by
 let(B,r,(o,e,_,n,d),_):=I.tuple h;let(its',G,(C,T,_,O,Y),_):=I.tuple J;rw[e]at T;cases T;rw[d]at Y;injection Y with d1 _
 have:B=its':=by simpa using t7 Array.toList d1
 subst this;exact r.inj G
noncomputable abbrev Cx.aay(X:Cx)(E:Y1):Cx:={ X with xe:=E }
abbrev Cx.nox(X:Cx):Cx:=X.aay λ_ _=>False
theorem Cx.Ok.aay{X:Cx}(ok:X.Ok)(E:Y1):(X.aay E).Ok:=
 (ok.mod,ok.kind,ok.glob,ok.blt,ok.above,ok.inj,ok.has,ok.cab,ok.hd,ok.frames,ok.stk,ok.exf,ok.bs,ok.bsz,ok.aq9,ok.axs,ok.Xo,ok.frf)
def Cx.Ok.Q3{X:Cx}(ok:(X.aay E).Ok):X.Ok:=
 (ok.mod,ok.kind,ok.glob,ok.blt,ok.above,ok.inj,ok.has,ok.cab,ok.hd,ok.frames,ok.stk,ok.exf,ok.bs,ok.bsz,ok.aq9,ok.axs,ok.Xo,ok.frf)
theorem Inv.aay(I:Inv X pins σ H s)(E:Y1):Inv (X.aay E) pins σ H s:=(I.ok.aay E,I.os,I.bare,I.base,I.loc,I.cell,I.free,I.Q0,I.pin,I.Bv,I.len)
theorem Inv.Q3(I:Inv (X.aay E) pins σ H s):Inv X pins σ H s:=(I.ok.Q3,I.os,I.bare,I.base,I.loc,I.cell,I.free,I.Q0,I.pin,I.Bv,I.len)
theorem SP.Q3(h:SP (X.aay E) pins D f s'):SP X pins D f s':=by
 cases f with
 |next=>let(Y,T,I,q):=h;exact(Y,T,I.Q3,q)
 |brk=>let(Y,T,I,q):=h;exact(Y,T,I.Q3,q)
 |cont=>let(Y,T,I,q):=h;exact(Y,T,I.Q3,q)
 |ret u=>let(v,Y,T,I,r,q):=h;exact(v,Y,T,I.Q3,r,q)
theorem U7.nox{st:List Stmt}(h:U7 X.nox st t):U7 X st t:=λY s T H D I G =>
 kj (h Y s T H D (I.aay _) G) (λ_ _ q=>q.Q3) λ_ _ z=>False.elim z
def bbb:TS:=λD Y H=>D.nx Y H
def bhq(t u:TS):TS:=λD Y H=>t { D with nx:=u D } Y H
def axv:U7 X [] bbb:=λ_ _ Y H _ I h=>wpAny_execs_nil (Y,H,I,h)
def ard{st:Stmt}{T:List Stmt}(L:PS X st t)(N:U7 X T u):U7 X (st::T) (bhq t u):=by
 intro Y s J H D I h;refine wpAny_execs_cons (Ko (L Y s J H { D with nx:=u D } I h) λf B q=>?_);cases f with
 |next =>
  let(G,O,C,q):=q;exact N Y B G O D C q
 |ret v=>exact q|brk=>exact q|cont=>exact q
def a5h:TS:=λD Y H=>D.bk Y H
def bbc:TS:=λD Y H=>D.ct Y H
def arf:PS X (.Break pos) a5h:=λ_ _ Y H _ I h=>wpAny_Break (Y,H,I,h)
def af4:PS X (.Continue pos) bbc:=λ_ _ Y H _ I h=>wpAny_Continue (Y,H,I,h)
def Inv.quiet(I:Inv X pins σ H s):interactive X.env=false:=by simp[interactive,I.ok.kind]
def bbd(T:TE):TS:=λD Y H=>T Y H λ_ G=>D.nx Y G
def axw(B:PE X e Z)(J:autoParam (swapsWith e none pos.line X.env=pure false) aU5._auto_1):PS X (.Expr e pos) (bbd Z):=by intro Y s T H D I h;exact wpAny_Expr_any (R9 (B Y s T H _ I h) λv C x G I1 N O=>(T,G,I1,O)) I.quiet J
def bhr(T:TE):TS:=λD Y H=>T Y H D.rt
def a5i(J:PE X e Z):PS X (.Return (some e) pos) (bhr Z):=by intro Y s T H D I h;exact wpAny_Return_some (R9 (J Y s T H _ I h) λv C x G I1 O B=>(x,T,G,I1,O,B))
def bhs(c:TT)(t u:TS):TS:=λD Y H=>c Y H λb T=>if b=true then t D Y T else u D Y T
def bbe(N:PT X c Z)(O:U7 X a t)(C:U7 X b u):PS X (.If c a b pos) (bhs Z t u):=by
 intro Y s T H D I h;refine wpAny_If (thT (N Y s T H _ I h) λd G J I1 B=>?_);cases d with
 |true=>exact O Y G T J D I1 B|false=>exact C Y G T J D I1 B
abbrev TG:=V->St->Hp->(St->Hp->Prop)->Prop
abbrev TGs:=List V->St->Hp->(St->Hp->Prop)->Prop
def PG(X:Cx)(Y:Expr)(t:TG):Prop:=
 ∀(T:Zp)(s:Shared)(J:St)(H:Hp)(v:V)(u:Value)(Q:St->Hp->Prop),Inv X T J H s->RelV v u->t v J H Q ->
  wpAny (model X.prog X.w) X.A (assign Y X.env u) (λ_ O=>∃G B,Inv X T G B O/\Q G B) X.xe s
def PGs(X:Cx)(N:Ya)(t:TGs):Prop:=
 ∀(Y:Zp)(s:Shared)(G:St)(H:Hp)(B:List V)(O:Zl)(Q:St->Hp->Prop),Inv X Y G H s->Vals B O->t B G H Q ->
  wpAny (model X.prog X.w) X.A (assignInOrder ((assignEach N X.env).map (·.2)) O) (λ_ C=>∃T J,Inv X Y T J C/\Q T J) X.xe s
abbrev a5j:=V->V->V->Hp->(Hp->Prop)->Prop
def a5k(X:Cx)(t:a5j):Prop:=
 ∀(Y:Zp)(s:Shared)(T:St)(H:Hp)(o i v:V)(J B u:Value)(Q:Hp->Prop),Inv X Y T H s->RelV o J->RelV i B->RelV v u->t o i v H Q ->
  wpAny (model X.prog X.w) X.A (setItem J B u) (λ_ O=>∃G,Inv X Y T G O/\Q G) X.xe s
def ako(i:Nat):TG:=λv Y H Q=>Q (Y.set i (some v)) H
def adx(T:X.N.Nodup)(G:X.N[i]?\x)(B:Loc X.env.scope x)(O:autoParam (X.fn x=true\/X.env.scope.names.lookup x\.local) aU1._auto_1):PG X (.Name x pos) (ako i):=by intro Y s L H v u Q I r h;exact wpAny_assign_Name (arb I T G B r (λC J=>(_,H,J,h)) O)
def bht:TGs:=λT Y H Q=>T=[]/\Q Y H
def bbg(t:TG)(u:TGs):TGs:=λG T H Q=>∃v r,G=v::r/\t v T H λY J=>u r Y J Q
def axx:PGs X [] bht:=by intro Y s T H G J Q I r h;let(e,h):=h;subst e;cases r;exact assignInOrder_nil (T,H,I,h)
def arh(L:PG X e t)(N:PGs X Z u)(C:autoParam ((assignEach (e::Z) X.env).map (·.2)=assign e X.env::(assignEach Z X.env).map (·.2)) aU5._auto_1):PGs X (e::Z) (bbg t u):=by
 intro Y s G H S V Q I r h;let(v,R,J,h):=h;subst J;cases r with
 |cons r P =>
  rw[C];refine assignInOrder_cons (Ko (L Y s G H _ _ _ I r h) λ_ B z_=>?_);let(T,O,I1,E):=z_;exact N Y B T O _ _ Q I1 P E
def bhu(K:Fg)(n:Nat)(t:TGs):TG:=λv T H Q=>∃a Y,v=.ref a/\O9 K H a Y/\Y.length=n/\t Y T H Q
def a5l(E:X.calm=true)(h:PGs X Z t)(V:autoParam ((assignEach Z X.env).length=n) aU5._auto_1)(T:autoParam ((assignEach Z X.env).findIdx? (·.1)=none) aU5._auto_1):PG X (.Tuple Z k pos) (bhu X.K n t):=by
 intro Y s J H v u Q I r G;let(a,P,O,L,C,G):=G;subst O;cases r;let(F,B,S,W):=I.tuple L;refine assign_Tuple_tuple (I.ok.hd E) S (by simp[V,<-C,B.length]) T λR N=>?_
 have I1:Inv X Y J H { s with heap:=R }:=I.kept (t':=s.toks) λb o e=>N b o (gn (cj e)) e
 exact h Y _ J H P _ Q I1 (by simpa using B) G
def bhv(O T:TE)(t:a5j):TG:=λv Y H Q=>O Y H λo J=>T Y J λi G=>t o i v G λB=>Q Y B
def a5m(V:PE X o to)(J:PE X i ti)(E:a5k X t)(P:autoParam (∀v,assign (.Subscript o i pos) X.env v=(do
 let Z<-holding [v] (eval o X.env)
 let U<-holding [v,Z] (eval i X.env)
 standAt pos
 holding [v,Z,U] (setItem Z U v)
 release [v,Z,U] [])) aU4._auto_1):PG X (.Subscript o i pos) (bhv to ti t):=by
 intro Y s T H v u Q I r h;rw[P];refine aa (ji (R9 (V Y s T H _ I h) λZ R x L I1 S O=>?_));refine aa (ji (R9 (J Y R T L _ I1 O) λU K y G I2 N W=>?_));refine aa (wpAny_standAt (aa (ji (Ko (E Y K T G x y v Z U u _ I2 S N r W) λ_ M z_=>?_))));let(B,F,C):=z_;exact wpAny_release (T,B,F,C)
def a5n(T:TE)(g:TG):TS:=λD Y H=>T Y H λx G=>g x Y G D.nx
def ari(O:PE X e Z)(N:PG X tg g)(B:autoParam (swapsWithSole [tg] e pos.line X.env=pure false) aU5._auto_1)(P:autoParam (swappedStores [tg] e X.env=pure none) aU5._auto_1)(C:autoParam ((assignEach [tg] X.env).map (·.2)=[assign tg X.env]) aU5._auto_1):PS X (.Assign [tg] e pos) (a5n Z g):=by intro Y s T H D I h;refine wpAny_Assign_stores (R9 (O Y s T H _ I h) λv G x J I1 E L=>?_) B P;rw[C];exact Ko (N Y G T J x v _ I1 E L) λ_ R q=>q
def a5o(c:TT)(O:TS):TS:=λD Y H=>∃W:Nat->St->Hp->Prop,(∃m,W m Y H)/\∀m Y H,W m Y H ->
 c Y H λb J=>if b=true then ∃N:St->Hp->Prop,(∀T G,N T G->∃B,B<m/\W B T G)/\O { D with nx:=N,ct:=N,bk:=D.nx } Y J else D.nx Y J
def arj(Z:PassesOwn (model X.prog X.w) X.A X.env X.xe)(hc:PT X c tc)(hb:U7 X body tb):PS X (.While c body [] pos) (a5o tc tb):=by
 intro T s σ H D I h;let(W,(m0,w0),O):=h;refine wpAny_While (codeAny_whileLoop (λn U=>∃B K,Inv X T B K U/\W n B K) ?_ m0 (σ,H,I,w0));rintro n s1 ⟨G,F,I1,w1⟩;refine vh Z (thT (hc T s1 G F _ I1 (O n G F w1)) λb s2 V I2 L=>?_);cases b with
 |true =>
  let(N,M,L):=L;rw[dm rfl];refine vh Z (Ko (hb T s2 G V _ I2 L) λf s3 C=>?_);cases f with
  |next =>
   let(Y,J,Q,S):=C;let(E,P,R):=M Y J S;exact(E,P,Y,J,Q,R)
  |cont =>
   let(Y,J,Q,S):=C;let(E,P,R):=M Y J S;exact(E,P,Y,J,Q,R)
  |brk=>exact C|ret v=>exact C
 |false =>
  rw[cz zr];exact wpAny_execs_nil (G,V,I2,L)
structure It where
 go:Nat->Hp->Prop
 yld:Nat->Hp->V->Hp->Prop
 stop:Nat->Hp->Prop
def Xp(X:Cx)(Y:Zp)(H:Hp)(b:Addr):Prop:=
 H b=none/\b≠X.env.locals/\b∉X.fs/\(b∈X.ex\/X.s₀.heap.objs.size<=b)/\(∀x c,X.env.cells.lookup x\c->c≠b)/\∀p∈X.pn++Y,p.1≠b
def Inv.ark(I:Inv X pins σ H s)(Y:s.heap.objs.size<=b)(T:Z b=none):Xp X pins Z b:=by
 refine(T,xr (iu I.lt Y),I.a4t Y,.inr (gh I.sz Y),λx c e z=>?_,λp G z=>?_)
 .let(v,q):=I.cell x c e
  exact absurd (iu q.lt (by rw[z];exact Y)) (o8 _)
 .exact absurd (iu (cj (I.pin p G).1) (by rw[z];exact Y)) (o8 _)
structure Turn(P:Program)(w:World)(K:Fg)(tg:Expr)(J:It)(fp:X9)(it:Addr)(tn:Nat->Heap->Prop):Prop where
 mem:it∈fp
 obj:∀i h,tn i h->∀b∈fp,∃o,h.get? b\o/\∀v,o.data≠.cell v
 keep:∀i h h',tn i h->(∀b∈fp,∀o,h.get? b\o->h'.get? b\o)->tn i h'
 item:∀(X:Cx),X.prog=P->X.w=w->X.K=K->X.calm=true->∀(i:Nat)(pins:Zp)(s:Shared)(σ:St)(H:Hp)(E:Y1),Inv X pins σ H s->(∀b∈fp,Xp X pins H b)->tn i s.heap->J.go i H ->
  wpAny (model P w) X.A (pyNext (.ref it)) (λr s1=>∃u,r\u /\
   wpAny (model P w) X.A (letOwnedTupleGo tg (.ref it) u) (λ_ s2=>∃x H',Inv X pins σ H' s2/\RelV x u/\J.yld i H x H'/\tn (i+1) s2.heap/\∀b∈fp,H' b=none) E s1) E s
 done:∀(X:Cx),X.prog=P->X.w=w->X.K=K->X.calm=true->∀(i:Nat)(pins:Zp)(s:Shared)(σ:St)(H:Hp)(E:Y1),Inv X pins σ H s->(∀b∈fp,Xp X pins H b)->tn i s.heap->J.stop i H ->
  wpAny (model P w) X.A (pyNext (.ref it)) (λr s1=>r=none/\Inv X pins σ H s1) E s
 self:∀(A:Around)(i:Nat)(s:Shared)(Q:Y1)(E:Y1),tn i s.heap->Q (.ref it) s->wpAny (model P w) A (pyIter (.ref it)) Q E s
abbrev TI:=St->Hp->(It->Hp->Prop)->Prop
def PIE(X:Cx)(Y:Zp)(N:St)(L:Expr)(R:It->Hp->Prop)(G:Value)(O:Shared):Prop:=
 ∃(it:Addr)(B:X9)(C:Nat->Heap->Prop)(J:It)(T:Hp),G=.ref it/\Inv X Y N T O/\Turn X.prog X.w X.K L J B it C/\C 0 O.heap/\(∀b∈B,Xp X Y T b)/\R J T
def PI(X:Cx)(O T:Expr)(J:TI):Prop:=
 ∀(Y:Zp)(s:Shared)(G:St)(H:Hp)(R:It->Hp->Prop),Inv X Y G H s->J G H R ->
  wpAny (model X.prog X.w) X.A (eval T X.env) (λv B=>wpAny (model X.prog X.w) X.A (pyIter v) (PIE X Y G O R) X.xe B) X.xe s
def arl(J:s.heap.get? it\o)(G:o.cls=.type n)(T:o.data=.fields Z)(B:["enumerate","zip","dict_itemiterator","dict_reverseitemiterator","odict_iterator","itertools.zip_longest","itertools.pairwise"].contains n=false)(Y:Q () s):wpAny M A (letOwnedTupleGo tg (.ref it) u) Q E s:=by
 unfold letOwnedTupleGo;cases tg<;>first
  |exact aj Y
  | (cases u<;>first
   |exact aj Y
   | (refine aa (wpAny_load J ?_)
      rw[G,T];show wpAny M A (if(["enumerate","zip","dict_itemiterator","dict_reverseitemiterator","odict_iterator","itertools.zip_longest","itertools.pairwise"].contains n&&Z[0]?==some (rawInt _))=true then _ else _) Q E s;rw[cz (by intro h;rw[B,Bool.false_and]at h;cases h)];exact aj Y))
noncomputable def Itl(K:Fg)(a:Addr):It:=
 (λi H=>∃Y x,Kc K H a Y/\Y[i]?\x,λi H x T=>T=H/\∀Y,Kc K H a Y->Y[i]?\x,λi H=>∃Y,Kc K H a Y/\Y.length<=i)
noncomputable def Itt(K:Fg)(a:Addr):It:=
 (λi H=>∃Y x,O9 K H a Y/\Y[i]?\x,λi H x T=>T=H/\∀Y,O9 K H a Y->Y[i]?\x,λi H=>∃Y,O9 K H a Y/\Y.length<=i)
noncomputable def Sq(Y:Int)(n:Nat):It:=(λi _=>i<n,λi H x T=>T=H/\x=.int (Y+i),λi _=>n<=i)
theorem am3{K:Fg}(a it:Addr):Turn P w K tg (Itl K a) [it] it (λi h=>h.IsListIter it a i)where
 mem:=by simp
 obj:=λi h st b T=>by
  have e:b=it:=by simpa using T
  subst e;let(o,e,c,d):=st;exact(o,e,λv z=>by rw[d]at z;cases z)
 keep:=λi h O st k=>st.at λo e=>k it (by simp) o e
 item:=by
  intro X V S N F i Y s M H E I J st Q;subst V S N;let(xs,x,B,C):=Q;let(yt,L,p,A):=I.list B;let(u,Z,ru):=L.get C;let(f0,f1,f2,R,W,f5):=J it (by simp);refine wpAny_pyNext_list_item st p.isList (x:=u) (by simpa using Z) λO G sb=>?_
  have I1:Inv X Y M H { s with heap:=O }:=I.turned (t':=s.toks) (λb o T e=>(sb.2 b T).trans e) f0 f1 R W f5;let(o,e,c,d):=id G;exact(u,rfl,arl (s:={ s with heap:=O }) e c d ⋯ (x,H,I1,ru,(rfl,λys hy=>by rw[I.af3 hy B];exact C),G,λb T=>(J b T).1))
 done:=by intro X V S N F i Y s M H E I J st Q;subst V S N;let(xs,B,C):=Q;let(yt,L,p,A):=I.list B;let(f0,f1,f2,R,W,f5):=J it (by simp);have D:=L.length;exact wpAny_pyNext_list_end (I.ok.hd F) st p.isList (by simp;exact a_ (g_ D) C) λO U=>(rfl,I.turned (t':=s.toks) (λb o T e=>U b o T e) f0 f1 R W f5)
 self:=λ_ _ _ _ _ st h=>wpAny_pyIter_listiter st h
theorem aip{K:Fg}(a it:Addr):Turn P w K tg (Itt K a) [it] it (λi h=>h.IsTupleIter it a i)where
 mem:=by simp
 obj:=λi h st b T=>by
  have e:b=it:=by simpa using T
  subst e;let(o,e,c,d):=st;exact(o,e,λv z=>by rw[d]at z;cases z)
 keep:=λi h O st k=>st.at λo e=>k it (by simp) o e
 item:=by
  intro X V S N M i Y s A H E I J st Q;subst V S N;let(xs,x,B,C):=Q;let(F,L,p,D):=I.tuple B;let(u,U,ru):=L.get C;let(f0,f1,f2,R,W,f5):=J it (by simp);refine wpAny_pyNext_tuple_item st (show s.heap.IsTuple a F.toArray from p) (x:=u) (by simpa using U) λO G sb=>?_
  have I1:Inv X Y A H { s with heap:=O }:=I.turned (t':=s.toks) (λb o T e=>(sb.2 b T).trans e) f0 f1 R W f5;let(o,e,c,d):=id G;exact(u,rfl,arl (s:={ s with heap:=O }) e c d ⋯ (x,H,I1,ru,(rfl,λys hy=>by rw[I.abl hy B];exact C),G,λb T=>(J b T).1))
 done:=by intro X V S N M i Y s A H E I J st Q;subst V S N;let(xs,B,C):=Q;let(F,L,p,D):=I.tuple B;let(f0,f1,f2,R,W,f5):=J it (by simp);have Z:=L.length;exact wpAny_pyNext_tuple_end (I.ok.hd M) st (show s.heap.IsTuple a F.toArray from p) (by simp;exact a_ (g_ Z) C) λO eb=>(rfl,I.turned (t':=s.toks) (λb o T e=>eb b o T e) f0 f1 R W f5)
 self:=λ_ _ _ _ _ st h=>wpAny_pyIter_tupleiter st h
theorem aiq{K:Fg}(it:Addr)(B:Int)(n:Nat):Turn P w K tg (Sq B n) [it] it (λi h=>IsRangeIter h it (B+(i:Nat)*1) ((n:Int)-(i:Nat)) 1)where
 mem:=by simp
 obj:=λi h st b T=>by
  have e:b=it:=by simpa using T
  subst e;exact(_,st,λv z=>by
   have D:Data.fields _=Data.cell v:=z;cases D)
 keep:=λi h O st k=>k it (by simp) _ st
 item:=by
  intro X Q L C R i Y s F H E I J st S;subst Q L C;let(f0,f1,f2,N,V,f5):=J it (by simp);have W:=Walks.range (prog:=X.prog) (w:=X.w) (I.ok.hd R) it B 1 n;refine W.item i s _ _ S st λv O M A G Z=>?_
  let(t,rfl):=A;have I1:Inv X Y F H { s with heap:=O,toks:=M }:=I.turned (λb o T e=>Z b o (by simpa using T) e) f0 f1 N V f5;refine(_,rfl,arl (s:={ s with heap:=O,toks:=M }) (n :="range_iterator") G rfl rfl ⋯ (.int (B+i),H,I1,(t,?_),(rfl,rfl),G,λb T=>(J b T).1));rw[Int.mul_one]
 done:=by intro X Q L C R i Y s F H E I J st S;subst Q L C;let(f0,f1,f2,N,V,f5):=J it (by simp);exact wpAny_pyNext_range_end (I.ok.hd R) st (by have:n<=i:=S;lia) λO U=>(rfl,I.turned (t':=s.toks) (λb o T e=>U b o T e) f0 f1 N V f5)
 self:=λ_ _ _ _ _ st h=>wpAny_pyIter_rangeiter st h
end L2
namespace L2
open PySem PySem.Spec PyProof.Rows
def arn{lo:Int}(I:Inv X pins σ H s)(O:-(2^62)<=lo)(G:lo<2^62)(T:-(2^62)<=Z)(C:Z<2^62)(q:R (Sq lo (Z-lo).toNat) H):wpAny (model X.prog X.w) X.A (pyIter (.ref s.heap.objs.size)) (PIE X pins σ tg R) E { s with heap:=s.heap.push { cls:=.type "range",data:=.fields #[.int lo t,.int Z u,.int 1 v] },toks:=U }:=by
 refine wpAny_pyIter_range (IsRange.new ..) (small_one O G T C) ?_;have I1:Inv X pins σ H { s with heap:=s.heap.push { cls:=.type "range",data:=.fields #[.int lo t,.int Z u,.int 1 v] },toks:=U }:=I.kept λb o e=>au _ e
 refine((s.heap.push { cls:=.type "range",data:=.fields #[.int lo t,.int Z u,.int 1 v] }).objs.size,[(s.heap.push { cls:=.type "range",data:=.fields #[.int lo t,.int Z u,.int 1 v] }).objs.size],_,_,H,rfl,
  I1.kept (t':=U) λb o e=>au _ e,aiq _ lo (Z-lo).toNat,?_,λb J=>?_,q)
 .have Y:lo+((0:Nat):Int)*1=lo:=by simp
  have B:(((Z-lo).toNat:Nat):Int)-((0:Nat):Int)=Builtin.Range.rangeSize lo Z 1:=by rw[rangeSize_one];split<;>lia
  show IsRangeIter _ _ (lo+((0:Nat):Int)*1) ((((Z-lo).toNat:Nat):Int)-((0:Nat):Int)) 1;rw[Y,B];exact dg _ rfl
 .have e:b=(s.heap.push { cls:=.type "range",data:=.fields #[.int lo t,.int Z u,.int 1 v] }).objs.size:=by simpa using J
  subst e;exact I1.ark (bz _) (I1.Bv.fresh (bz _))
def bbi(G:TA):TI:=λY H R=>G Y H λT J=>∃j:Int,T=[.int j]/\-(2^62)<=j/\j<2^62/\R (Sq 0 j.toNat) J
def am4{X:Cx}{P:Expr}(N:Gl X "range")(L:X.mg "range"= none)(J:PA X [a] Z)(O:autoParam (starEach [a] X.env=[(false,eval a X.env)]) aU5._auto_1):PI X P (.Call (.Name "range" p) [a] [] pos) (bbi Z):=by
 intro Y s G H R I h;refine Call_ (Eg I N L boot_range (j0 (thA (J pos Y s G H _ I h) λW S V Q I1 C T=>?_) O rfl));let(j,e,T,B,q):=T;subst e;cases C with
 |cons r E =>
  cases E;let(t,rfl):=r;exact call_range_1 (arn I1 (by lia) (by lia) T B (by simpa using q))
def bhx(C:TI)(g:TG)(P:TS):TS:=λD Y H=>C Y H λJ L=>∃W:Nat->Nat->St->Hp->Prop,(∃m,W 0 m Y L)/\∀i m Y H,W i m Y H ->
 (J.stop i H/\D.nx Y H)\/(J.go i H/\∃N:St->Hp->Prop,(∀G T,N G T->∃O,O<m/\W (i+1) O G T)/\∀x T,J.yld i H x T->g x Y T λB E=>P { D with nx:=N,ct:=N,bk:=D.nx } B E)
noncomputable def Wg(Y:X9)(h:Heap):List (Addr×Obj):=Y.filterMap λb=>(h.get? b).map λo=>(b,o)
def Oa(Y:b∈Z)(e:h.get? b\o):(b,o)∈Wg Z h:=List.mem_filterMap.mpr (b,Y,by rw[e];rfl)
def am5(T:p∈Wg Z h):p.1∈Z/\h.get? p.1\p.2:=by
 let(b,Y,e):=List.mem_filterMap.mp T;cases q:h.get? b with
 |none=>rw[q]at e;cases e
 |some o =>
  rw[q]at e;have G:(b,o)=p:=mj e;subst G;exact(Y,q)
def Inv.pinned{X:Cx}(I:Inv X pins σ H s)(G:∀b∈Z,Xp X pins H b)(J:∀b∈Z,∃o,s.heap.get? b\o/\∀v,o.data≠.cell v):Inv X (pins++Wg Z s.heap) σ H s:=
 I.U6 λp B=>(dz.mp B).elim (λz=>I.pin p (jo _ z)) λz=>by let(Y,e):=am5 z;let(f0,f1,f2,_):=G p.1 Y;let(o,T,d):=J p.1 Y;rw[e]at T;cases T;exact(e,f0,f1,f2,d)
def Inv.Q4{X:Cx}(I:Inv X (pins++Z) σ H s):Inv X pins σ H s:=I.U6 λp Y=>I.pin p (jo _ (qu _ Y))
def a5p{X:Cx}{tg:Expr}(U:PassesOwn (model X.prog X.w) X.A X.env X.xe)(hc:X.calm=true)(hi:PI X tg iter wi)(hg:PG X tg g)(O:U7 X body tb)(hs:autoParam (∀x,foldedSetIterable iter X.env x=pure x) aU4._auto_1):PS X (.For tg iter body [] pos) (bhx wi g tb):=by
 intro G s σ H D I h;refine wpAny_For (Ko (hi G s σ H _ I h) λv s1 h1=>Ko h1 λq1 s2 h2=>?_) hs;let(it,V,tn,J,H2,e,I2,T,qq,f2,W,(m0,w0),K):=h2;subst e;have Q:∀{H':Hp},(∀b∈V,H' b=none)->∀b∈V,Xp X G H' b:=λhn b O=>(hn b O,(f2 b O).2)
 refine codeAny_forLoop_any (λn s'=>∃i C H',Inv X G C H' s'/\tn i s'.heap/\(∀b∈V,H' b=none)/\W i n C H') ?_ m0 (0,σ,H2,I2,qq,λb O=>(f2 b O).1,w0);rintro n s3 ⟨i,L,H3,I3,M,Z,w3⟩;rcases K i n L H3 w3 with⟨F,qn⟩|⟨go,N,hN,step⟩
 .refine vh U (Ko (T.done X rfl rfl rfl hc i G s3 L H3 X.xe I3 (Q Z) M F) λr s4 z_=>?_)
  let(hr,I4):=z_;subst hr;exact wpAny_execs_nil (L,H3,I4,qn)
 .refine vh U (Ko (T.item X rfl rfl rfl hc i G s3 L H3 X.xe I3 (Q Z) M go) λr s4 z_=>?_)
  let(u,hr,h4):=z_;subst hr;refine vh U (Ko h4 λ_ s5 z_=>?_);let(x,H5,I5,r5,y5,S,qk):=z_;have q0:=I5.pinned (Q qk) (T.obj _ _ S);refine vh U (Ko (hg _ s5 L H5 x u _ q0 r5 (step x H5 y5)) λ_ s6 z_=>?_);let(qv,H6,I6,q6):=z_;refine vh U (Ko (O _ s6 qv H6 _ I6 q6) λf s7 R=>?_);have B:∀{Y:St}{E:Hp},Inv X (G++Wg V s5.heap) Y E s7->N Y E->∃m,m<n/\∃i C H',Inv X G C H' s7/\tn i s7.heap/\(∀b∈V,H' b=none)/\W i m C H':=fun{Y E} P n7=>by let(m',hm,w7):=hN Y E n7;refine(m',hm,i+1,Y,E,P.Q4,T.keep _ _ _ S λb O o e=>(P.pin (b,o) (jo _ (jo _ (Oa O e)))).1,λb O=>?_,w7);let(o,e,d):=T.obj _ _ S b O;exact(P.pin (b,o) (jo _ (jo _ (Oa O e)))).2.1
  cases f with
  |next=>let(Y,E,P,n7):=R;exact B P n7
  |cont=>let(Y,E,P,n7):=R;exact B P n7
  |brk=>let(Y,E,P,R):=R;exact(Y,E,P.Q4,R)
  |ret v=>let(x7,Y,E,P,r7,R):=R;exact(x7,Y,E,P.Q4,r7,R)
end L2
namespace L2
open PySem PySem.Spec PyProof.Rows
abbrev R2:=V->V->Hp->VK->Prop
def Ez(X:Cx)(f:Value->Value->Sem Value)(r:R2):Prop:=
 ∀(Y:Zp)(s:Shared)(T:St)(H:Hp)(x y:V)(v u:Value)(Q:VK),Inv X Y T H s->RelV x v->RelV y u->r x y H Q ->
  wpAny (model X.prog X.w) X.A (f v u) (EP X Y T Q) X.xe s
def UnR(X:Cx)(f:Value->Sem Value)(r:V->Hp->VK->Prop):Prop:=
 ∀(Y:Zp)(s:Shared)(T:St)(H:Hp)(x:V)(v:Value)(Q:VK),Inv X Y T H s->RelV x v->r x H Q ->
  wpAny (model X.prog X.w) X.A (f v) (EP X Y T Q) X.xe s
def Dp(X:Cx)(f:Value)(r:List V->Hp->VK->Prop):Prop:=
 ∀(Y:Zp)(s:Shared)(T:St)(H:Hp)(J:List V)(G:Zl)(Q:VK),Inv X Y T H s->Vals J G->r J H Q ->
  wpAny (model X.prog X.w) X.A (call f G) (EP X Y T Q) X.xe s
def tOp(r:R2)(J B:TE):TE:=λY H Q=>J Y H λx T=>B Y T λy G=>r x y G Q
def tUn(r:V->Hp->VK->Prop)(T:TE):TE:=λY H Q=>T Y H λx G=>r x G Q
def rI(C:Int->Int->Prop)(g:Int->Int->V):R2:=λx y H Q=>∃i j,x=.int i/\y=.int j/\C i j/\Q (g i j) H
def rI0(g:Int->Int->V):R2:=λx y H Q=>∃i j,x=.int i/\y=.int j/\Q (g i j) H
def rU(g:Int->V):V->Hp->VK->Prop:=λx H Q=>∃i,x=.int i/\Q (g i) H
def a5r{X:Cx}{a b:Expr}{G J:TE}(B:PE X a G)(L:PE X b J){Y:Zp}{s:Shared}{T:St}{H:Hp}{R:V->V->Hp->Prop}(I:Inv X Y T H s)
 (h:G T H λx H1=>J T H1 λy Z=>R x y Z) {Q:Y1} {f:Value->Value->Sem Value}
 (S:∀v u s2 x y Z,Inv X Y T Z s2->RelV x v->RelV y u->R x y Z->wpAny (model X.prog X.w) X.A (f v u) Q X.xe s2) :
 wpAny (model X.prog X.w) X.A (eval a X.env) (λv U=>wpAny (model X.prog X.w) X.A (eval b X.env) (λu qq=>wpAny (model X.prog X.w) X.A (f v u) Q X.xe qq) X.xe U) X.xe s:=by
 refine R9 (B Y s T H _ I h) λv C x H1 I1 P E=>?_
 refine R9 (L Y C T H1 _ I1 E) λu s2 y Z I2 N O=>?_
 exact S v u s2 x y Z I2 P N O
def bbk{X:Cx}{a b:Expr}{T J:TE}{pos:Pos}{G:Operator}{r:R2}(R:Ez X (binaryOp G) r)(O:PE X a T)(L:PE X b J):PE X (.BinOp a G b pos) (tOp r T J):=by intro Y s B H Q I h;exact wpAny_BinOp (a5r O L I h λv u E x y N I2 C P q=>R Y E B N x y v u Q I2 C P q)
def bbl{X:Cx}{a:Expr}{G:TE}{pos:Pos}{J:UnaryOp}{r:V->Hp->VK->Prop}(E:UnR X (unaryOp J) r)(B:PE X a G):PE X (.UnaryOp J a pos) (tUn r G):=by intro Y s T H Q I h;exact UnaryOp_ (R9 (B Y s T H _ I h) λv O x C I1 L N=>E Y O T C x v Q I1 L N)
def opI{X:Cx}{f:Value->Value->Sem Value}{C:Int->Int->Prop}{g:Int->Int->Int}
 (Y:∀(i j:Int)(t u:Tok)(s:Shared)(Q:Y1)(E:Y1),C i j->Q (.int (g i j) s.toks) { s with toks:=s.toks+1 }->wpAny (model X.prog X.w) X.A (f (.int i t) (.int j u)) Q E s) :
 Ez X f (rI C λi j=>.int (g i j)):=by
 intro T s N H x y v u Q I G B h;let(i,j,rfl,rfl,J,q):=h;let(t,rfl):=G;let(O,rfl):=B;exact Y i j t O s _ _ J (.int (g i j),H,I.tok _,(_,rfl),q)
def bbm{X:Cx}{f:Value->Value->Sem Value}{g:Int->Int->Int}
 (Y:∀(i j:Int)(t u:Tok)(s:Shared)(Q:Y1)(E:Y1),Q (.int (g i j) s.toks) { s with toks:=s.toks+1 }->wpAny (model X.prog X.w) X.A (f (.int i t) (.int j u)) Q E s) :
 Ez X f (rI0 λi j=>.int (g i j)):=by
 intro T s O H x y v u Q I G J h;let(i,j,rfl,rfl,q):=h;let(t,rfl):=G;let(B,rfl):=J;exact Y i j t B s _ _ (.int (g i j),H,I.tok _,(_,rfl),q)
def axz{X:Cx}{f:Value->Value->Sem Value}{g:Int->Int->Bool}
 (Y:∀(i j:Int)(t u:Tok)(s:Shared)(Q:Y1)(E:Y1),Q (.bool (g i j)) s->wpAny (model X.prog X.w) X.A (f (.int i t) (.int j u)) Q E s) :
 Ez X f (rI0 λi j=>.bl (g i j)):=by
 intro T s O H x y v u Q I G J h;let(i,j,rfl,rfl,q):=h;let(t,rfl):=G;let(B,rfl):=J;exact Y i j t B s _ _ (.bl (g i j),H,I,rfl,q)
def bh1(i j:Int):Prop:=0<j/\j<1073741824
def bh2(i j:Int):Prop:=0<=j/\j<=1000000/\i.natAbs<2^64
def ax0(i j:Int):Prop:=(-(2^64)<i/\i<2^64)\/(-(2^64)<j/\j<2^64)
def ax0.ok{i j:Int}(h:ax0 i j):IntMulOk i j:=by
 rcases h with⟨Y,T⟩|⟨Y,T⟩
 .exact .of_left (intBits_le_64 Y T)
 .exact .of_right (intBits_le_64 Y T)
def a5s{X:Cx}:Ez X (binaryOp .Add) (rI0 λi j=>.int (i+j)):=bbm λ_ _ _ _ _ _ _ q=>add_int q
def a5t{X:Cx}:Ez X (binaryOp .Sub) (rI0 λi j=>.int (i-j)):=bbm λ_ _ _ _ _ _ _ q=>sub_int q
def a5u{X:Cx}:Ez X (binaryOp .Mult) (rI ax0 λi j=>.int (i*j)):=opI λ_ _ _ _ _ _ _ Y q=>mul_int q Y.ok
def ax1{X:Cx}:Ez X (binaryOp .FloorDiv) (rI bh1 λi j=>.int (i/j)):=opI λi j _ _ _ _ _ Y q=>by
 have T:(0:Int)<j:=Y.1
 have G:j<1073741824:=Y.2
 exact floordiv_int (by lia) (by rw[Int.fdiv_eq_ediv_of_nonneg i (by lia)];exact q) (.inl (PyProof.noPylong_small (by omega)))
def a5v{X:Cx}:Ez X (binaryOp .Mod) (rI (λ_ j=>0<j) λi j=>.int (i%j)):=opI λi j _ _ _ _ _ Y q=>by
 have T:(0:Int)<j:=Y
 exact mod_int' (by lia) (by rw[Int.fmod_eq_emod_of_nonneg i (by lia)];exact q)
def a5w{X:Cx}:Ez X (binaryOp .Pow) (rI bh2 λi j=>.int (i^j.toNat)):=opI λ_ _ _ _ _ _ _ Y q=>pow_int_small Y.1 Y.2.1 Y.2.2 q
def unI{X:Cx}{f:Value->Sem Value}{g:Int->Int}
 (Y:∀(i:Int)(t:Tok)(s:Shared)(Q:Y1)(E:Y1),Q (.int (g i) s.toks) { s with toks:=s.toks+1 }->wpAny (model X.prog X.w) X.A (f (.int i t)) Q E s) :
 UnR X f (rU λi=>.int (g i)):=by
 intro T s J H x v Q I G h;let(i,rfl,q):=h;let(t,rfl):=G;exact Y i t s _ _ (.int (g i),H,I.tok _,(_,rfl),q)
def a5x{X:Cx}:UnR X (unaryOp .USub) (rU λi=>.int (-i)):=unI λ_ _ _ _ _ q=>neg_int q
noncomputable def a5y(x y:V):Bool:=match x with
 |.int _=>(match y with|.int _=>true|_=>false)
 |.bl _=>(match y with|.bl _=>true|_=>false)
 |_=>false
def rEq:R2:=λx y H Q=>a5y x y=true/\Q (.bl (decide (x=y))) H
def rNe:R2:=λx y H Q=>a5y x y=true/\Q (.bl (!decide (x=y))) H
def akp{i j:Int}:decide (V.int i=V.int j)=(i==j):=by rw[Cq];simp
def aro{i j:Bool}:decide (V.bl i=V.bl j)=(i==j):=by rw[Cq];simp
def Za{X:Cx}{Y:Zp}{T:St}{H:Hp}{s:Shared}{Q:VK}{k G:Bool}(I:Inv X Y T H s)(q:Q (.bl k) H)(e:k=G):EP X Y T Q (.bool G) s:=by subst e;exact(.bl k,H,I,rfl,q)
def bbn{X:Cx}:Ez X (compareOp .Eq) rEq:=by
 intro G s B H x y v u Q I T J h;let(Y,q):=h;cases x with
 |bl i=>cases y with
  |bl j=>cases T;cases J;exact eq_bool (Za I q aro)|_=>cases Y
 |int i=>cases y with
  |int j=>let(t,rfl):=T;let(O,rfl):=J;exact eq_int (Za I q akp)
  |_=>cases Y
 |_=>cases Y
def bbo{X:Cx}:Ez X (compareOp .NotEq) rNe:=by
 intro G s B H x y v u Q I T J h;let(Y,q):=h;cases x with
 |bl i=>cases y with
  |bl j=>cases T;cases J;exact ne_bool (Za I q (t7 not aro))|_=>cases Y
 |int i=>cases y with
  |int j=>let(t,rfl):=T;let(O,rfl):=J;exact ne_int (Za I q (t7 not akp))
  |_=>cases Y
 |_=>cases Y
def bbp{X:Cx}:Ez X (compareOp .Lt) (rI0 λi j=>.bl (decide (i<j))):=axz λ_ _ _ _ _ _ _ q=>lt_int q
def bbq{X:Cx}:Ez X (compareOp .LtE) (rI0 λi j=>.bl (decide (i<=j))):=axz λ_ _ _ _ _ _ _ q=>le_int q
def bbr{X:Cx}:Ez X (compareOp .Gt) (rI0 λi j=>.bl (decide (j<i))):=axz λ_ _ _ _ _ _ _ q=>gt_int q
def bbs{X:Cx}:Ez X (compareOp .GtE) (rI0 λi j=>.bl (decide (j<=i))):=axz λ_ _ _ _ _ _ _ q=>ge_int q
def ax2{X:Cx}:Ez X (compareOp .IsNot) (λx y H Q=>y=.non/\Q (.bl (!decide (x=.non))) H):=by
 intro Y s J H x y v u Q I T G h;let(rfl,q):=h;cases G;refine isnot_none_gen (Za I q ?_);cases x<;>first
  |(cases T;rfl)
  |(let(t,rfl):=T;rfl)
def Ez.or{X:Cx}{f:Value->Value->Sem Value}{r J:R2}(h:Ez X f r)(O:Ez X f J):Ez X f (λx y H Q=>r x y H Q\/J x y H Q):=by
 intro Y s T H x y v u Q I G B q;rcases q with q|q
 .exact h Y s T H x y v u Q I G B q
 .exact O Y s T H x y v u Q I G B q
def ax3{X:Cx}{a b:Expr}{G J:TE}{pos:Pos}{T:CmpOp}{r:R2}(S:Ez X (compareOp T) r)(O:PE X a G)(E:PE X b J)(L:behindInMarks T b=false):PE X (.Compare a [T] [b] pos) (tOp r G J):=by intro Y s B H Q I h;exact wpAny_Compare1 (a5r O E I h λv u P x y N I2 C R q=>S Y P B N x y v u Q I2 C R q) L
def a1z(t:TE):TT:=λY H Q=>t Y H λx T=>∃k,x=.bl k/\Q k T
def ax4{X:Cx}{a b:Expr}{J B:TE}{pos:Pos}{G:CmpOp}{r:R2}(K:Ez X (compareOp G) r)(O:PE X a J)(R:PE X b B)(F:behindInMarks G b=false):PT X (.Compare a [G] [b] pos) (a1z (tOp r J B)):=by
 intro Y s T H Q I h;refine wpAny_isTrue_Compare1 (R9 (O Y s T H _ I h) λv N x E I1 V W=>R9 (R Y N T E _ I1 W) λu S y P I2 L C =>
  Ko (K Y S T P x y v u _ I2 V L C) λc M (z,H3,I3,r3,k,e,q3)=>?_) F
 subst e;cases r3;exact nq (H3,I3,q3)
def ady(r N:R2)(C E G:TE):TE:=λY H Q=>C Y H λx J=>E Y J λy B=>r x y B λz T=>∃k,z=.bl k /\
 (if k=true then G Y T λO L=>N y O L Q else Q (.bl false) T)
def arp{X:Cx}{a b c:Expr}{E O L:TE}{pos:Pos}{B T:CmpOp}{r N:R2}(ho:Ez X (compareOp B) r)(J:Ez X (compareOp T) N)(A:PE X a E)(R:PE X b O)(hc:PE X c L)
 (M:autoParam (lastMarks [B,T] [b,c]=false) aU6._auto_1):PE X (.Compare a [B,T] [b,c] pos) (ady r N E O L):=by
 intro Y s G H Q I h;refine Compare_chain (R9 (A Y s G H _ I h) λv D x W I1 r1 S=>chain_link (R9 (R Y D G W _ I1 S) λu s2 y P I2 C q2 =>
  Ko (ho Y s2 G P x y v u _ I2 r1 C q2) λd F (z,H3,I3,r3,k,e,q3)=>?_)) M
 subst e;cases r3;refine nq ?_;cases k with
 |false=>exact ite_ff (.bl false,H3,I3,rfl,q3)|true=>exact ite_tt (chain_last (R9 (hc Y F G H3 _ I3 q3) λU s4 Z V K r4 q4=>J Y s4 G V y Z u U Q K C r4 q4))
def arq{X:Cx}{a b c:Expr}{E O L:TE}{pos:Pos}{B T:CmpOp}{r N:R2}(ho:Ez X (compareOp B) r)(J:Ez X (compareOp T) N)(Z:PE X a E)(R:PE X b O)(hc:PE X c L)
 (A:autoParam (lastMarks [B,T] [b,c]=false) aU6._auto_1):PT X (.Compare a [B,T] [b,c] pos) (a1z (ady r N E O L)):=by
 intro Y s G H Q I h;refine isTrue_chain (R9 (Z Y s G H _ I h) λv U x F I1 r1 V=>test_link (R9 (R Y U G F _ I1 V) λu s2 y P I2 C q2 =>
  Ko (ho Y s2 G P x y v u _ I2 r1 C q2) λd K (z,H3,I3,r3,k,e,q3)=>?_)) A
 subst e;cases r3;refine nq ?_;cases k with
 |false =>
  let(k',e',D):=q3;cases e';exact ite_ff (H3,I3,D)
 |true =>
  refine ite_tt (test_last (R9 (hc Y K G H3 _ I3 q3) λw' s4 z' W M r4 q4=>R9 (J Y s4 G W y z' u w' _ M C r4 q4) λd' s5 z2 H5 I5 S z_=>?_));let(k2,e2,q5):=z_;subst e2;cases S;exact nq (H5,I5,q5)
def adz:(sizeLine:Nat)<2^63:=by rw[ue];decide
def vals1{x:V}{Y:Zl}(r:Vals [x] Y):∃u,Y=[u]/\RelV x u:=by
 cases r with
 |cons G T=>cases T;exact(_,rfl,G)
def vals2{x y:V}{Y:Zl}(r:Vals [x,y] Y):∃u w',Y=[u,w']/\RelV x u/\RelV y w':=by
 cases r with
 |cons B T =>
  cases T with
  |cons G J=>cases J;exact(_,_,rfl,B,G)
def am6{X:Cx}(G:X.calm=true):Dp X (.builtin "max") (λZ H Q=>∃i j,Z=[.int i,.int j]/\Q (.int (if j > i then j else i)) H):=by
 intro T s J H Z O Q I r h;let(i,j,rfl,q):=h;let(u,B,rfl,(t,rfl),(C,rfl)):=vals2 r;refine max_two_ints (I.ok.hd G) λL N k=>(_,H,I.kept k,?_,q)
 by_cases Y:j > i
 .rw[dm Y,dm Y];exact(_,rfl)
 .rw[cz Y,cz Y];exact(_,rfl)
def am7{X:Cx}(G:X.calm=true):Dp X (.builtin "min") (λZ H Q=>∃i j,Z=[.int i,.int j]/\Q (.int (if j<i then j else i)) H):=by
 intro T s J H Z O Q I r h;let(i,j,rfl,q):=h;let(u,B,rfl,(t,rfl),(C,rfl)):=vals2 r;refine min_two_ints (I.ok.hd G) λL N k=>(_,H,I.kept k,?_,q)
 by_cases Y:j<i
 .rw[dm Y,dm Y];exact(_,rfl)
 .rw[cz Y,cz Y];exact(_,rfl)
end L2
namespace L2
open PySem PySem.Spec PyProof.Rows
structure ais(h:Heap)(x dx C:Addr)(mA:Zs):Prop where
 obj:h.get? x\(PySem.W.instObj C dx)
 ns:h.Ns1 dx mA
 ne:dx≠x
set_option tactic.hygienic true in
def am8{h:Heap}{N:Addr}{B:Zs}(n:h.Ns1 N B):∃Y,h.get? N\Y/\∀Z,PySem.W.lookIn Z Y\(B Z):=by
 let(o,O,V,H,R,P,_,Q):=n;refine(o,H,λZ=>?_);have e:=Q Z;unfold nsFind findBy at e;rw[<-Array.find?_toList]at e;unfold PySem.W.lookIn;rw[R];dsimp only;split
 .rename_i y q
  rw[q]at e;exact t7 some e
 .rename_i q
  rw[q]at e;have a:O.toList.any (·.refKey)=false:=by rw[List.any_eq_false];intro y E;let(z,t,T):=P y (Array.mem_toList_iff.mp E);simp[DictEntry.refKey,T]
  have L:¬O.toList.any (·.refKey)=true:=by rw[a];exact zr
  rw[cz L];exact t7 some e
def ais.look{h:Heap}{x Y C:Addr}{T:Zs}(I:ais h x Y C T):∃U,PySem.W.InstAt h x (PySem.W.instObj C Y) C (some U)/\∀Z,PySem.W.lookIn Z U\(T Z):=
 let (U,ho,hl):=am8 I.ns
 (U,(I.obj,rfl,rfl,ho),hl)
def get_map{prog:Program}{w:World}{A:Around}{E:Y1}{s:Shared}{K:Fg}{x R C:Addr}{B:Zs}{Y:Str}{v:Value}{T:Bool}{Q:Y1}(X:K.In s.heap)(I:ais s.heap x R C B)(P:PySem.W.plainGet K C Y=true)(L:PySem.W.hasDictIn K C=true)
 (O:PySem.W.findIn K (.ref C) Y\none) (S:B Y\v) (G:PySem.W.handedIn v=true) (h:Q v { s with toks:=s.toks+1 }) :
 wpAny (model prog w) A (getAttr (.ref x) Y T) Q E s:=by
 let(H,J,N):=I.look;exact PySem.W.get_value X J (PySem.W.plainGet_of P).1 (PySem.W.findObj_own L O rfl (by rw[N,S])) G h
def ars{prog:Program}{w:World}{A:Around}{E:Y1}{s:Shared}{K:Fg}{x S C f:Addr}{T:Zs}{Y:Str}{N:Sem Bool}{Q:Value×List Value->Shared->Prop}(X:K.In s.heap)(I:ais s.heap x S C T)(G:PySem.W.plainGet K C Y=true)
 (L:PySem.W.findIn K (.ref C) Y\(some (.ref f))) (P:PySem.W.isFn K (.ref f)=true) (R:T Y=none) (h:Q (.ref f,[.ref x]) s) :
 wpAny (model prog w) A (getMethod (.ref x) Y N) Q E s:=by
 let(B,J,O):=I.look;exact PySem.W.method_fn X J (PySem.W.plainGet_of G).1 (PySem.W.plainGet_of G).2 L (Cd.mp P) (by show(PySem.W.lookIn Y B).map (·.isSome)\false;rw[O,R];rfl) h
def ax5{prog:Program}{w:World}{A:Around}{E:Y1}{s:Shared}{K:Fg}{x G C:Addr}{P:Zs}{Y:Str}{v:Value}{S:Yf}{Q:Unit->Shared->Prop}(X:K.In s.heap)(I:ais s.heap x G C P)
 (M:PySem.W.findIn K (.ref C) "__setattr__"\(some (.builtin "object.__setattr__"))) (u:PySem.W.plainOver K C=true) (z:PySem.W.takerIn K C Y\none) (F:PySem.W.hasDictIn K C=true)
 (D:PySem.Within P S) (N:S.length<=sizeLine)
 (h:∀Z,ais Z x G C (λy=>if y=Y then some v else P y)->Heap.SameBut G s.heap Z->Q () { s with heap:=Z,toks:=s.toks+2 }) :
 wpAny (model prog w) A (setAttr (.ref x) Y v) Q E s:=by
 let(l,J,c):=I.look;refine PySem.W.set_plain X J M (PySem.W.osa_open (s:={ s with toks:=s.toks+1 }) (r:=none) X J u z λb=>?_);let(p,q,O):=PySem.W.any_some F;have g:s.heap.get? x\(.ref C,some G,.plain,#[]):=I.obj;refine aa (aj (aa (aa (wpAny_loadPart g (aa (PySem.W.Looks.here (s:={ s with toks:=s.toks+1 }) (PySem.W.looks_clsIn X q) ?_))))));rw[O];refine aj (a:=some G) (aa (aj (aa ?_)));refine wpAny_nsSet1 (s:={ s with toks:=s.toks+1 }) I.ns λZ H T=>?_
 let(d,V,j,B,L,R):=H.count (PySem.Within.cons Y v D);refine aa (wpAny_lookBehind B (by rw[L];exact pastItsLine_dict (gh R (by rw[ie];exact v_ N))) ?_);exact aj (h _ ((T.2 _ (lg I.ne)).trans I.obj,H,I.ne) T)
def art{prog:Program}{w:World}{A:Around}{s:Shared}{K:Fg}{C f:Addr}{R:Result->Shared->Prop}{T:Zl}{G:List (Str×Value)}(X:K.In s.heap)(B:PySem.W.makesIn K C=true)
 (J:PySem.W.findIn K (.ref C) "__init__"\(some (.ref f))) (O:PySem.W.typeIn K (.ref f)\(.type "function"))
 (h:codeAny (model prog w) (A.under (.builtin "type.__call__" (.ref C::T,G))) (.call (.ref f) (.ref (s.heap.objs.size+1)::T,G)) (PySem.W.InitBack (s.heap.objs.size+1) R)
  { s with heap:=(s.heap.push PySem.W.emptyDict).push (PySem.W.instObj C s.heap.objs.size) }) :
 codeAny (model prog w) A (.call (.ref C) (T,G)) R s:=by
 let(N,g,d,t,L):=s;exact PySem.W.make_core (PySem.W.makes_of X B) (PySem.W.looks_findIn X J) (λY=>PySem.W.bind_fn X Y O) (.inl rfl) h
noncomputable def Kp(f:Str)(v:V):List (Str×V)->List (Str×V)
 |[]=>[(f,v)]|(g,x)::r=>if g=f then(g,v)::r else(g,x)::Kp f v r
theorem W9(f g:Str)(v:V):∀fs:List (Str×V),(Kp f v fs).lookup g=if g=f then some v else fs.lookup g
 |[]=>by
  show List.lookup g [(f,v)]=_
  by_cases h:g=f
  .have Y:(g==f)=true:=Cd.mpr h
   simp only[List.lookup,Y,dm h]
  .have Y:(g==f)=false:=vd.mpr h
   simp only[List.lookup,Y,cz h]
 |(k,x)::r=>by
  have G:=W9 f g v r;rw[show Kp f v ((k,x)::r)=(if k=f then(k,v)::r else(k,x)::Kp f v r)from rfl]
  by_cases T:k=f
  .rw[dm T]
   by_cases h:g=k
   .have Y:(g==k)=true:=Cd.mpr h
    simp only[List.lookup,Y,dm (h.trans T)]
   .have Y:(g==k)=false:=vd.mpr h
    simp only[List.lookup,Y,cz (λe:g=f=>h (e.trans T.symm))]
  .rw[cz T]
   by_cases h:g=k
   .have Y:(g==k)=true:=Cd.mpr h
    simp only[List.lookup,Y,cz (λe:g=f=>T (h.symm.trans e))]
   .have Y:(g==k)=false:=vd.mpr h
    simp only[List.lookup,Y];exact G
theorem Wh(f:Str)(v:V):∀fs:List (Str×V),f∈(Kp f v fs).map (·.1)/\∀g,g∈fs.map (·.1)->g∈(Kp f v fs).map (·.1)
 |[]=>(by simp[Kp],λg h=>by simp at h)
 |(k,x)::r=>by
  let(G,T):=Wh f v r;rw[show Kp f v ((k,x)::r)=(if k=f then(k,v)::r else(k,x)::Kp f v r)from rfl]
  by_cases Y:k=f
  .rw[dm Y]
   subst Y;exact(by simp,λg h=>by simpa using h)
  .rw[cz Y]
   refine(?_,λg h=>?_)
   .rw[f9]
    exact bu _ G
   .rw[f9]at h⊢
    rcases dh.mp h with e|e
    .exact dh.mpr (.inl e)
    .exact bu _ (T g e)
theorem Xa(f:Str)(v:V):∀fs:List (Str×V),(Kp f v fs).length<=fs.length+1
 |[]=>by simp[Kp]
 |(k,x)::r=>by
  have T:=Xa f v r;rw[show Kp f v ((k,x)::r)=(if k=f then(k,v)::r else(k,x)::Kp f v r)from rfl]
  by_cases Y:k=f
  .rw[dm Y,ie,ie];exact x_
  .rw[cz Y,ie,ie];exact v_ T
def Qz.some_of{v:V}{o:Option Value}(r:Qz (some v) o):∃u,o\u/\RelV v u:=by
 cases o with
 |none=>exact(show False from r).elim
 |some u=>exact(u,rfl,r)
def Qz.none_of{o:Option Value}(r:Qz none o):o=none:=by
 cases o with
 |none=>rfl|some u=>exact(show False from r).elim
def am9{v:V}{u:Value}(r:RelV v u):PySem.W.handedIn u=true:=by
 cases v with
 |non=>cases(show u=Value.none from r);rfl
 |bl b=>cases(show u=Value.bool b from r);rfl
 |int i=>let(t,e):=(show ∃t,u=Value.int i t from r);cases e;rfl
 |str x=>let(t,e):=(show ∃t,u=Value.str x t from r);cases e;rfl
 |ref a=>cases(show u=Value.ref a from r);rfl
def Rh{P:Program}{w:World}{H:Hp}{h:Heap}{a C Y:Addr}{fs:List (Str×V)}(J:Tv P w H h)(e:H a\(.ins C Y fs)):∃Z,ais h a Y C Z/\(∀f,Qz (fs.lookup f) (Z f))/\PySem.Within Z (fs.map (·.1))/\fs.length<=1000/\H Y\(.own a):=by let(d,z,T,G,Z,n,r,q):=(show Ci P w H h a (.ins C Y fs)from J a _ e);exact(Z,(G,n,T),r,q,z,d)
structure Cls(K:Fg)(C:Addr):Prop where
 pg:PySem.W.plainGet K C Str.empty=true
 hd:PySem.W.hasDictIn K C=true
 po:PySem.W.plainOver K C=true
 sa:PySem.W.findIn K (.ref C) "__setattr__"\(some (.builtin "object.__setattr__"))
def Cls.get{K:Fg}{C:Addr}(c:Cls K C)(f:Str):PySem.W.plainGet K C f=true:=c.pg
def Lx(K:Fg)(C:Addr)(f:Str):Prop:=PySem.W.findIn K (.ref C) f\none
def Lx.taker{K:Fg}{C:Addr}{f:Str}(n:Lx K C f):PySem.W.takerIn K C f\none:=by unfold PySem.W.takerIn;rw[show PySem.W.findIn K (.ref C) f\none from n];rfl
structure Meth(K:Fg)(C:Addr)(m:Str)(f:Addr):Prop where
 at_:PySem.W.findIn K (.ref C) m\(some (.ref f))
 fn:PySem.W.isFn K (.ref f)=true
 kp:PySem.W.keepIn K (.ref f)=true
def aiu{X:Cx}{Y:Zp}{T:St}{H:Hp}{s:Shared}{a C N:Addr}{fs:List (Str×V)}{f:Str}{v:V}{A:Around}{E:Y1}{b:Bool}{Q:Y1}(I:Inv X Y T H s)(e:H a\(.ins C N fs))(c:Cls X.K C)(n:Lx X.K C f)(l:fs.lookup f\v)
 (h:∀u Z,Inv X Y T H Z->RelV v u->Q u Z):wpAny (model X.prog X.w) A (getAttr (.ref a) f b) Q E s:=by
 let(J,O,r,_,_,_):=Rh I.Bv e;let(u,B,G):=Qz.some_of (v:=v) (o:=J f) (by rw[<-l];exact r f);exact get_map I.kIn O (c.get f) c.hd n B (am9 G) (h u _ (I.tok _) G)
def aiv{X:Cx}{Y:Zp}{T:St}{H:Hp}{s:Shared}{a C B:Addr}{fs:List (Str×V)}{A:Around}{E:Y1}{m:Str}{g:Addr}{J:Sem Bool}{Q:Value×List Value->Shared->Prop}(I:Inv X Y T H s)(e:H a\(.ins C B fs))(c:Cls X.K C)(k:Meth X.K C m g)(l:fs.lookup m=none)
 (h:Q (.ref g,[.ref a]) s):wpAny (model X.prog X.w) A (getMethod (.ref a) m J) Q E s:=by
 let(G,O,r,_,_,_):=Rh I.Bv e;have N:G m=none:=Qz.none_of (by rw[<-l];exact r m);exact ars I.kIn O (c.get m) k.at_ k.fn N h
def aiw{X:Cx}{Y:Zp}{B:St}{H:Hp}{s:Shared}{a C T:Addr}{fs:List (Str×V)}{f:Str}{A:Around}{E:Y1}{y:V}{u:Value}{Q:Unit->Shared->Prop}(I:Inv X Y B H s)(e:H a\(.ins C T fs))(c:Cls X.K C)(n:Lx X.K C f)(L:fs.length<1000)(M:RelV y u)
 (h:∀Z,Inv X Y B (upd H a (.ins C T (Kp f y fs))) Z->Q () Z):wpAny (model X.prog X.w) A (setAttr (.ref a) f u) Q E s:=by
 let(N,O,r,J,_,P):=Rh I.Bv e;have R:(fs.map (·.1)).length<=sizeLine:=by rw[du,ue];exact e_ (b_ L ⋯)
 refine ax5 I.kIn O c.sa c.po n.taker c.hd J R λD G j=>h _ ?_
 have S:∃o,D.get? T\o:=let (o,_,_,e',_):=G.ns;(o,e');refine I.write (x:=a) (e:=T) (by rw[e];exact True.intro) (.inr P) (λb q W z=>(j.2 b W).trans z) S ?_;refine(by rw[qm O.ne];exact P,?_,O.ne,G.obj,_,G.ns,λg=>?_,λg F=>?_)
 .have:=Xa f y fs;exact a_ this L
 .show Qz ((Kp f y fs).lookup g) (if g=f then some u else N g)
  rw[W9]
  by_cases q:g=f
  .rw[dm q,dm q];exact M
  .rw[cz q,cz q];exact r g
 .by_cases q:g=f
  .rw[q];exact(Wh f y fs).1
  .refine(Wh f y fs).2 g (J g λz=>F ?_)
   show(if g=f then some u else N g)=none;rw[cz q];exact z
def Inv.made{X:Cx}{Y:Zp}{T:St}{H:Hp}{s:Shared}{C:Addr}(I:Inv X Y T H s):Inv X Y T (upd (upd H s.heap.objs.size (.own (s.heap.objs.size+1))) (s.heap.objs.size+1) (.ins C s.heap.objs.size []))
 { s with heap:=(s.heap.push PySem.W.emptyDict).push (PySem.W.instObj C s.heap.objs.size) }:=by
 have G:(s.heap.push PySem.W.emptyDict).get? s.heap.objs.size\PySem.W.emptyDict:=dg s.heap rfl;have N:((s.heap.push PySem.W.emptyDict).push (PySem.W.instObj C s.heap.objs.size)).get? (s.heap.objs.size+1)\(PySem.W.instObj C s.heap.objs.size):=by
  have:=dg (s.heap.push PySem.W.emptyDict) (o:=PySem.W.instObj C s.heap.objs.size) rfl
  rwa [jm]at this
 have B:(s.heap.push PySem.W.emptyDict).Ns s.heap.objs.size (λ_=>none):=(PySem.W.emptyDict,#[],_,G,rfl,(λe L=>absurd L (by simp)),λ_=>rfl);have I1:=I.laid (a:=s.heap.objs.size) (o:=.own (s.heap.objs.size+1)) (h':=s.heap.push PySem.W.emptyDict) (t':=s.toks) (λb u q=>au _ q) (bz _) (_,G);refine I1.laid (a:=s.heap.objs.size+1) (o:=.ins C s.heap.objs.size []) (t':=s.toks) (λb u q=>au _ q) (Nat.le_of_eq (jm _ _)) ?_;have J:s.heap.objs.size≠s.heap.objs.size+1:=gn (jy _);refine(by rw[qm J,yr],jd _,J,N,λ_=>none,(Heap.Ns1.of_empty B).at λo q=>au _ q,λ_=>True.intro,λy O=>absurd rfl O)
def ax6{A:Around}{E:Y1}{prog:Program}{w:World}{Y:Env}{e:Expr}{f:Str}{pos:Pos}{s:Shared}{Q:Y1}(T:attributeBase e f Y (eval e Y)=eval e Y)
 (h:wpAny (model prog w) A (eval e Y) (λo Z=>wpAny (model prog w) A (getAttr o f true) Q E Z) E s):wpAny (model prog w) A (eval (.Attribute e f pos) Y) Q E s:=
 Attribute_any_ h (by rw[arm_eval_Attribute,T])
def bh3(K:Fg)(J:TE)(f:Str):TE:=λT H Q=>J T H λx Y=>∃a C G fs v,x=.ref a/\Y a\(.ins C G fs)/\Cls K C/\Lx K C f/\fs.lookup f\v/\Q v Y
def bh4(K:Fg)(O J:TE)(f:Str):TS:=λD Y H=>J Y H λy B=>O Y B λx T=>∃a C G fs,x=.ref a/\T a\(.ins C G fs)/\Cls K C/\Lx K C f/\fs.length<1000 /\
 D.nx Y (upd T a (.ins C G (Kp f y fs)))
def a5z{X:Cx}{e:Expr}{f:Str}{pos:Pos}{T:TE}(L:PE X e T)(N:attributeBase e f X.env (eval e X.env)=eval e X.env):PE X (.Attribute e f pos) (bh3 X.K T f):=by intro Y s G H Q I h;refine ax6 N (R9 (L Y s G H _ I h) λu R x O I1 B z_=>?_);let(a,C,V,fs,v,J,E,c,n,l,q):=z_;subst J;obtain rfl:u=Value.ref a:=B;exact aiu I1 E c n l λS W I2 P=>(v,O,I2,P,q)
def a6a{X:Cx}{o Y:Expr}{f:Str}{pos T:Pos}{O B:TE}(W:PE X o O)(E:PE X Y B)(S:swapsWith Y (some (.Attribute o f T)) pos.line X.env=pure false):PS X (.Assign [.Attribute o f T] Y pos) (bh4 X.K O B f):=by intro G s J H D I h;refine plainObj_wpAny_Assign_Attribute (R9 (E G s J H _ I h) λu F y R I1 L q=>R9 (W G F J R _ I1 q) λV d x z I2 N z_=>?_) S;let(a,C,j,fs,P,Q,c,n,l,M):=z_;subst P;obtain rfl:V=Value.ref a:=N;exact aiw I2 Q c n l L λg A=>(J,_,A,M)
end L2
namespace L2
open PySem PySem.Spec PyProof.Rows
structure Bh(k:Nat)(A:Around):Prop where
 hd:A.handled=none
 dp:A.depth+3*k+5<recursionLimit
 un:A.units+16*k+200<cLine
def Bh.mono{j k:Nat}{A:Around}(r:Bh k A)(h:j<=k):Bh j A:=(r.hd,by have:=r.dp;lia,by have:=r.un;lia)
theorem Bh.deeper{k:Nat}{A:Around}(r:Bh (k+1) A)(Y:Env):Bh k (A.deeper Y):=
 (r.hd,by have:=r.dp;show A.depth+1+3*k+5<_;lia,by have:=r.un;show A.units+3+16*k+200<_;lia)
theorem Bh.in1{k:Nat}{A:Around}(r:Bh (k+1) A):Bh k A.in1:=
 (r.hd,by have:=r.dp;show A.depth+3*k+5<_;lia,by have:=r.un;show A.units+1+16*k+200<_;lia)
def aix{A:Around}{C:Addr}{T:Zl}{Y:List (Str×Value)}:(A.under (.builtin "type.__call__" (.ref C::T,Y))).depth=A.depth+1:=by first|rfl|simp[Around.under,Code.weight,Code.isCreation,Code.isGuard,Code.isCaller,Code.frames,Code.isFrame,guardIds]
def aiy{A:Around}{C:Addr}{T:Zl}{Y:List (Str×Value)}:(A.under (.builtin "type.__call__" (.ref C::T,Y))).units=A.units+1:=by first|rfl|simp[Around.under,Code.cUnits,Code.frames,Code.isFrame]
def Bh.make{k:Nat}{A:Around}(r:Bh (k+1) A)(C:Addr)(T:Zl)(Y:List (Str×Value)):Bh k (A.under (.builtin "type.__call__" (.ref C::T,Y))):=
 (r.hd,by have:=r.dp;rw[aix];lia,by have:=r.un;rw[aiy];lia)
theorem Bh.depth{k:Nat}{A:Around}(r:Bh k A):A.depth<recursionLimit:=by have:=r.dp;lia
theorem Bh.units{k:Nat}{A:Around}(r:Bh k A):A.units+64<cLine:=by have:=r.un;lia
def Bh.Zb{k:Nat}{A:Around}(r:Bh k A):A.units<cLine:=by have:=r.un;lia
def bbt:TA:=λ_ H Q=>Q [] H
def bbu(J:TE)(tr:TA):TA:=λY H Q=>J Y H λx T=>tr Y T λB G=>Q (x::B) G
def a6b{X:Cx}:PA X [] bbt:=λ_ _ _ _ H Q I h=>uh ([],H,I,.nil,h)
def ax7{X:Cx}{e:Expr}{T:Ya}{J:TE}{t:TA}(B:PE X e J)(S:PA X T t)(P:autoParam (starEach (e::T) X.env=(false,eval e X.env)::starEach T X.env) aU5._auto_1):PA X (e::T) (bbu J t):=by intro pos Y s G H Q I h;rw[P];show wpAny _ _ (spliced ((false,eval e X.env)::backTo pos (starEach T X.env))) _ _ s;refine mz (R9 (B Y s G H _ I h) λu C x L I1 W V=>?_);exact thA (S pos Y C G L _ I1 V) λF K R E I2 N O=>(x::R,E,I2,.cons W N,O)
def bh5(t:TA):TE:=λG H Q=>t G H λT Y=>T.length<=sizeLine/\∀p,Y p=none->Q (.ref p) (upd Y p (.tup T))
def bh6(t:TA):TE:=λG H Q=>t G H λT Y=>T.length<=sizeLine/\∀p,Y p=none->Q (.ref p) (upd Y p (.lst T))
def a6c{X:Cx}{G:Ya}{t:TA}{pos:Pos}{B}(h:PA X G t):PE X (.Tuple G B pos) (bh5 t):=by intro Y s J H Q I O;refine wpAny_Tuple_spliced (Ko (h pos Y s J H _ I O) λC T (xs,H1,I1,r,z,q)=>(by rw[<-r.length];exact z,?_));have N:H1 T.heap.objs.size=none:=I1.Bv.fresh (bz _);refine(.ref T.heap.objs.size,upd H1 T.heap.objs.size (.tup xs),I1.laid (t':=T.toks) (λb u e=>au _ e) (bz _) ?_,rfl,q _ N);exact(z,C,r,aaw.new _ _)
def aru{X:Cx}{G:Ya}{t:TA}{pos:Pos}(h:PA X G t):PE X (.List G pos) (bh6 t):=by intro Y s J H Q I B;refine wpAny_List_spliced (Ko (h pos Y s J H _ I B) λO T (xs,H1,I1,r,z,q)=>(by rw[<-r.length];exact z,?_));have C:H1 T.heap.objs.size=none:=I1.Bv.fresh (bz _);refine(.ref T.heap.objs.size,upd H1 T.heap.objs.size (.lst xs),I1.laid (t':=T.toks) (λb u e=>au _ e) (bz _) ?_,rfl,q _ C);exact(z,O,0,r,dg _ rfl)
abbrev Sp:=List V->Hp->VK->XK->Prop
abbrev CXT:=List Env->Hp->Shared->XK->Value->Shared->Prop
structure aiz(P:Program)(w:World)(K:Fg)(mg:Zs)(base:Heap)(A:Around)(outer:List Env)(s:Shared)(H:Hp):Prop where
 frames:A.frames\outer
 mod:Mod K mg base
 bs:∀b o,base.get? b\o->s.heap.get? b\o/\H b=none
 bsz:base.objs.size<=s.heap.objs.size
 Xo:s.heap.FunFrames base outer
 frf:∀b∈frs outer,H b=none
 Bv:Tv P w H s.heap
 bare:AllBare s.gens
def CE(Y:List Env)(P:Program)(w:World)(H:Hp)(s:Shared)(Q:VK)(u:Value)(T:Shared):Prop:=
 ∃v G,T.os=s.os/\AllBare T.gens/\Un (frs Y) [] H G s.heap T.heap/\Tv P w G T.heap/\RelV v u/\Q v G
def CR(G:CXT)(Y:List Env)(P:Program)(w:World)(H:Hp)(s:Shared)(Q:VK)(E:XK)(r:Result)(T:Shared):Prop:=
 match r with
 |.ok (.ret u)=>CE Y P w H s Q u T|.ok _=>False|.error e=>G Y H s E e T
structure Ii(P:Program)(w:World)(K:Fg)(mg:Zs)(base:Heap)(CX:CXT)(k:Nat)(f:Addr)(fd:FuncData)(ps:Yf)(sp:Sp):Prop where
 len:∀vs H Q E,sp vs H Q E->vs.length=ps.length
 run:∀(A:Around)(outer:List Env)(s:Shared)(H:Hp)(args:Args)(us:Zl)(vs:List V)(Q:VK)(E:XK),Bh k A->aiz P w K mg base A outer s H->BindsTo s fd args (ps.zip us)->Vals vs us->sp vs H Q E ->
  codeAny (model P w) A (.call (.ref f) args) (CR CX outer P w H s Q E) s
def Ii.imp{P:Program}{w:World}{K:Fg}{mg:Zs}{Y:Heap}{B:CXT}{k:Nat}{f:Addr}{fd:FuncData}{O:Yf}{J sp':Sp}(F:Ii P w K mg Y B k f fd O J)
 (h:∀Z H Q E,sp' Z H Q E->J Z H Q E):Ii P w K mg Y B k f fd O sp':=
 (λZ H Q E q=>F.len Z H Q E (h _ _ _ _ q),λA T s H G R Z Q E S L N V C=>F.run A T s H G R Z Q E S L N V (h _ _ _ _ C))
def aiz.make{P:Program}{w:World}{K:Fg}{mg:Zs}{T:Heap}{A:Around}{Y:List Env}{s:Shared}{H:Hp}(e:aiz P w K mg T A Y s H)(C:Addr)(J:Zl)(G:List (Str×Value)) :
 aiz P w K mg T (A.under (.builtin "type.__call__" (.ref C::J,G))) Y s H:=(by first|exact e.frames|(simpa[Around.under,Code.envs,Code.isFrame,pushEnvs]using e.frames),e.mod,e.bs,e.bsz,e.Xo,e.frf,e.Bv,e.bare)
def Inv.env0{X:Cx}{Y:Zp}{T:St}{H:Hp}{s:Shared}(I:Inv X Y T H s):aiz X.prog X.w X.K X.mg X.base X.A X.stack s H:=
 (I.ok.frames,I.ok.mod,I.bs,gh I.ok.bsz I.sz,I.stack,I.akm,I.Bv,I.bare)
def Inv.after{X:Cx}{Y:Zp}{J:St}{H:Hp}{s s':Shared}{Q:VK}{u:Value}(I:Inv X Y J H s)(h:CE X.stack X.prog X.w H s Q u s'):EP X Y J Q u s':=by let(v,B,os,T,un,O,r,q):=h;let(C,g,d,t,G):=s';obtain rfl:G=s.os:=os;exact(v,B,I.call (h':=C) (g':=g) (d':=d) (t':=t) (ch:=[]) un O T (λb z=>absurd z (by simp)),r,q)
def bbv(J:Sp)(T:List V)(E:XK)(t:TA):TE:=λY H Q=>t Y H λB G=>J (B++T) G Q E
def bbw(C:Addr)(m:Str)(J:Sp)(G:List V)(E:XK)(N:TE)(t:TA):TE:=λY H Q=>N Y H λx T=>∃a L fs,x=.ref a/\T a\(.ins C L fs)/\fs.lookup m=none /\
 t Y T λO B=>J (x::(O++G)) B Q E
def bbx(C:Addr)(B:Sp)(J:List V)(E:XK)(t:TA):TE:=λG H Q=>t G H λN T=>∀x Y,T x=none->T Y=none->Y≠x ->
 B (.ref x::(N++J)) (upd (upd T Y (.own x)) x (.ins C Y [])) (λv O=>v=.non/\Q (.ref x) O) E
def Binds(K:Fg)(fd:FuncData)(T:Yf)(G:Zl):Prop:=
 ∀(s:Shared)(Y:Zl),K.In s.heap->(Y++G).length=T.length->BindsTo s fd (Y,[]) (T.zip (Y++G))
def Binds.all{K:Fg}{fd:FuncData}{Y:Yf}(h:∀Z:List Value,Z.length=Y.length->bindArgs fd (Z,[])=pure (Y.zip Z)):Binds K fd Y []:=λs Z _ T=>by rw[Cu]at T⊢;exact .of_eq (h Z T)
def Passes(J:CXT)(X:Cx)(E:XK):Prop:=∀(Y:Zp)(G:St)(H:Hp)(s:Shared)(e:Value)(T:Shared),Inv X Y G H s->J X.stack H s E e T->X.xe e T
def arv{X:Cx}{L:CXT}{k:Nat}{f:Addr}{fd:FuncData}{O:Yf}{N:Sp}{J:List V}{G:Zl}{E:XK}{Y:Zp}{B:St}{H:Hp}{s:Shared}{Q:VK}{us:Zl}{vs:List V}(F:Ii X.prog X.w X.K X.mg X.base L k f fd O N)(Z:Bh k X.A)(W:Binds X.K fd O G)(S:Vals J G)(D:Passes L X E)
 (I:Inv X Y B H s) (r:Vals vs us) (h:N (vs++J) H Q E):wpAny (model X.prog X.w) X.A (call (.ref f) us) (EP X Y B Q) X.xe s:=by
 have C:Vals (vs++J) (us++G):=r.append S;have R:(us++G).length=O.length:=by rw[<-C.length];exact F.len _ _ _ _ h
 refine wpAny_call (yj (F.run X.A X.stack s H (us,[]) (us++G) (vs++J) Q E Z I.env0 (W s us I.kIn R) C h) λr P T=>?_);cases r with
 |error e=>exact D Y B H s e P I T
 |ok M =>
  cases M with
  |ret u=>exact I.after T|next=>exact False.elim T|brk=>exact False.elim T|cont=>exact False.elim T
def ax8{X:Cx}{C:CXT}{k:Nat}{f:Addr}{fd:FuncData}{J:Yf}{O:Sp}{G:List V}{B:Zl}{E:XK}{x:Str}{p pos:Pos}{e:Expr}{Y:Ya}{t:TA}(F:Ii X.prog X.w X.K X.mg X.base C k f fd J O)(P:Bh k X.A)(D:Gl X x)(R:X.mg x\(.ref f))(u:PySem.W.keepIn X.K (.ref f)=true)(N:Binds X.K fd J B)(M:Vals G B)(g:Passes C X E)
 (S:PA X (e::Y) t) (j:autoParam ((x==("__debug__": Str))=false) aU2._auto_1) (L:autoParam (starEach (e::Y) X.env=(false,eval e X.env)::starEach Y X.env) aU5._auto_1) (z:autoParam ((backTo pos (starEach Y X.env)).any (·.1)=false) aU5._auto_1) :
 PE X (.Call (.Name x p) (e::Y) [] pos) (bbv O G E t):=by
 intro T s y H Q I h;refine jn (adw I D R ?_ j);refine PySem.W.callWith_K (h₀:=X.base) I.ok.mod.kin u (thA (S pos T s y H _ I h) λv c d l I1 r q=>(I1.kIn,?_)) L z;exact arv F P N M g I1 r q
def arw{X:Cx}{P:CXT}{k:Nat}{f C:Addr}{fd:FuncData}{J:Yf}{N:Sp}{G:List V}{O:Zl}{E:XK}{m:Str}{pos Y:Pos}{o:Expr}{L:TE}{pl:Sem Bool}(D:PE X o L)(c:Cls X.K C)(B:Meth X.K C m f)(F:Ii X.prog X.w X.K X.mg X.base P k f fd J N)(z:Bh k X.A)(S:Binds X.K fd J O)(g:Vals G O)(r:Passes P X E)
 (j:autoParam (eval (.Call (.Attribute o m Y) [] [] pos) X.env=(do
  let Z<-eval o X.env
  standAt Y.atName
  let (f,first) <-holding [Z] (getMethod Z m pl)
  callWith pos f first (backTo pos (starEach [] X.env)) (backToKw pos (keywordEach [] X.env)))) aU5._auto_1) :
 PE X (.Call (.Attribute o m Y) [] [] pos) (bbw C m N G E L bbt):=by
 intro T s d H Q I h;refine PySem.W.methodCall_KW (pl:=pl) (R9 (D T s d H _ I h) λu p x v I1 R z_=>?_) j;let(a,t,fs,M,y,l,q):=z_;subst M;obtain rfl:u=Value.ref a:=R;refine aiv I1 y c B l ?_;exact PySem.W.callWith_K0 (first:=[.ref a]) I1.kIn B.kp (arv (us:=[.ref a]) (vs:=[.ref a]) F z S g r I1 (.cons rfl .nil) q)
structure Mk(K:Fg)(C f:Addr):Prop where
 makes:PySem.W.makesIn K C=true
 init:PySem.W.findIn K (.ref C) "__init__"\(some (.ref f))
 fn:PySem.W.isFn K (.ref f)=true
 kp:PySem.W.keepIn K (.ref C)=true
def arx{X:Cx}{W:CXT}{k:Nat}{f C:Addr}{fd:FuncData}{O:Yf}{R:Sp}{B:List V}{J:Zl}{E:XK}{Y:Zp}{N:St}{H:Hp}{s:Shared}{Q:VK}{G:Zl}{L:List V}(M:Mk X.K C f)(F:Ii X.prog X.w X.K X.mg X.base W k f fd O R)(hr:Bh (k+1) X.A)(hb:Binds X.K fd O J)(hd:Vals B J)
 (hx:Passes W X E) (I:Inv X Y N H s) (r:Vals L G)
 (h:∀x Z,H x=none->H Z=none->Z≠x->R (.ref x::(L++B)) (upd (upd H Z (.own x)) x (.ins C Z [])) (λv H2=>v=.non/\Q (.ref x) H2) E) :
 wpAny (model X.prog X.w) X.A (call (.ref C) G) (EP X Y N Q) X.xe s:=by
 have S:=h (s.heap.objs.size+1) s.heap.objs.size (I.Bv.fresh (v9 _)) (I.Bv.fresh (bz _)) (gn (jy _));have I2:=Inv.made (C:=C) I;have P:Vals (V.ref (s.heap.objs.size+1)::(L++B)) (Value.ref (s.heap.objs.size+1)::(G++J)):=.cons rfl (r.append hd);have U:(Value.ref (s.heap.objs.size+1)::G++J).length=O.length:=by have e:=P.length;rw[F.len _ _ _ _ S]at e;exact e.symm
 refine wpAny_call (art (f:=f) I.kIn M.makes M.init (Cd.mp M.fn) (yj (F.run _ X.stack _ _ (Value.ref (s.heap.objs.size+1)::G,[]) (Value.ref (s.heap.objs.size+1)::(G++J)) _ _ E (hr.make C G [])
  (I2.env0.make C G []) (hb _ (Value.ref (s.heap.objs.size+1)::G) I2.kIn U) P S) λr D T=>?_))
 cases r with
 |error e=>exact hx Y N _ _ e D I2 T
 |ok fl =>
  cases fl with
  |ret u =>
   let(v,H',I3,rv,ev,q3):=I2.after T;subst ev;exact(rv,(V.ref (s.heap.objs.size+1),H',I3,rfl,q3))
  |next=>exact False.elim T|brk=>exact False.elim T|cont=>exact False.elim T
def ax9{X:Cx}{N:CXT}{k:Nat}{f C:Addr}{fd:FuncData}{J:Yf}{O:Sp}{G:List V}{B:Zl}{E:XK}{x:Str}{p pos:Pos}{e:Expr}{Y:Ya}{t:TA}(M:Mk X.K C f)(F:Ii X.prog X.w X.K X.mg X.base N k f fd J O)(R:Bh (k+1) X.A)(y:Gl X x)(S:X.mg x\(.ref C))(L:Binds X.K fd J B)(z:Vals G B)(j:Passes N X E)
 (D:PA X (e::Y) t) (l:autoParam ((x==("__debug__": Str))=false) aU2._auto_1) (P:autoParam (starEach (e::Y) X.env=(false,eval e X.env)::starEach Y X.env) aU5._auto_1) (u:autoParam ((backTo pos (starEach Y X.env)).any (·.1)=false) aU5._auto_1) :
 PE X (.Call (.Name x p) (e::Y) [] pos) (bbx C O G E t):=by
 intro T s g H Q I h;refine jn (adw I y S ?_ l);refine PySem.W.callWith_K (h₀:=X.base) I.ok.mod.kin M.kp (thA (D pos T s g H _ I h) λm d v c I1 r q=>(I1.kIn,?_)) P u;exact arx M F R L z j I1 r q
structure X5(N P:Yf)(sc:Scope):Prop where
 kind:sc.kind=.function
 co:sc.isCoroutine=false
 gen:sc.isGenerator=false
 nd:N.Nodup
 pre:N.take P.length=P
 par:∀x∈P,sc.names.lookup x\.local\/sc.names.lookup x\.cell
 a6e:∀y∈sc.names,y.2≠.free
theorem abm{Y:Str->Option NameKind}{x:Str}:∀{binds:List (Str×Value)}{m:Zs},(∀v,(x,v)∉binds)->bindL Y binds m x=m x
 |[],_,_=>rfl
 |(n,v)::r,m,h=>by
  unfold bindL;rw[abm λw T=>h w (bu _ T)];split
  .have:x≠n:=by rintro rfl;exact h v dw
   simp[this]
  .rfl
theorem abn{Y:Str->Option NameKind}{x:Str}:∀{binds:List (Str×Value)}{m:Zs},(∀v,(x,v)∉binds)->bindC Y binds m x=m x
 |[],_,_=>rfl
 |(n,v)::r,m,h=>by
  unfold bindC;rw[abn λw T=>h w (bu _ T)];split
  .rfl
  .have:x≠n:=by rintro rfl;exact h v dw
   simp[this]
theorem abo{Y:Str->Option NameKind}{x:Str}{v:Value}:∀{P:Yf}{T:Zl}{i:Nat}{m:Zs},P.Nodup->P[i]?\x->T[i]?\v->Y x\.local ->
 bindL Y (P.zip T) m x\v
 |[],_,_,_,_,h,_,_=>by simp at h|_::_,[],_,_,_,_,h,_=>by simp at h
 |p::P,w::T,0,m,nd,h1,h2,hk=>by
  simp at h1 h2;subst h1;subst h2;show bindL Y ((p,w)::P.zip T) m p=_;unfold bindL;rw[abm λv G=>(ug.mp nd).1 (Bf G).1,dm hk];simp
 |p::P,w::T,i+1,m,nd,h1,h2,hk=>by
  show bindL Y ((p,w)::P.zip T) m x=_;unfold bindL;exact abo (i:=i) (ug.mp nd).2 (by simpa using h1) (by simpa using h2) hk
theorem abp{Y:Str->Option NameKind}{x:Str}{v:Value}:∀{P:Yf}{T:Zl}{i:Nat}{m:Zs},P.Nodup->P[i]?\x->T[i]?\v->Y x≠some .local ->
 bindC Y (P.zip T) m x\v
 |[],_,_,_,_,h,_,_=>by simp at h|_::_,[],_,_,_,_,h,_=>by simp at h
 |p::P,w::T,0,m,nd,h1,h2,hk=>by
  simp at h1 h2;subst h1;subst h2;show bindC Y ((p,w)::P.zip T) m p=_;unfold bindC;rw[abn λv G=>(ug.mp nd).1 (Bf G).1,cz hk];simp
 |p::P,w::T,i+1,m,nd,h1,h2,hk=>by
  show bindC Y ((p,w)::P.zip T) m x=_;unfold bindC;exact abp (i:=i) (ug.mp nd).2 (by simpa using h1) (by simpa using h2) hk
noncomputable def start(N:Yf)(Y:List V):St:=Y.map some++List.replicate (N.length-Y.length) none
noncomputable def ai0(B:CXT)(P:Program)(w:World)(K:Fg)(mg:Zs)(base:Heap)(N:Yf)(T:Str)(Y:Scope)(f:Addr)(J:Value)(A:Around)(outer:List Env)(s:Shared)(H:Hp)(E:XK):Cx where
 prog:=P
 w:=w
 K:=K
 mg:=mg
 base:=base
 A:=A.deeper (envOfC T Y s.heap.objs.size f J)
 N:=N
 s₀:=s
 H₀:=H
 env:=envOfC T Y s.heap.objs.size f J
 outer:=outer
 stack:=envOfC T Y s.heap.objs.size f J::outer
 ex:=[]
 calm:=true
 fn:=λ_=>true
 pn:=[]
 xe:=λe O=>wpAny (model P w) (A.deeper (envOfC T Y s.heap.objs.size f J)) (leaving (envOfC T Y s.heap.objs.size f J) e) (λ_ G=>B outer H s E e G) (λC G=>B outer H s E C G) O
def af5{Y:Scope}{n:Nat}{x:Str}(h:Y.names.lookup x\.cell):∃c,(cellsFrom n Y.names []).lookup x\c:=by have q:=PySem.W.cellsFrom_some Y.names n [] (.inl h);exact qx.mp q
def ana{CX:CXT}{P:Program}{w:World}{K:Fg}{mg:Zs}{B:Heap}{N C:Yf}{G:Str}{Y:Scope}{f:Addr}{D:Value}{A:Around}{T:List Env}{s s1:Shared}{H:Hp}{E:XK}{X:Zl}{R:List V}
 (S:X5 N C Y) (hd:A.handled=none) (O:aiz P w K mg B A T s H) (hl:R.length=C.length) (r:Vals R X)
 (x:InCallC s s.heap.objs.size (bindL (envOfC G Y s.heap.objs.size f D).kindOf (C.zip X) λ_=>none) (cellsFrom (s.heap.objs.size+1) Y.names []) (bindC (envOfC G Y s.heap.objs.size f D).kindOf (C.zip X) λ_=>none) s1) :
 Inv (ai0 CX P w K mg B N G Y f D A T s H E) [] (start N R) H s1:=by
 have Kq:C.length<=N.length:=by have:=t7 List.length S.pre;rw[List.length_take]at this;lia
 let(I,tk,rfl,U):=x.done;have Q:∀b:Addr,b∉(ai0 CX P w K mg B N G Y f D A T s H E).ex:=λb z=>absurd (show b∈([]:X9)from z) (by simp)
 refine((O.mod,S.kind,rfl,rfl,bz _,λy z c I J=>?_,λy L=>?_,λy c _ h=>?_,λ_=>hd,Around.frames_deeper O.frames,.inr (rfl,rfl),λb z=>absurd z (Q b),O.bs,O.bsz,λb _ _=>Q b,λb z=>absurd z (Q b),O.Xo,O.frf),
  rfl,O.bare,Un.kept U,(_,x.toInCall.ns,λi y v I J h3=>?_),λy c h=>(_,x.cell y c h),O.Bv.fresh (bz _),λy c h=>?_,λp M=>absurd (show p∈([]:Zp)from M) (by simp),O.Bv.kept U,?_)
 .exact name_of_addr x.apart (Am I) (Am J)
 .have L:Y.names.lookup y\.cell\/Y.names.lookup y\.free:=L
  rcases L with L|L
  .exact af5 L
  .exact absurd rfl (S.a6e _ (Am L))
 .exact xq (x.above y c (Am h))
 .have W:i<R.length:=by
   unfold start at J
   by_cases W:i<R.length
   .exact W
   .rw[jk (by simpa using W)]at J
    rw[List.getElem?_replicate]at J;split at J<;>cases J
  have ha:R[i]?\v:=by
   unfold start at J;rw[gq (by simpa using W),ir]at J;cases e:R[i]? with
   |none=>rw[e]at J;cases J|some a=>rw[e]at J;cases J;rfl
  let(u,Z,rv):=r.get ha;have M:C[i]?\y:=by rw[<-S.pre,List.getElem?_take_of_lt (b_ W (f_ hl))];exact I
  have F:C.Nodup:=by rw[<-S.pre];exact S.nd.sublist (List.take_sublist _ _)
  refine(u,rv,?_);rcases S.par y (bf M)with k|k
  .exact .inl (k,abo F M Z k)
  .let(c,e):=af5 (n:=s.heap.objs.size+1) k
   refine .inr (.inl k,c,e,?_);have q:=x.cell y c e;rw[abp F M Z (by show Y.names.lookup y≠_;rw[k];decide)]at q;exact q
 .exact O.Bv.fresh (xq (x.above y c (Am h)))
 .unfold start
  show _=N.length;rw[jw,du,ye]
  lia
def bbz{CX:CXT}{P:Program}{w:World}{K:Fg}{mg:Zs}{B:Heap}{k:Nat}{f:Addr}{R T:Str}{O:Arguments}{C:List Stmt}{Y:Scope}{dV kV X pm G ct oc:Value}{an od:Option Addr}
 {q0:Array (Option Value)} {N ps:Yf} {sp:Sp} (lk:K.lookup f\(oc,od,.func (PySem.W.fnOf R T O C Y dV kV X pm an G ct),q0)) (qk:PySem.W.codeIn K G T=true) (S:X5 N ps Y)
 (len:∀U H Q E,sp U H Q E->U.length=ps.length)
 (qq:∀(A:Around)(Z:List Env)(s:Shared)(H:Hp)(U:List V)(Q:VK)(E:XK),Bh k (A.deeper (envOfC T Y s.heap.objs.size f G))->sp U H Q E ->
  ∃t,U7 (ai0 CX P w K mg B N T Y f G A Z s H E) C t/\t { nx:=λ_ H'=>Q .non H',rt:=Q } (start N U) H) :
 Ii P w K mg B CX (k+1) f (PySem.W.fnOf R T O C Y dV kV X pm an G ct) ps sp:=by
 refine(len,λA Z s H q2 us U Q E hr M hb r D=>?_);have hl:=len _ _ _ _ D;have KX:K.In s.heap:=M.mod.kin.keeps λb o e=>(M.bs b o e).1
 have q1:s.heap.NoLimit:=M.mod.nolimit.keeps λb o e=>(M.bs b o e).1
 have qv:∀y∈ps.zip us,Y.names.lookup y.1\.local\/(Y.names.lookup y.1\.cell/\((cellsFrom (s.heap.objs.size+1) Y.names []).lookup y.1).isSome=true):=λ(n,v) hy=>by
  rcases S.par n (Bf hy).1 with q|q
  .exact .inl q
  .exact .inr (q,PySem.W.cellsFrom_some _ _ _ (.inl q))
 refine codeAny_call_function hr.depth (KX _ _ lk) rfl S.co S.gen rfl (PySem.W.codeRec_of KX qk) (hb _ _ _ _ ?_);refine wpAny_newFunctionEnv_cells S.kind qv λq3 he s1 x=>?_
 subst he;refine(q1.keeps x.toInCall.keep,codeAny_func ?_);let(t,ht,hq):=qq A Z s H U Q E (hr.deeper _) D;have I:Inv (ai0 CX P w K mg B N T Y f G A Z s H E) [] (start N U) H s1:=ana S hr.hd M hl r x;refine kj (ht [] s1 (start N U) H _ I hq) (λfl s' F=>?_) λe s' F=>F
 have fin:∀{L:St}{H':Hp}{v:V}{u:Value},Inv (ai0 CX P w K mg B N T Y f G A Z s H E) [] L H' s'->RelV v u->Q v H'->CE Z P w H s Q u s':=
  fun{L H' v u} J rv q=>(v,H',J.os,J.bare,J.base,J.Bv,rv,q)
 cases fl with
 |ret u =>
  let(v,L,H',J,rv,q):=F;exact fin J rv q
 |next =>
  let(L,H',J,q):=F;exact fin (v:=V.non) (u:=Value.none) J rfl q
 |brk =>
  let(_,_,_,q):=F;exact False.elim q
 |cont =>
  let(_,_,_,q):=F;exact False.elim q
end L2
namespace L2
open PySem PySem.Spec PyProof.Rows
def tCB(r:List V->Hp->VK->Prop)(t:TA):TE:=λY H Q=>t Y H λT G=>r T G Q
def ar0{X:Cx}{x:Str}{p pos:Pos}{e:Expr}{T:Ya}{t:TA}{id:String}{r:List V->Hp->VK->Prop}(E:Dp X (.builtin id) r)(S:Gl X x)(F:X.mg x=none)(K:bootBuiltins x\(.builtin id))(J:PA X (e::T) t)(A:autoParam (x≠"__name__") aU2._auto_1)(N:autoParam ((x==("__debug__": Str))=false) aU2._auto_1)
 (L:autoParam (starEach (e::T) X.env=(false,eval e X.env)::starEach T X.env) aU5._auto_1) (M:autoParam ((backTo pos (starEach T X.env)).any (·.1)=false) aU5._auto_1):PE X (.Call (.Name x p) (e::T) [] pos) (tCB r t):=by
 intro Y s G H Q I h;refine jn (Eg I S F K ?_ A N);exact xu (thA (J pos Y s G H _ I h) λP B C O I1 R W=>E Y B G O C P Q I1 R W) L M
def anb{X:Cx}{x:Str}{p pos:Pos}{e:Expr}{G:Ya}{t:TA}{T:String}{r:List V->Hp->VK->Prop}(P:Dp X (.type T) r)(W:Gl X x)(K:X.mg x=none)(M:bootBuiltins x\(.type T))(B:PA X (e::G) t)(D:autoParam (x≠"__name__") aU2._auto_1)(L:autoParam ((x==("__debug__": Str))=false) aU2._auto_1)
 (E:autoParam (starEach (e::G) X.env=(false,eval e X.env)::starEach G X.env) aU5._auto_1) (A:autoParam ((backTo pos (starEach G X.env)).any (·.1)=false) aU5._auto_1):PE X (.Call (.Name x p) (e::G) [] pos) (tCB r t):=by
 intro Y s J H Q I h;refine jn (Eg I W K M ?_ D L);exact j0 (thA (B pos Y s J H _ I h) λR O N C I1 S F=>P Y O J C N R Q I1 S F) E A
section
variable{κ:Type}[DecidableEq κ]
noncomputable def Ub(T:List (κ×V))(k:κ):Option V:=(T.find? λY=>decide (Y.1=k)).map (·.2)
noncomputable def putK(T:List (κ×V))(k:κ)(v:V):List (κ×V):=
 if(T.any λY=>decide (Y.1=k))=true then T.map (λY=>if Y.1=k then(Y.1,v)else Y)else T++[(k,v)]
def U8{p:κ×V}(e:p.1=k):Ub (p::r) k\p.2:=by simp[Ub,uf,e]
def U9{p:κ×V}(e:¬p.1=k):Ub (p::r) k=Ub r k:=by simp[Ub,uf,e]
theorem af6(k:κ):∀Z:List (κ×V),(Z.any λU=>decide (U.1=k))=(Ub Z k).isSome
 |[]=>rfl
 |p::r=>by
  rw[List.any_cons]
  by_cases e:p.1=k
  .simp only[U8 e,wu e,Bool.true_or,Option.isSome_some]
  .rw[U9 e,lz e,Bool.false_or];exact af6 k r
def Xb(Y:List (κ×V))(k:κ)(v:V):(putK Y k v).length<=Y.length+1:=by
 unfold putK;split
 .rw[du];exact x_
 .rw[jw,ie,List.length_nil];exact bz _
def Qz.Nb(r:Qz o u):o.isSome=u.isSome:=by
 cases o with
 |none=>cases u with
  |none=>rfl|some _=>exact(show False from r).elim
 |some _=>cases u with
  |none=>exact(show False from r).elim
  |some _=>rfl
theorem Qz.getD(r:Qz o u)(Y:RelV d Z):RelV (o.getD d) (u.getD Z):=by
 cases o with
 |none=>cases u with
  |none=>exact Y|some _=>exact(show False from r).elim
 |some _=>cases u with
  |none=>exact(show False from r).elim
  |some _=>exact r
def KV.val(r:KV Z U)(k:κ):Qz (Ub Z k) (valueAt U k):=by
 unfold KV at r
 induction r with
 |nil=>exact True.intro
 |@cons p q ps qs h t ih =>
  let(T,G):=h
  by_cases e:p.1=k
  .have Y:q.1=k:=T.symm.trans e
   have b:valueAt (q::qs) k\q.2:=by simp[valueAt,uf,Y]
   rw[U8 e,b];exact G
  .have Y:¬q.1=k:=λz=>e (T.trans z)
   have b:valueAt (q::qs) k=valueAt qs k:=by simp[valueAt,uf,Y]
   rw[U9 e,b];exact ih
theorem KV.any(r:KV U vs)(k:κ):(U.any λZ=>decide (Z.1=k))=vs.any λZ=>decide (Z.1=k):=by
 unfold KV at r
 induction r with
 |nil=>rfl|cons h t Y=>rw[List.any_cons,List.any_cons,Y,h.1]
def KV.Kd(r:KV U vs)(k:κ)(G:RelV y u) :
 KV (U.map λZ=>if Z.1=k then(Z.1,y)else Z) (vs.map λZ=>if Z.1=k then(Z.1,u)else Z):=by
 unfold KV at r⊢
 induction r with
 |nil=>exact .nil
 |@cons p q ps qs h t ih =>
  rw[f9,f9];refine .cons ?_ ih;let(Y,T):=h
  by_cases e:p.1=k
  .rw[dm e,dm (Y.symm.trans e)];exact(Y,G)
  .rw[cz e,cz (λz=>e (Y.trans z))];exact(Y,T)
def KV.put(r:KV U Z)(k:κ)(Y:RelV y u):KV (putK U k y) (stored Z k u):=by
 unfold putK stored;rw[r.any k]
 by_cases e:(Z.any λT=>decide (T.1=k))=true
 .rw[dm e,dm e];exact r.Kd k Y
 .rw[cz e,cz e];exact Paired.snoc r (rfl,Y)
theorem KV.length{T:List (κ×V)}{Y:List (κ×Value)}(r:KV T Y):T.length=Y.length:=Paired.length r
end
def abq(r:RelV (kV k) u):(ql P w).is k u=true:=by
 cases k with
 |inl i=>let(t,e):=(show ∃t,u=Value.int i t from r);subst e;exact af0 P w i t
 |inr x=>let(t,e):=(show ∃t,u=Value.str x t from r);subst e;exact af1 P w x t
theorem abr{P:Program}{w:World}:∀{Y:List Key}{T:Zl},Vals (Y.map kV) T->ItemsAre (ql P w) Y T
 |[],_,r=>by rw[Bu]at r;cases r;exact .nil
 |k::Y,_,r=>by
  rw[f9]at r;cases r with
  |cons h t=>exact .cons (abq h) (abr t)
abbrev KT(H:Hp):List (List Key×V)->List (List Key×Addr×Value)->Prop:=Paired λp q=>p.1=q.1/\H q.2.1\(.tup (p.1.map kV))/\RelV p.2 q.2.2
def KT.val(r:KT H Z U)(k:List Key):Qz (Ub Z k) ((atKey U k).map (·.2)):=by
 induction r with
 |nil=>exact True.intro
 |@cons p q ps qs h t ih =>
  let(T,_,G):=h
  by_cases e:p.1=k
  .have Y:q.1=k:=T.symm.trans e
   have b:atKey (q::qs) k\q.2:=by simp[atKey,uf,Y]
   rw[U8 e,b];exact G
  .have Y:¬q.1=k:=λz=>e (T.trans z)
   have b:atKey (q::qs) k=atKey qs k:=by simp[atKey,uf,Y]
   rw[U9 e,b];exact ih
def KT.Kd(r:KT H U xs)(k:List Key)(J:RelV y u) :
 KT H (U.map λZ=>if Z.1=k then(Z.1,y)else Z) (xs.map (putAt k u)):=by
 induction r with
 |nil=>exact .nil
 |@cons p q ps qs h t ih =>
  rw[f9,f9];refine .cons ?_ ih;let(Y,T,G):=h;unfold putAt
  by_cases e:p.1=k
  .rw[dm e,dm (Y.symm.trans e)];exact(Y,T,J)
  .rw[cz e,cz (λz=>e (Y.trans z))];exact(Y,T,G)
def KT.put(r:KT H U Z)(k:List Key)(G:H b\(.tup (k.map kV)))(Y:RelV y u) :
 KT H (putK U k y) (storedH Z k b u):=by
 have e:(U.any λT=>decide (T.1=k))=(atKey Z k).isSome:=by rw[af6,(r.val k).Nb,Option.isSome_map]
 unfold putK storedH;rw[e]
 by_cases q:(atKey Z k).isSome=true
 .rw[dm q,dm q];exact r.Kd k Y
 .rw[cz q,cz q];exact Paired.snoc r (rfl,G,Y)
def KT.keeps(r:KT H U xs)(Y:∀b Z,H b\(.tup Z)->H' b\(.tup Z)):KT H' U xs:=
 Paired.a4p r λ_ _ z=>(z.1,Y _ _ z.2.1,z.2.2)
def a2b(ok:Tv P w H h)(e:Rd H a u):Ci P w H h a u:=e.ok ok
def abt(ok:Tv P w H h)(e:Rd H a (.dK Z)):Z.length<=sizeLine/\(a==sysModules)=false/\∃vs,KV Z vs/\h.DictOf (ql P w) a vs:=
 show Ci P w H h a (.dK Z)from a2b ok e
def bb1(ok:Tv P w H h)(e:H a\(.dK Z)):Z.length<=sizeLine/\(a==sysModules)=false/\∃vs,KV Z vs/\h.DictOf (ql P w) a vs:=abt ok (.inl e)
def Q5(ok:Tv P w H h)(e:H a\(.tup (Z.map kV))):(tupleKind (ql P w)).is h Z a:=by let(_,J,r,o,G,T,n,Y,_):=(show Ci P w H h a (.tup (Z.map kV))from ok a _ e);exact(o,J.toArray,n,G,T,Y,by simpa using abr r)
def abu(ok:Tv P w H h)(e:Rd H a (.dT Z)):Z.length<=sizeLine/\(a==sysModules)=false /\
 ∃xs,KT H Z xs/\h.DictOfH (tupleKind (ql P w)) a xs:=by
 let(z,y,xs,r,o,G,N,B,J,T,O,C):=(show Ci P w H h a (.dT Z)from a2b ok e);refine(z,y,xs,r,o,G,N,B,J,T,O,λx Y=>?_,C);have all:∀{l:List (List Key×V)}{m:List (List Key×Addr×Value)},KT H l m->∀x∈m,(tupleKind (ql P w)).is h x.1 x.2.1:=by
  intro l m q
  induction q with
  |nil=>intro x Y;exact nomatch Y
  |@cons p q ps qs hq t ih =>
   intro x Y;rcases dh.mp Y with e|Y
   .subst e
    exact Q5 ok (by rw[<-hq.1];exact hq.2.1)
   .exact ih x Y
 exact all r x Y
def ar3(ok:Tv P w H h)(e:H a\(.dT Z)):Z.length<=sizeLine/\(a==sysModules)=false /\
 ∃xs,KT H Z xs/\h.DictOfH (tupleKind (ql P w)) a xs:=abu ok (.inl e)
def Sd(H:Hp)(a:Addr)(y:V)(r:Option V):Prop:=
 (∃Y k,Rd H a (.dK Y)/\y=kV k/\r=Ub Y k)\/∃Y k b,Rd H a (.dT Y)/\y=.ref b/\H b\(.tup (k.map kV))/\r=Ub Y k
def ai1(H:Hp)(a:Addr)(y v:V)(T:Hp):Prop:=
 (∃Y k,H a\(.dK Y)/\y=kV k/\Y.length<sizeLine/\T=upd H a (.dK (putK Y k v))) \/
 ∃Y k b,H a\(.dT Y)/\y=.ref b/\H b\(.tup (k.map kV))/\Y.length<sizeLine/\T=upd H a (.dT (putK Y k v))
theorem Sd.k{k:Key}(e:H a\(.dK Z)):Sd H a (kV k) (Ub Z k):=.inl (Z,k,.inl e,rfl,rfl)
def Sd.t{k:List Key}(e:H a\(.dT Z))(Y:H b\(.tup (k.map kV))):Sd H a (.ref b) (Ub Z k):=.inr (Z,k,b,.inl e,rfl,Y,rfl)
theorem ai1.k{k:Key}(e:H a\(.dK Z))(Y:Z.length<sizeLine):ai1 H a (kV k) v (upd H a (.dK (putK Z k v))):=.inl (Z,k,e,rfl,Y,rfl)
def ai1.t{k:List Key}(e:H a\(.dT Z))(Y:H b\(.tup (k.map kV)))(T:Z.length<sizeLine) :
 ai1 H a (.ref b) v (upd H a (.dT (putK Z k v))):=.inr (Z,k,b,e,rfl,Y,T,rfl)
def Inv.big(I:Inv X pins σ H s):sysModules<s.heap.objs.size:=by
 have h:mainGlobals<s.heap.objs.size:=(I.mod.glob.keeps I.bk).lt
 exact Nat.lt_trans ⋯ h
def anc(V:A.units+1<cLine)(I:Inv X pins σ H s)(g:Sd H a y (some v))(C:RelV y u)(h:∀Z U,Inv X pins σ H U->RelV v Z->Q Z U) :
 wpAny (model X.prog X.w) A (getItem (.ref a) u) Q E s:=by
 rcases g with⟨L,k,e,G,l⟩|⟨L,k,b,e,G,W,l⟩
 .subst G
  let(z,N,R,Y,B):=abt I.Bv e;let(Z,O,T):=Qz.some_of (v:=v) (o:=valueAt R k) (by rw[l];exact Y.val k);exact wpAny_getItem_of (abq C) B.mapOf O (h Z _ (I.tok _) T)
 .subst G
  cases(show u=Value.ref b from C);let(z,N,S,Y,B):=abu I.Bv e;let(Z,O,T):=Qz.some_of (v:=v) (o:=(atKey S k).map (·.2)) (by rw[l];exact Y.val k);let(p,P,J):=dj.mp O;refine wpAny_getItem_heap (yq V) (Q5 I.Bv W) B P ?_;rw[J];exact h Z _ (I.tok _) T
def bh8(C:A.units+1<cLine)(I:Inv X pins σ H s)(g:Sd H a y o)(B:RelV y u)(h:∀Z,Inv X pins σ H Z->Q (.bool o.isSome) Z) :
 wpAny (model X.prog X.w) A (compareOp .In u (.ref a)) Q E s:=by
 rcases g with⟨O,k,e,T,l⟩|⟨O,k,b,e,T,N,l⟩
 .subst T
  let(z,G,L,Y,J):=abt I.Bv e;refine wpAny_in_of (abq B) G J.mapOf ?_;rw[<-(Y.val k).Nb,<-l];exact h _ (I.tok _)
 .subst T
  cases(show u=Value.ref b from B);let(z,G,P,Y,J):=abu I.Bv e;refine wpAny_in_heap (yq C) (Q5 I.Bv N) G J ?_;have q:=(Y.val k).Nb;rw[Option.isSome_map]at q;rw[<-q,<-l];exact h _ (I.tok _)
def aya(C:A.units+1<cLine)(I:Inv X pins σ H s)(g:Sd H a y o)(B:RelV y u)(h:∀Z,Inv X pins σ H Z->Q (.bool (!o.isSome)) Z) :
 wpAny (model X.prog X.w) A (compareOp .NotIn u (.ref a)) Q E s:=by
 rcases g with⟨O,k,e,T,l⟩|⟨O,k,b,e,T,N,l⟩
 .subst T
  let(z,G,L,Y,J):=abt I.Bv e;refine wpAny_notIn_of (abq B) G J.mapOf ?_;rw[<-(Y.val k).Nb,<-l];exact h _ (I.tok _)
 .subst T
  cases(show u=Value.ref b from B);let(z,G,P,Y,J):=abu I.Bv e;refine wpAny_notIn_heap (yq C) (Q5 I.Bv N) G J ?_;have q:=(Y.val k).Nb;rw[Option.isSome_map]at q;rw[<-q,<-l];exact h _ (I.tok _)
def akr(I:Inv X pins σ H s)(Y:Mut (H a))(T:Heap.SameBut a s.heap Z)(J:∃q,Z.get? a\q)(new:Ci X.prog X.w (upd H a U) Z a U) :
 Inv X pins σ (upd H a U) { s with heap:=Z,toks:=t' }:=
 I.write (x:=a) (e:=a) Y (.inl rfl) (λb q G z=>(T.2 b G).trans z) J new
def a6f(z:U.length<=sizeLine)(T:(a==sysModules)=false)(Y:KV U Z)(G:h'.DictOf (ql P w) a Z) :
 Ci P w H' h' a (.dK U):=(z,T,Z,Y,G)
def abv(hu:A.units+1<cLine)(I:Inv X pins σ H s)(g:ai1 H a y v H')(V:RelV y u)(S:RelV v r)(h:∀Z,Inv X pins σ H' Z->Q () Z) :
 wpAny (model X.prog X.w) A (setItem (.ref a) u r) Q E s:=by
 rcases g with⟨G,k,e,R,l,L⟩|⟨G,k,b,e,R,K,l,L⟩
 .subst R L
  let(z,P,vs,Y,C):=bb1 I.Bv e;have B:vs.length<=sizeLine:=by rw[<-Y.length];exact z
  have O:(putK G k v).length<=sizeLine:=by have:=Xb G k v;exact a_ this l
  refine wpAny_setItem_pairs (hsz:=B) (abq V) C λF T N=>h _ ?_
  have he:∃q,F.get? a\q:=let (q,_,_,J,_):=T;(q,J);exact akr I (by rw[e];exact True.intro) N he (a6f O P (Y.put k S) T)
 .subst R L
  cases(show u=Value.ref b from V);let(z,P,xs,Y,C):=ar3 I.Bv e;have B:xs.length<=sizeLine:=by rw[<-Paired.length Y];exact z
  have O:(putK G k v).length<=sizeLine:=by have:=Xb G k v;exact a_ this l
  refine wpAny_setItem_heap (hsz:=B) (yq hu) (Q5 I.Bv K) C λF T N=>h _ ?_
  let(q,U,ep,J,M,D,h4,_,h5):=T;refine akr I (by rw[e];exact True.intro) N (q,J) (O,P,_,(Y.put k K S).keeps λc ys W=>?_,q,U,ep,J,M,D,h4,h5);rw[qm (aq6 W e (λz=>nomatch z))];exact W
def af7(I:Inv X pins σ H s)(g:Sd H a y o):s.TypeIs (.ref a) "dict":= by
 rcases g with⟨T,k,e,_,_⟩|⟨T,k,b,e,_,_,_⟩
 .let(_,_,G,_,Y):=abt I.Bv e
  exact Y.typeIs
 .let(_,_,J,_,Y):=abu I.Bv e
  exact Y.typeIs
def ar5(h:Heap)(Y:sysModules<h.objs.size):Ci P w H (h.push { cls:=.type "dict",data:=.dict #[] }) h.objs.size (.dK []):=
 (jd _,vd.mpr (lg (gn Y)),[],.nil,Heap.DictOf.new h)
def ar6(h:Heap)(Y:sysModules<h.objs.size):Ci P w H (h.push { cls:=.type "dict",data:=.dict #[] }) h.objs.size (.dT []):=
 (jd _,vd.mpr (lg (gn Y)),[],.nil,_,#[],0,dg _ rfl,(rfl,rfl,rfl),rfl,rfl,Bt)
def a6g:TE:=λ_ H Q=>∀p,H p=none->Q (.ref p) (upd H p (.dK []))
def a6h:TE:=λ_ H Q=>∀p,H p=none->Q (.ref p) (upd H p (.dT []))
def ar7:PE X (.Dict [] [] pos) a6g:=λY s T H Q I h =>
 wpAny_Dict_empty (.ref s.heap.objs.size,_,I.laid (a:=s.heap.objs.size) (o:=.dK []) (t':=s.toks) (λ_ _ q=>au _ q) (bz _) (ar5 s.heap I.big),rfl,h _ (I.Bv.fresh (bz _)))
def ar8:PE X (.Dict [] [] pos) a6h:=λY s T H Q I h =>
 wpAny_Dict_empty (.ref s.heap.objs.size,_,I.laid (a:=s.heap.objs.size) (o:=.dT []) (t':=s.toks) (λ_ _ q=>au _ q) (bz _) (ar6 s.heap I.big),rfl,h _ (I.Bv.fresh (bz _)))
def ar9(L:A.units+1<cLine)(I:Inv X pins σ H s)(g:Sd H a y o)(O:RelV y u)(B:RelV d r)(h:∀U Z,Inv X pins σ H Z->RelV (o.getD d) U->Q U Z) :
 wpAny (model X.prog X.w) A (call (.builtin "dict.get") [.ref a,u,r]) Q E s:=by
 rcases g with⟨C,k,e,G,l⟩|⟨C,k,b,e,G,P,l⟩
 .subst G
  let(z,J,R,Y,T):=abt I.Bv e;refine call_meetsIn PySem.F.slot_dict_get T.typeIs PySem.F.entry_dict_get (PySem.F.args_dict_get_3 _ _ _) (meets_dict_get_default (ql X.prog X.w) a (abq O) J r) (_,T.mapOf,h _ _ (I.tok _) ?_);rw[l];exact(Y.val k).getD B
 .subst G
  cases(show u=Value.ref b from O);let(z,J,N,Y,T):=abu I.Bv e;refine call_meetsIn PySem.F.slot_dict_get T.typeIs PySem.F.entry_dict_get (PySem.F.args_dict_get_3 _ _ _) (meetsH_dict_get_default (tupleKind (ql X.prog X.w)) a b J r) (yq L,k,N,Q5 I.Bv P,T,h _ _ (I.tok _) ?_);rw[l];exact(Y.val k).getD B
end L2
namespace HT
open PySem PyProof.Rows
noncomputable def sIx(n d:Nat):Option Int->Nat
 |none=>d|some v=>if v<0 then(v+(n:Int)).toNat else min v.toNat n
end HT
namespace L2
open PySem PySem.Spec PyProof.Rows
abbrev TO:=St->Hp->(Option Int->Hp->Prop)->Prop
def PO(X:Cx)(e:Option Expr)(t:TO):Prop:=
 ∀(Y:Zp)(s:Shared)(T:St)(H:Hp)(Q:Option Int->Hp->Prop),Inv X Y T H s->t T H Q ->
  wpAny (model X.prog X.w) X.A (evalPart e X.env) (λu J=>∃o G,Inv X Y T G J/\IsPart u o/\Q o G) X.xe s
def ayb:TO:=λ_ H Q=>Q none H
def bb2(t:TE):TO:=λY H Q=>t Y H λx T=>∃i,x=.int i/\Q (some i) T
def ayc:PO X none ayb:=by intro Y s T H Q I h;rw[evalPart_none];exact aj (none,H,I,.none,h)
def ayd(h:PE X e Z):PO X (some e) (bb2 Z):=by
 intro Y s T H Q I O;rw[evalPart_some];refine R9 (h Y s T H _ I O) λu C x G I1 B J=>?_
 let(i,rfl,q):=J;let(t,rfl):=B;exact(some i,G,I1,.int i t,q)
def SlR(X:Cx)(r:V->Option Int->Option Int->Hp->VK->Prop):Prop:=
 ∀(Y:Zp)(s:Shared)(G:St)(H:Hp)(x:V)(v J O:Value)(C B:Option Int)(N:Addr)(Q:VK),Inv X Y G H s->RelV x v->s.heap.IsSliceOf N J O .none->IsPart J C->IsPart O B->r x C B H Q ->
  ∃T id,typeLookup (.type T) "__getitem__"= pure (some (.builtin id))/\s.TypeIs v T/\wpAny (model X.prog X.w) X.A (getItem v (.ref N)) (EP X Y G Q) X.xe s
def tSl(r:V->Option Int->Option Int->Hp->VK->Prop)(C:TE)(T O:TO):TE:=λY H Q=>C Y H λx G=>T Y G λl J=>O Y J λu B=>r x l u B Q
def asa{C:Option Expr}(V:SlR X r)(S:PE X e te)(L:PO X C U)(M:PO X Z th):PE X (.Subscript e (.Slice C Z none p2) pos) (tSl r te U th):=by
 intro Y s J H Q I h;refine Subscript_ (R9 (S Y s J H _ I h) λv F x R I1 z E=>?_);refine wpAny_Slice (Ko (L Y F J R _ I1 E) λB c (l,H2,I2,pl,q2)=>Ko (M Y c J H2 _ I2 q2) λO G z_=>?_);let(u,N,j,D,P):=z_;rw[evalPart_none];refine aj ?_;have W:Inv X Y J N { G with heap:=G.heap.push { cls:=.type "slice",data:=.fields #[B,O,.none] } }:=j.kept (t':=G.toks) λb d q=>au _ q
 let(T,id,g,y,K):=V Y { G with heap:=G.heap.push { cls:=.type "slice",data:=.fields #[B,O,.none] } } J N x v B O l u G.heap.objs.size Q W z (Heap.IsSliceOf.new ..) pl D P;show wpAny (model X.prog X.w) X.A (subscriptTail e (.Slice C Z none p2) v (.ref G.heap.objs.size)) (EP X Y J Q) X.xe { G with heap:=G.heap.push { cls:=.type "slice",data:=.fields #[B,O,.none] } };exact tail_any (ops:=[.ref G.heap.objs.size,v]) y g K (by with_unfolding_all rfl)
def ane(Y:List V)(T G:Option Int):List V:=(Y.drop (HT.sIx Y.length 0 T)).take (HT.sIx Y.length Y.length G-HT.sIx Y.length 0 T)
def af8(Y:List V)(T G:Option Int):(ane Y T G).length<=Y.length:=by
 unfold ane;rw[List.length_take,List.length_drop]
 lia
end L2
namespace L2
open PySem PySem.Spec PyProof.Rows
noncomputable def ixN(n:Nat)(i:Int):Option Nat:=if 0<=i then(if i<n then some i.toNat else none)else if -(n:Int)<=i then some (i+n).toNat else none
def atI{α:Type}(Y:List α)(i:Int):Option α:=(ixN Y.length i).bind λj=>Y[j]?
def aks(h:ixN n i\j):seqIndex? i n\j/\j<n/\-(n:Int)<=i/\i<n:=by
 unfold ixN at h
 by_cases T:0<=i
 .rw[dm T]at h
  by_cases Y:i<n
  .rw[dm Y]at h
   have e:i.toNat=j:=mj h;exact(by rw[seqIndex_of T Y,e],by lia,by lia,Y)
  .rw[cz Y]at h;cases h
 .rw[cz T]at h
  by_cases Y:-(n:Int)<=i
  .rw[dm Y]at h
   have e:(i+n).toNat=j:=mj h;exact(by rw[seqIndex_neg (by lia) Y,e],by lia,Y,by lia)
  .rw[cz Y]at h;cases h
def akt(h:atI Z i\v):∃j,seqIndex? i Z.length\j/\Z[j]?\v/\j<Z.length/\-(Z.length:Int)<=i/\i<Z.length:=by
 unfold atI at h;cases e:ixN Z.length i with
 |none=>rw[e]at h;cases h
 |some j =>
  rw[e]at h;let(G,T,Y,J):=aks e;exact(j,G,h,T,Y,J)
def ad0(b:Expr):Prop:=∀o i,subscripted b false o i=operate [o,i] (getItem o i)
def IxR(X:Cx)(r:R2):Prop:=
 ∀(G Y:Expr)(T:Zp)(s:Shared)(J:St)(H:Hp)(x y:V)(v u:Value)(Q:VK),Inv X T J H s->RelV x v->RelV y u->r x y H Q ->
  subscripted Y false v u=operate [v,u] (getItem v u)->wpAny (model X.prog X.w) X.A (subscriptTail G Y v u) (EP X T J Q) X.xe s
def MtR(X:Cx)(id:String)(r:V->List V->Hp->VK->Prop):Prop:=
 ∀(Y:Zp)(s:Shared)(T:St)(H:Hp)(x:V)(J:List V)(v:Value)(G:Zl)(Q:VK),Inv X Y T H s->RelV x v->Vals J G->r x J H Q ->
  wpAny (model X.prog X.w) X.A (call (.builtin id) (v::G)) (EP X Y T Q) X.xe s
def bb4(N:IxR X r)(G:PE X a Z)(C:PE X b tb)(O:ad0 b):PE X (.Subscript a b pos) (tOp r Z tb):=by intro Y s T H Q I h;exact Subscript_ (a5r G C I h λv u E x y B I2 J L q=>N a b Y E T B x y v u Q I2 J L q (O _ _))
def bh9(K:Fg):R2:=λx y H Q=>∃p Y i v,x=.ref p/\y=.int i/\Kc K H p Y/\atI Y i\v/\Q v H
def bia(K:Fg):R2:=λx y H Q=>∃p Y i v,x=.ref p/\y=.int i/\O9 K H p Y/\atI Y i\v/\Q v H
def Ei:IxR X (bh9 X.K):=by
 intro C B Y s E H x y v u Q I V F h N;let(p,xs,i,z,rfl,rfl,A,M,q):=h;cases V;let(t,rfl):=F;let(U,r,O,hz):=I.list A;let(j,T,W,h3,D,Z):=akt M;let(w,L,J):=r.get W;have S:=r.length;have hn:=adz;have fin:EP X Y E Q w s:=(z,H,I,J,q)
 by_cases P:0<=i
 .have G:i.toNat=j:=by
   rw[seqIndex_of P Z]at T;exact mj T
  exact item_listR O.isList P (by lia) (by rw[G];simpa using L) fin N
 .have G:(i+(U.toArray.size:Int)).toNat=j:=by
   rw[seqIndex_neg (by lia) D]at T;rw[gw,<-S];exact mj T
  exact subscriptTail_builtinR (x:=w) O.isList.typeIs slot_list_getitem.lookup
   (wpAny_getItem_list_neg (Q:=λr R=>r=w/\EP X Y E Q r R) O.isList (by lia) (by rw[gw]<;>lia) (by lia) (by rw[G];simpa using L) (rfl,fin)) N
def Jf:IxR X (bia X.K):=by
 intro J G Y s B H x y v u Q I L R h S;let(p,Z,i,z,rfl,rfl,F,V,q):=h;cases L;let(t,rfl):=R;let(yt,r,O,M):=I.tuple F;let(j,P,E,A,U,h5):=akt V;let(w,W,T):=r.get E;have N:=r.length;have D:=adz;have fin:EP X Y B Q w s:=(z,H,I,T,q);exact subscriptTail_builtinR (x:=w) O.typeIs slot_tuple_getitem.lookup
  (getItem_tuple (j:=j) (Q:=λr C=>r=w/\EP X Y B Q r C) O (by lia) (by lia) (by rw[gw,<-N];exact P) (by simpa using W) (rfl,fin)) S
def ai2(Y:Zl)(n j:Nat)(u:Value):Obj.mapSeq (·.setIfInBounds j u) { cls:=.type "list",data:=.seq Y.toArray n }={ cls:=.type "list",data:=.seq (Y.set j u).toArray n }:=by simp[Obj.mapSeq]
theorem Inv.lst{X:Cx}{Y:Zp}{J:St}{H:Hp}{s:Shared}{p:Addr}{G:List V}(I:Inv X Y J H s)(h:H p\(.lst G)) :
 ∃(T:Zl)(n:Nat),Vals G T/\s.heap.get? p=some { cls:=.type "list",data:=.seq T.toArray n }/\G.length<=sizeLine:=by
 let(z,T,n,r,e):=I.Bv p _ h;exact(T,n,r,e,z)
def Inv.a6i{T:Zl}(I:Inv X pins σ H s)(h:H p\(.lst xs))(B:s.heap.get? p=some { cls:=.type "list",data:=.seq T.toArray n })(Y:f { cls:=.type "list",data:=.seq T.toArray n }={ cls:=.type "list",data:=.seq its'.toArray Z })(r:Vals U its')(G:U.length<=sizeLine)(t:Nat) :
 Inv X pins σ (upd H p (.lst U)) { s with heap:=s.heap.update p f,toks:=t }:=by
 have e:(s.heap.update p f).get? p=some { cls:=.type "list",data:=.seq its'.toArray Z }:=by rw[ph f B (by rw[Y]<;>rfl),Y]
 refine I.write (x:=p) (e:=p) (by rw[h];trivial) (.inl rfl) (λb u J q=>(vo _ _ (lg J)).trans q) (_,e) ?_;exact(G,its',Z,r,e)
def bb5:V->V->V->Hp->(Hp->Prop)->Prop:=λo i v H Q=>∃p Y k j,o=.ref p/\i=.int k/\H p\(.lst Y)/\ixN Y.length k\j/\Q (upd H p (.lst (Y.set j v)))
def set_list:a5k X bb5:=by
 intro Y s K H o i v U Z u Q I F M V h;let(p,A,k,j,rfl,rfl,N,S,q):=h;cases F;let(t,rfl):=M;let(P,n,r,J,R):=I.lst N;let(T,D,O,E):=aks S;have G:=r.length;have hn:=adz;have C:Inv X Y K (upd H p (.lst (A.set j v))) { s with heap:=s.heap.update p (Obj.mapSeq (·.setIfInBounds j u)) }:=
  I.a6i N J (ai2 P n j u) (r.set V j) (by rw[List.length_set];exact R) s.toks
 by_cases L:0<=k
 .have B:k.toNat=j:=by
   rw[seqIndex_of L E]at T;exact mj T
  exact PySem.W.ki_setAt J L (by lia) (by rw[gw,<-G];exact E) (by rw[B];exact(_,C,q))
 .have B:(k+(P.toArray.size:Int)).toNat=j:=by
   rw[seqIndex_neg (by lia) O]at T;rw[gw,<-G];exact mj T
  exact PySem.W.ki_setBack J (by lia) (by rw[gw,<-G];exact O) (by lia) (by rw[B];exact(_,C,q))
def ad1(Y T:Option Int)(n:Nat):(sliceBounds Y T none n).1=((HT.sIx n 0 Y:Nat):Int)/\(sliceBounds Y T none n).2.1=((HT.sIx n n T:Nat):Int)/\(sliceBounds Y T none n).2.2=1:=by
 refine(?_,?_,rfl)
 .cases Y with
  |none=>simp[sliceBounds,HT.sIx]
  |some i =>
   simp only[sliceBounds,HT.sIx,Option.getD_none,show(1:Int) > 0 by decide,mq]
   by_cases h:i<0
   .simp only[h,mq]<;>lia
   .simp only[h,jq]<;>lia
 .cases T with
  |none=>simp[sliceBounds,HT.sIx]
  |some i =>
   simp only[sliceBounds,HT.sIx,Option.getD_none,show(1:Int) > 0 by decide,mq]
   by_cases h:i<0
   .simp only[h,mq]<;>lia
   .simp only[h,jq]<;>lia
def aaz(Y:Zl)(T G:Option Int):slicePick Y.toArray T G none=((Y.drop (HT.sIx Y.length 0 T)).take (HT.sIx Y.length Y.length G-HT.sIx Y.length 0 T)).toArray:=by let(O,B,J):=ad1 T G Y.toArray.size;unfold slicePick;rw[O,B,J];simp only[sliceRange_one,pick_run,gw]<;>rfl
def bb6(K:Fg):V->Option Int->Option Int->Hp->VK->Prop:=λx T G H Q=>∃a Y,x=.ref a/\Kc K H a Y/\∀p,H p=none->Q (.ref p) (upd H p (.lst (ane Y T G)))
def aye:SlR X (bb6 X.K):=by intro O s S H x v W F G J A Q I L E N R h;let(a,T,rfl,P,q):=h;cases L;let(M,r,C,B):=I.list P;have Y:=r.length;refine("list",_,slot_list_getitem.lookup,C.isList.typeIs,?_);refine wpAny_getItem_list_slice C.isList E N R .none (by simp) ?_ (by rw[gw]<;>exact a_ (g_ Y) B);rw[aaz,<-Y];refine(.ref s.heap.objs.size,_,I.laid (t':=s.toks) (o:=.lst (ane T G J)) (λb V q=>au _ q) (bz _) ?_,rfl,q _ (I.Bv.fresh (bz _)));exact(gh (af8 T G J) B,_,0,(r.drop (HT.sIx T.length 0 G)).take (HT.sIx T.length T.length J-HT.sIx T.length 0 G),dg _ rfl)
def ad2:Dp X (.builtin "len") (λU H Q=>∃p Z,U=[.ref p]/\(Kc X.K H p Z\/O9 X.K H p Z)/\Q (.int Z.length) H):=by
 intro B s L H U E Q I r h;let(p,Z,rfl,T,q):=h;let(u,rfl,C):=vals1 r;cases C;have P:=adz;rcases T with T|T
 .let(N,J,G,O):=I.list T
  have Y:=J.length;exact Calls.call_len_list G.isList (by simp only[gw]<;>lia) (.int Z.length,H,I.tok _,(s.toks+1,by rw[gw,Y]),q)
 .let(N,J,G,O):=I.tuple T
  have Y:=J.length;exact len_tuple G (by simp only[gw]<;>lia) (.int Z.length,H,I.tok _,(s.toks+1,by rw[gw,Y]),q)
def ad3:Dp X (.type "list") (λU H Q=>∃p Z,U=[.ref p]/\(Kc X.K H p Z\/O9 X.K H p Z)/\∀l,H l=none->Q (.ref l) (upd H l (.lst Z))):=by
 intro N s F H U M Q I r h;let(p,Z,rfl,C,q):=h;let(u,rfl,W):=vals1 r;cases W;have fin:∀(G:Zl),Vals Z G->Z.length<=sizeLine->∀(T:Heap)(B:Nat),(∀b V,s.heap.get? b\V->T.get? b\V) ->
  T.get? s.heap.objs.size=some { cls:=.type "list",dict:=none,data:=.seq G.toArray B,slots:=#[] }->EP X N F Q (.ref s.heap.objs.size) { s with heap:=T }:=λG O J T B L e =>
  (.ref s.heap.objs.size,_,I.laid (t':=s.toks) L (bz _) (show Ci X.prog X.w _ T _ (.lst Z)from(J,G,B,O,e)),rfl,q _ (I.Bv.fresh (bz _)))
 rcases C with C|C
 .let(G,O,S,J):=I.list C
  have Y:=O.length;let(o,R,P,n,E):=S.isList;exact call_list_seq p (.inl rfl) R P E (λT B L e=>fin G O J T B L e) (by simp only[gw]<;>exact a_ (g_ Y) J)
 .let(G,O,S,J):=I.tuple C
  have Y:=O.length;let(o,R,P,n,E):=S;exact call_list_seq p (.inr rfl) R P E (λT B L e=>fin G O J T B L e) (by simp only[gw]<;>exact a_ (g_ Y) J)
def aa0:Dp X (.type "tuple") (λU H Q=>∃p Z,U=[.ref p]/\((Kc X.K H p Z/\∀l,H l=none->Q (.ref l) (upd H l (.tup Z)))\/(O9 X.K H p Z/\Q (.ref p) H))):=by
 intro Y s L H U R Q I r h;let(p,Z,rfl,h):=h;let(u,rfl,E):=vals1 r;cases E;rcases h with⟨O,q⟩|⟨O,q⟩
 .let(C,N,B,J):=I.list O
  have T:=N.length;refine call_tuple_list B.isList (λG P=>?_) (by simp only[gw]<;>exact a_ (g_ T) J);have I1:Inv X Y L H { s with heap:=G }:=I.kept (t':=s.toks) P;have I2:Inv X Y L (upd H G.objs.size (.tup Z)) { s with heap:=G.push { cls:=.type "tuple",data:=.seq C.toArray } }:=
   I1.laid (t':=s.toks) (λb o e=>au _ e) (bz _) (show Ci X.prog X.w _ _ _ (.tup Z)from(J,C,N,aaw.new _ _))
  exact(.ref G.objs.size,_,I2,rfl,q _ (I1.Bv.fresh (bz _)))
 .let(C,N,B,J):=I.tuple O
  exact call_tuple_same B (.ref p,H,I,rfl,q)
def tyV(K:Fg)(T:String)(x:V)(H:Hp):Prop:=match x with
 |.str _=>T ="str"|.int _=>T ="int"
 |.ref p=>(T ="list"/\∃G,Kc K H p G)\/(T ="tuple"/\∃o,K.lookup p\o/\o.cls=.type "tuple"/\o.dict=none) \/
  (T ="dict"/\((∃Y,H p\(.dK Y))\/∃Y,H p\(.dT Y)))
 |_=>False
def a6j(I:Inv X pins σ H s)(r:RelV x v)(J:tyV X.K T x H) :
 s.TypeIs v T/\∀a,v=.ref a->∃Z,s.heap.get? a\Z/\Z.dict=none:=by
 cases x with
 |str z =>
  let(t,rfl):=r;cases(show T ="str" from J);exact(typeIs_str s z t,λ_ e=>nomatch e)
 |int i =>
  let(t,rfl):=r;cases(show T ="int" from J);exact(typeIs_int s i t,λ_ e=>nomatch e)
 |ref p =>
  cases r;rcases J with⟨rfl,P,N⟩|⟨rfl,o,Y,E,B⟩|⟨rfl,Y⟩
  .let(R,_,O,_):=I.list N
   refine(O.isList.typeIs,λa e=>?_);cases e;let(o,n,e,c,B,_):=O;exact(o,e,B)
  .refine((o,I.kIn p o Y,E),λa e=>?_)
   cases e;exact(o,I.kIn _ o Y,B)
  .have z:∃o,s.heap.get? p\o/\o.ExactDict:=by
    rcases Y with⟨C,Y⟩|⟨C,Y⟩
    .let(_,_,_,_,o,_,_,e,G,_):=I.Bv p _ Y
     exact(o,e,G)
    .let(_,_,_,_,o,_,_,e,G,_):=I.Bv p _ Y
     exact(o,e,G)
   let(o,e,G):=z;refine((o,e,G.1),λa L=>?_);cases L;exact(o,e,G.2.1)
 |_=>exact False.elim J
def tBM(K:Fg)(T:String)(r:V->List V->Hp->VK->Prop)(O:TE)(t:TA):TE:=λY H Q=>O Y H λx G=>tyV K T x G/\t Y G λB J=>r x B J Q
theorem bb8{id:String}(c:PlainAttrs T)(G:Slot T name id)(L:typeOf (.builtin id)=pure (.type "method_descriptor"))(D:MtR X id r)(u:PE X o to)(q:PA X (e::Z) t)(J:autoParam (attributeBase o name X.env (eval o X.env)=eval o X.env) aU5._auto_1)(C:autoParam (((backTo U (starEach (e::Z) X.env)).all (λx=>!x.1)&&(backToKw U (keywordEach [] X.env)).all (λx=>x.1.isSome)
&&decide ((e::Z).length+([]:List Keyword).length+(if([]:List Keyword).isEmpty then 0 else 1)<30))=true) aU5._auto_1)(O:autoParam ((apos.endLine==U.line)=true) aU5._auto_1)(A:autoParam (starEach (e::Z) X.env=(false,eval e X.env)::starEach Z X.env) aU5._auto_1)(B:autoParam ((backTo U (starEach Z X.env)).any (·.1)=false) aU5._auto_1) :
 PE X (.Call (.Attribute o name apos) (e::Z) [] U) (tBM X.K T r to t):=by
 intro Y s N H Q I h;refine wpAny_Call_method_late J C O rfl (R9 (u Y s N H _ I h) λv z x M I1 E z_=>?_);let(y,W):=z_;let(V,S):=a6j I1 E y;refine(T,id,c,G,L,V,S,?_);have P:=q U Y z N M _ I1 W;rw[A]at P⊢;refine Calls.callWith_builtin (by show(false||(backTo U (starEach Z X.env)).any (·.1))=false;rw[B]<;>rfl) (Calls.evalArgs_plain ?_);exact thA P λl d j R I2 F g=>D Y d N R x j v l Q I2 E F g
end L2
namespace L2
open PySem PySem.Spec PyProof.Rows
def MtM(X:Cx)(id:String)(r:V->List V->Hp->VK->Prop):Prop:=
 ∀(Y:Zp)(s:Shared)(T:St)(H:Hp)(x:V)(J:List V)(v:Value)(G:Zl)(Q:VK),Inv X Y T H s->RelV x v->Vals J G->r x J H Q ->
  wpAny (model X.prog X.w) X.A (call (.builtin id) (v::G)) (EP X Y T Q) X.xe s
def Vals.one{x:V}{Y:Zl}(h:Vals [x] Y):∃u,Y=[u]/\RelV x u:=by cases h with|cons r t=>cases t;exact(_,rfl,r)
def Inv.bb9{Y:Zl}(I:Inv X pins σ H s)(J:H l\(.lst U))(e:s.heap.get? l=some { cls:=.type "list",data:=.seq Y.toArray n })(O:f Y.toArray=its'.toArray)(C:Vals Z its')(T:Z.length<=sizeLine) :
 Inv X pins σ (upd H l (.lst Z)) { s with heap:=s.heap.update l (Obj.mapSeq f),toks:=t' }:=by
 have q:=PySem.IsL.update e f;rw[O]at q;refine I.write (x:=l) (e:=l) (by rw[J];exact trivial) (.inl rfl) (λN u G B=>(vo s.heap (Obj.mapSeq f) (lg G)).trans B) (_,q) ?_;exact(T,its',_,C,q)
def Inv.bib(I:Inv X pins σ H s)(T:Vals Z U)(Y:Z.length<=sizeLine) :
 Inv X pins σ (upd H s.heap.objs.size (.lst Z)) { s with heap:=s.heap.push { cls:=.type "list",data:=.seq U.toArray },toks:=t' }:=
 I.laid (λ_ _ q=>au _ q) (bz _) (Y,U,0,T,dg _ rfl)
theorem Inv.fresh(I:Inv X pins σ H s):H s.heap.objs.size=none:=I.Bv.fresh (bz _)
def Inv.anf(I:Inv X pins σ H s)(T:H l\(.lst Z)):Z.length<=sizeLine/\∃(Y:Zl)(n:Nat),Vals Z Y/\Z.length=Y.length/\s.heap.get? l=some { cls:=.type "list",data:=.seq Y.toArray n }:=by let(z,Y,n,r,e):=I.Bv l _ T;exact(z,Y,n,r,r.length,e)
def ase(h:n<=sizeLine):Builtin.List.listTooLong n=false:=by unfold Builtin.List.listTooLong;exact lz (j_ h)
def ayf:V->List V->Hp->VK->Prop:=λx T H Q=>∃l Y y,x=.ref l/\T=[y]/\H l\(.lst Y)/\Y.length<sizeLine/\Q .non (upd H l (.lst (Y++[y])))
def abw:MtM X "list.append" ayf:=by intro G s L H x E v P Q I O C h;let(l,R,y,rfl,rfl,T,Y,q):=h;cases O;let(u,rfl,N):=C.one;let(z,J,n,r,B,e):=I.anf T;refine call_meets F.slot_list_append (_,e,rfl) F.entry_list_append (F.args_list_append_2 _ _) (PySem.list_append l J.toArray n u (by rw[gw];exact e_ (c_ (g_ B) Y))) (e,?_);refine(.non,_,I.bb9 (its':=J++[u]) T e (by simp) (r.append (.cons N .nil)) ?_,rfl,q);rw[jw,List.length_singleton];exact Y
def ayg:V->List V->Hp->VK->Prop:=λx G H Q=>∃l b T Y,x=.ref l/\G=[.ref b]/\H l\(.lst T)/\H b\(.lst Y)/\T.length+Y.length<=sizeLine/\Q .non (upd H l (.lst (T++Y)))
def ang:MtM X "list.extend" ayg:=by
 intro O s A H x D v Z Q I L P h;let(l,b,U,zs,rfl,rfl,B,R,C,q):=h;cases L;let(u,rfl,K):=P.one;cases K;let(z,G,n,r,N,e):=I.anf B;let(M,Y,S,V,E,W):=I.anf R;have T:G.toArray.size+Y.toArray.size<=sizeLine:=by rw[gw,gw];lia
 have J:¬(!G.toArray.isEmpty&&Builtin.List.listTooLong (G.toArray.size+Y.toArray.size))=true:=by rw[ase T,Bool.and_false];exact zr
 refine call_meets F.slot_list_extend (_,e,rfl) F.entry_list_extend (F.args_list_extend_2 _ _)
  (AutoSeq1.list_extend_list_list_0 l G.toArray n b Y.toArray S J (by rw[gw];exact a_ (g_ N) z) (a_ T x_)) (e,W,?_)
 refine(.non,_,I.bb9 (its':=G++Y) B e (by simp) (r.append V) ?_,rfl,q);rw[jw];exact C
def bcb:R2:=λx y H Q=>∃l b T Y,x=.ref l/\y=.ref b/\H l\(.lst T)/\H b\(.lst Y)/\T.length+Y.length<=sizeLine/\∀p,H p=none->Q (.ref p) (upd H p (.lst (T++Y)))
def a6l:Ez X (binaryOp .Add) bcb:=by
 intro T s V H x y v u Q I O S h;let(l,b,F,M,rfl,rfl,E,L,J,q):=h;cases O;cases S;let(z,G,n,r,W,e):=I.anf E;let(K,Y,A,B,C,N):=I.anf L;refine PySem.P.add_list e N ?_ (by rw[gw,gw];lia);have R:G.toArray++Y.toArray=(G++Y).toArray:=by simp
 rw[R];exact(.ref _,_,I.bib (t':=s.toks) (r.append B) (by rw[jw];exact J),rfl,q _ I.fresh)
end L2
namespace L2
open PySem PySem.Spec PyProof.Rows
def af9:fillsNumberSlot (.type "tuple") "mul"= pure false:=
 PySem.fillsNumberSlot_seq (id :="tuple.__mul__") (r:=some (.builtin "tuple.__rmul__")) zf.lookup ∅ F.slot_tuple_rmul.lookup ∅
def asf:seqRepeat? (.type "tuple")=pure (some (.builtin "tuple.__mul__")):=by unfold seqRepeat?;rw[PySem.seqSlot_of (T :="tuple") (name :="__mul__") (id :="tuple.__mul__") zf.lookup ∅,PySem.seqSlot_of (T :="tuple") (name :="__rmul__") (id :="tuple.__rmul__") F.slot_tuple_rmul.lookup ∅];rfl
def a6m(a:Int)(t:Tok)(l:Addr)(Y:U1)(n:Nat)(T:Option Addr)(G:Array (Option Value)) :
 Meets (Builtin.«int.__rmul__» ([.int a t,.ref l],[])) (λ_ R s=>s.heap.get? l=some { cls:=.type "tuple",dict:=T,data:=.seq Y n,slots:=G }/\R (.ok (.ret Value.notImplemented)) s):=
 .of_wp λprog w A R s h=>by let(B,g,d,O,C):=s;let(J,h):=h;wp_walk;exact(_,rfl,h)
def bcc(l:Addr)(Y:U1)(n:Nat)(T:Option Addr)(G:Array (Option Value))(u:Tok) :
 Meets (Builtin.«tuple.__mul__» ([.ref l,.int 1 u],[])) (λ_ R s=>s.heap.get? l=some { cls:=.type "tuple",dict:=T,data:=.seq Y n,slots:=G }/\R (.ok (.ret (.ref l))) s):=
 .of_wp λprog w A R s h=>by let(B,g,d,O,C):=s;let(J,h):=h;wp_walk;exact(_,rfl,h)
def bcd(l:Addr)(x:Value)(n:Nat)(Y:Option Addr)(T:Array (Option Value))(u:Tok) :
 Meets (Builtin.«tuple.__mul__» ([.ref l,.int 0 u],[])) (λ_ R s=>s.heap.get? l=some { cls:=.type "tuple",dict:=Y,data:=.seq #[x] n,slots:=T }/\R (.ok (.ret (.ref s.heap.objs.size))) { s with heap:=s.heap.push { cls:=.type "tuple",data:=.seq #[] } }):=
 .of_wp λprog w A R s h=>by let(J,g,d,B,O):=s;let(G,h):=h;wp_walk;exact(_,rfl,h)
theorem aga(x:Value):∀(k:Nat)(a:U1),List.foldl (λU Z=>U++Z) a (List.replicate k #[x])=a++(List.replicate k x).toArray
 |0,a=>by simp|k+1,a=>by rw[List.replicate_succ,List.foldl_cons,aga x k,Array.append_assoc,List.replicate_succ];congr 1;apply Array.ext';simp
theorem a2c(r:RelV d v):∀k:Nat,Vals (List.replicate k d) (List.replicate k v)
 |0=>.nil|k+1=>.cons r (a2c r k)
def bcf(l:Addr)(x:Value)(k n:Nat)(J:Option Addr)(N:Array (Option Value))(u:Tok)(E:2<=k)(Y:k<=100000) :
 Meets (Builtin.«tuple.__mul__» ([.ref l,.int k u],[])) (λ_ R s=>s.heap.get? l=some { cls:=.type "tuple",dict:=J,data:=.seq #[x] n,slots:=N }/\R (.ok (.ret (.ref s.heap.objs.size))) { s with heap:=s.heap.push { cls:=.type "tuple",data:=.seq (List.replicate k x).toArray } }):=
 .of_wp λprog w A R s h=>by
  let(Q,g,d,S,P):=s;let(L,h):=h;have e:=aga x k #[];rw[Array.empty_append]at e;rw[<-e]at h;have C:¬(decide ((k:Int) < -2^63)||decide ((k:Int) >= 2^63))=true:=by simp;omega
  have O:¬(Array.isEmpty #[x]||(k:Int)==1)=true:=by simp;omega
  have B:¬(decide ((k:Int)<=0)||Array.isEmpty #[x])=true:=by simp;omega
  have G:¬((Array.size #[x]:Nat):Int)*(k:Int) > (2^63-1)/8:=by simp;omega
  have T:¬Builtin.Tuple.tupleTooMany (((Array.size #[x]:Nat):Int)*(k:Int))=true:=by simp[Builtin.Tuple.tupleTooMany,sizeLine];omega
  wp_walk;refine yf (lz C) ?_
  wp_walk;refine yf (lz O) ?_
  wp_walk;refine yf (lz B) ?_
  wp_walk;refine yf (lz G) ?_
  wp_walk;refine yf (lz T) ?_
  wp_walk;refine yf (lz (Nat.not_lt.mpr (by show Array.size (List.foldl _ _ (List.replicate k _))<=_;rw[e,gw,ye];exact gh Y ⋯))) ?_
  wp_walk
  exact(_,rfl,h)
def ayh:Ez X (binaryOp .Mult) (λx y H Q=>∃a v,∃k:Nat,x=.ref a/\y=.int k/\O9 X.K H a [v]/\k<=100000/\(k=1->Q (.ref a) H)/\∀p,H p=none->Q (.ref p) (upd H p (.tup (List.replicate k v)))):=by
 intro B s σ H x y v u Q I W D h;let(a,d,k,rfl,rfl,ha,S,A,R):=h;cases W;let(t,rfl):=D;let(yt,N,p1,_):=I.tuple ha;cases N with
 |cons N Z =>
  cases Z;let((L,O,J,C),G,P,n,E):=id p1;simp only at P E;subst P E;refine wpAny_binaryOp_repeat_ref (T :="tuple") (U :="int") ⋯ (_,G,rfl) (λV=>typeIs_int V _ _) af9 F.fills_int_mul F.slot_int_rmul asf F.slot_int_index.lookup
   (call_meets F.slot_int_rmul (typeIs_int s _ _) F.entry_int_rmul (F.args_int_rmul_2 _ _) (a6m _ _ a _ n O C) (G,rfl,(_,G,rfl),?_))
  have go:∀Y:List Value,Y=List.replicate k _->Inv X B σ (upd H s.heap.objs.size (.tup (List.replicate k d))) { s with heap:=s.heap.push { cls:=.type "tuple",data:=.seq Y.toArray } }:=λY e=>I.laid (t':=s.toks) (o:=.tup (List.replicate k d)) (λb ob q=>au _ q) (bz _) (by rw[ye];exact gh S ⋯,_,by rw[e];exact a2c N k,aaw.new _ _)
  by_cases M:k=1
  .subst M
   exact call_meets zf (_,G,rfl) F.entry_tuple_mul (F.args_tuple_mul_2 _ _) (bcc a _ n O C t) (G,.ref a,H,I,rfl,A rfl)
  by_cases h0:k=0
  .subst h0
   exact call_meets zf (_,G,rfl) F.entry_tuple_mul (F.args_tuple_mul_2 _ _) (bcd a _ n O C t) (G,.ref s.heap.objs.size,_,go [] rfl,rfl,R _ (I.Bv.fresh (bz _)))
  .exact call_meets zf (_,G,rfl) F.entry_tuple_mul (F.args_tuple_mul_2 _ _) (bcf a _ k n O C t (by omega) S) (G,.ref s.heap.objs.size,_,go _ rfl,rfl,R _ (I.Bv.fresh (bz _)))
end L2
namespace Att
open PySem PySem.W PySem.Calls PyProof.Rows
def Xq:∀(ns:Xs)(Y:Zl),WellAll P h Y (ns.map WData.int)->IntsAre Y ns:=by
 intro ns
 induction ns with
 |nil =>
  intro Y w;rw[Bu]at w;cases w;exact .nil
 |cons n ns T =>
  intro Y w;rw[f9]at w;cases w with
  |cons a b =>
   cases a;exact .cons _ _ (T _ b)
def anh{l:OpenLaw}(H:l.most\n)(T:l.row.toRowW.claim.pre args=true)(O:WellAll P h vals args) :
 ∃a U Z,vals=[Value.ref a]/\args=[WData.list (Z.map WData.int)]/\h.get? a=some { cls:=.type "list",data:=.seq U.toArray }/\IntsAre U Z/\Z.length<=n:=by
 have B:WShape.hasAll [] args [.list .int]=true:=(pre_splitW T).1;have C:l.pre.holds [] { args:=args }=true:=(pre_splitW T).2;let(d,r,rfl,E,L):=hasAllW_cons B;obtain rfl:=hasAllW_nil L;let(F,rfl,R):=hasW_list E;let(Z,rfl):=items_int R;have Y:Z.length<=n:=by
  unfold OpenLaw.pre at C;have G:(WTm.not (.lt (.lit (.int (n:Int))) (.len (.arg 0)))).holds [] { args:=[.list (Z.map .int)] }=true:=by have G:=(holds_andW C).1;rw[H]at G;exact G
  have J:=condW_of G (w_not (w_lt w_lit (w_len_list (w_arg rfl))));rw[du]at J;refine Nat.le_of_not_lt λq=>?_
  have Q:(n:Int)<((Z.length:Nat):Int):=m_ q
  first
   |(rw[wu Q]at J;exact absurd J ⋯)
   |(simp at J;omega)
 cases O with
 |cons V N =>
  cases N;cases V with
  |list W S=>exact(_,_,Z,rfl,rfl,W,Xq Z _ S,Y)
def ani(l:OpenLaw)(Y:List WData):l.row.toRowW.claim.post Y (.bool true) Y=true:=
 postW_of (r:=l.row.toRowW) (X:=(true==true))
  (show WShape.has [] (.bool true) .bool=true by first|rfl|decide|simp[WShape.has,WShape.arms,WShape.armsAll])
  (show(WTm.eq .res (.lit (.bool true))).value [] { args:=Y,res:=some (.bool true),after:=Y }\(.bool (true==true))from w_eq_bool (w_res rfl) w_lit) rfl
def agb{l:OpenLaw}(W:l.most\n)(B:d.params.defaults=[])(call:∀(w:World) (U Z:Shared) (mg mb:Zs) (fa:Addr) (o:Obj) (pm cd qq:Value) (a:Addr) (vs:Zl) (ns:Xs),
 Ground q loose [] XP w U mg mb Z.heap->YP w Z.heap ->
 Z.heap.get? fa\o->o.data=.func (docDef d.name d.params d.body d.scope pm cd qq)->Z.heap.CodeRec cd d.name->mg d.name\(.ref fa) ->
 Z.heap.get? a=some { cls:=.type "list",data:=.seq vs.toArray }->IntsAre vs ns->ns.length<=n->Z.gens=#[] ->
 codeAny (model l.prog w) callerA (.call (.ref fa) ([.ref a],[])) (λr s'=>r=.ok (.ret (.bool true))/\OldK Z.heap s'.heap/\s'.os=Z.os/\AllBare s'.gens) Z) :
 WalkO q loose XP YP l.row.toRowW d [] (λf vs=>PySem.call f vs):=by
 intro w U Z mg mb G Y fa o pm cd qq D kV I K O R N A P S as C qv qk L F;obtain rfl:D=.none:=Dflts.none R B;obtain rfl:kV=.none:=Dflts.noKw R;let(a,vs,ns,rfl,rfl,E,T,J):=anh W C L;refine enter_call (yj (call w U Z mg mb fa o pm cd qq a vs ns G Y I (fd_plain K) O N E T J A) λr s' M=>?_);let(rfl,Q,H,X):=M;exact(.inl (.bool true,.bool true,[],rfl,λ_=>rfl,.bool true,ani l _,λ_=>(List.Pairwise.nil,λ_ V=>(nomatch V))),Q,H,X)
end Att
namespace L2
open PySem PySem.Spec PyProof.Rows
theorem abx:∀{Y:Zl}{T:Xs},IntsAre Y T->Vals (T.map V.int) Y
 |_,_,.nil=>.nil|_,_,.cons n t h=>.cons (t,rfl) (abx h)
def Only(H:Hp):Prop:=∀b,H b=none\/∃o Y,H b\(.Um o (.lst Y))
def ash{K:Fg}(KX:K.In s₁.heap)(N:s₁.heap.Ns mainGlobals mg)(Y:s₁.heap.Ns builtinsNs mb)(S:∀x:Str,x≠"__name__"-> mb x=bootBuiltins x)(D:s₁.heap.NoLimit)(hg:s₁.gens=#[])(E:s₁.heap.get? a=some { cls:=.type "list",data:=.seq vs.toArray })(hi:IntsAre vs ns)(X:ns.length<=sizeLine)(hr:Bh k callerA)(F:∀U:Heap,K.In U->U.Ns mainGlobals mg->Ii P w K mg U CX k fa fd [x] sp)(A:∀(s:Shared) (u:Value),BindsTo s fd ([u],[]) [(x,u)])(W:∀H:Hp,Only H->Kc K H a (ns.map V.int)->sp [.ref a] H (λv _=>v=.bl true) λ_ _ _=>False)(Q:∀H e Z,CX [] H s₁ (λ_ _ _=>False) e Z->False) :
 codeAny (model P w) callerA (.call (.ref fa) ([.ref a],[])) (λr Z=>r=.ok (.ret (.bool true))/\OldK s₁.heap Z.heap/\Z.os=s₁.os/\AllBare Z.gens) s₁:=by
 have rv:=abx hi;have J:=hi.length;have G:∀H:Hp,Only H->Kc K H a (ns.map V.int)->Tv P w H s₁.heap->(∀b,H b≠none->b=a)->(H a≠none->K.lookup a=none) ->
  codeAny (model P w) callerA (.call (.ref fa) ([.ref a],[])) (λr Z=>r=.ok (.ret (.bool true))/\OldK s₁.heap Z.heap/\Z.os=s₁.os/\AllBare Z.gens) s₁:=by
  intro H hO hS Bv hA hK;have Iw:∀{b:Addr}{o:Obj},s₁.heap.get? b\o->H b=none->(adt s₁.heap H).get? b\o:=λe n=>aq7 e n
  have I:∀{b:Addr}{o:Obj}{O:Array DictEntry}{ep:Nat},s₁.heap.get? b\o->o.data=.dict O ep->H b=none:=fun{b o O ep} e d=>by
   cases q:H b with
   |none=>rfl
   |some u =>
    have M:b=a:=hA b (by rw[q];simp);subst M;rw[E]at e;cases e;have d':Data.seq vs.toArray _=Data.dict O ep:=d;cases d'
  have T:∀{b:Addr}{m:Zs},s₁.heap.Ns b m->(adt s₁.heap H).Ns b m:=fun{b m} (o,O,ep,e,d,r)=>(o,O,ep,Iw e (I e d),d,r)
  have B:K.In (adt s₁.heap H):=λb o e=>Iw (KX b o e) (by
   cases q:H b with
   |none=>rfl
   |some u =>
    have M:b=a:=hA b (by rw[q];simp);subst M;rw[hK (by rw[q];simp)]at e;cases e)
  have hM:Mod K mg (adt s₁.heap H):=(B,T N,(mb,T Y,S),let (mc,h1,h2):=D;(mc,T h1,h2));have e0:aiz P w K mg (adt s₁.heap H) callerA [] s₁ H:=(rfl,hM,λb o e=>axq e,Nat.le_of_eq (am1 _ _),trivial,λb Y=>absurd (show b∈([]:X9)from Y) (by simp),Bv,.of_eq hg);refine yj ((F _ B (T N)).run callerA [] s₁ H ([.ref a],[]) [.ref a] [.ref a] _ _ hr e0 (A s₁ (.ref a)) (.cons rfl .nil) (W H hO hS)) λr Z h=>?_
  cases r with
  |error e=>exact(Q H e Z h).elim
  |ok fl =>
   cases fl with
   |next=>exact False.elim h|brk=>exact False.elim h|cont=>exact False.elim h
   |ret u =>
    let(v,H',os,C,un,R,r',q):=h;have q':v=.bl true:=q;subst q';obtain rfl:u=Value.bool true:=r';refine(rfl,OldK.of_keep λb o e=>?_,os,C);cases q:H b with
    |none=>exact un.keep b o e q (by intro z;exact absurd (show b∈([]:X9)from z) (by simp)) (by simp)
    |some u =>
     rcases hO b with z|⟨ob,xs,z⟩
     .rw[q]at z;cases z
     .have z2:=un.adq b ob _ z
      let(e1,_):=Bv b _ z;let(e2,_):=R b _ z2;rw[e]at e1;cases e1;exact e2
 cases hk:K.lookup a with
 |some o =>
  have e:=KX a o hk;rw[E]at e;cases e;refine G (λ_=>none) (λ_=>.inl rfl) (.inr (_,vs.toArray,_,hk,rfl,rfl,rfl,by rw[gw,J];exact X,by simpa using rv)) (λb u z=>by have L:(none:Option HO)\u:=z;cases L) (λb z=>absurd rfl z) λz=>absurd rfl z
 |none =>
  refine G (λb=>if b=a then some (.Um { cls:=.type "list",data:=.seq vs.toArray } (.lst (ns.map V.int)))else none) (λb=>?_) (.inl (.inr ({ cls:=.type "list",data:=.seq vs.toArray },dm rfl))) (λb u z=>?_) (λb z=>?_) λ_=>hk
  .by_cases Y:b=a
   .exact .inr (_,_,dm Y)
   .exact .inl (cz Y)
  .by_cases Y:b=a
   .have L:=(dm Y).symm.trans z
    cases L;subst Y;exact(E,by rw[du];exact X,vs,_,rv,E)
   .have L:=(cz Y).symm.trans z
    cases L
  .by_cases Y:b=a
   .exact Y
   .exact absurd (cz Y) z
end L2
namespace L2
open PySem PySem.Spec PyProof.Rows
def ayj{l:PySem.W.OpenLaw}{K:Params->Fg}{CX:World->CXT}{sp:World->Sp}(X:l.most\n)(Q:n<=sizeLine)(C:d.params.defaults=[])(I:Bh k callerA)(z:∀(w:World) (h:Heap),YP w h->(K w.params).In h)(F:∀(w:World) (mg:Zs) (fa:Addr) (h:Heap),(K w.params).In h->h.Ns mainGlobals mg->mg d.name\(.ref fa) ->
 ∃fd:FuncData,(∀(s:Shared) (u:Value),BindsTo s fd ([u],[]) [(x,u)]) /\
  ∀Z:Heap,(K w.params).In Z->Z.Ns mainGlobals mg->Ii l.prog w (K w.params) mg Z (CX w) k fa fd [x] (sp w))(L:∀(w:World) (H:Hp) (a:Addr) (U:Xs),U.length<=n->Only H->Kc (K w.params) H a (U.map V.int)->sp w [.ref a] H (λv _=>v=.bl true) λ_ _ _=>False)(N:∀(w:World) (H:Hp) (s:Shared) (e:Value) (s':Shared),CX w [] H s (λ_ _ _=>False) e s'->False) :
 PySem.W.WalkO q loose XP YP l.row.toRowW d [] (λf vs=>PySem.call f vs):=by
 refine Att.agb X C λw R O mg p fa o pm t y a vs U G Y i m A E P B J j=>?_
 have S:=z w _ Y;let(fd,M,D):=F w mg fa _ S G.T.g E;exact ash S G.T.g G.T.b G.T.builtins G.T.nolimit j P B (gh J Q) I D M (λH c r=>L w H a U J c r) λH e s'=>N w H O e s'
end L2
namespace L2
open PySem PySem.Spec PyProof.Rows
noncomputable def inClass(s:Stmt)(j:Nat):Stmt:=match s with
 |.ClassDef _ _ _ body _ _ _ _ _ _ _=>body.getD j (.Pass (0,0,0,0))|_=>.Pass (0,0,0,0)
noncomputable def Iz(s:Stmt):Arguments:=match s with
 |.FunctionDef _ a _ _ _ _ _ _ _ _=>a|_=>{ posonlyargs:=[],args:=[],vararg:=none,kwonlyargs:=[],kw_defaults:=[],kwarg:=none,defaults:=[] }
noncomputable def Gf(s:Stmt):List Stmt:=match s with
 |.FunctionDef _ _ b _ _ _ _ _ _ _=>b|_=>[]
noncomputable def By(s:Stmt):Scope:=match s with
 |.FunctionDef _ _ _ _ _ _ sc _ _ _=>sc|_=>{ kind:=.function,names:=[],isGenerator:=false,isCoroutine:=false }
abbrev CX0:CXT:=λ_ _ _ _ _ _=>False
abbrev E0:XK:=λ_ _ _=>False
def asi:Passes CX0 X E0:=λ_ _ _ _ _ _ _ h=>h.elim
structure Fun(K:Fg)(x qual:Str)(st:Stmt)(f:Addr)(fd:FuncData):Prop where
 ex:∃(oc:Value)(od:Option Addr)(kV doc pm:Value)(an:Option Addr)(cdv ct:Value)(osl:Array (Option Value)),
  fd=PySem.W.fnOf x qual (Iz st) (Gf st) (By st) .none kV doc pm an cdv ct/\K.lookup f\(oc,od,.func fd,osl)/\PySem.W.codeIn K cdv qual=true
 kp:PySem.W.keepIn K (.ref f)=true
def Fun.ok{K:Fg}{st:Stmt}(F:Fun K x qual st f fd)(S:X5 N ps (By st))(len:∀vs H Q E,sp vs H Q E->vs.length=ps.length)(T:∀(U:Value) (A:Around) (Z:List Env) (s:Shared) (H:Hp) (vs:List V) (Q:VK) (E:XK),Bh k (A.deeper (envOfC qual (By st) s.heap.objs.size f U))->sp vs H Q E ->
 ∃t,U7 (ai0 CX0 P w K mg base N qual (By st) f U A Z s H E).nox (Gf st) t/\t { nx:=λ_ H'=>Q .non H',rt:=Q } (start N vs) H):Ii P w K mg base CX0 (k+1) f fd ps sp:=by
 let(I,L,kV,O,R,W,U,M,C,rfl,J,Y):=F.ex;refine bbz J Y S len λA Z s H vs Q E B G=>?_
 let(t,h,q):=T U A Z s H vs Q E B G;exact(t,h.nox,q)
def Fun.binds{K:Fg}{st:Stmt}(F:Fun K x qual st f fd)(h:∀(kV Z pm:Value) (an:Option Addr) (U ct:Value) (us:Zl),us.length=ps.length->bindArgs (PySem.W.fnOf x qual (Iz st) (Gf st) (By st) .none kV Z pm an U ct) (us,[])=pure (ps.zip us)):Binds K fd ps []:=by let(B,G,kV,Z,pm,an,U,ct,T,rfl,J,Y):=F.ex;exact .all (h kV Z pm an U ct)
def asj{K:Fg}{st:Stmt}{f:Addr}{N:Value}{C B:Option Addr}{G:Array (Option Value)}{kV T J Y O:Value}(l:K.lookup f\(N,C,.func (PySem.W.fnOf x qual (Iz st) (Gf st) (By st) .none kV T J B Y O),G))(c:PySem.W.codeIn K Y qual=true)(k:PySem.W.keepIn K (.ref f)=true):Fun K x qual st f (PySem.W.fnOf x qual (Iz st) (Gf st) (By st) .none kV T J B Y O):=((N,C,kV,T,J,B,Y,O,G,rfl,l,c),k)
def aby{A:Around}{k:Nat}(Y:Bh k A):A.units+1<cLine:=Cw (Ca (by decide:1<=64) _) Y.units
end L2
namespace L2
open PySem PySem.Spec PyProof.Rows
noncomputable def Fl(cells:Xt):List (Str×NameKind)->List (Str×Addr)->List (Str×Addr)
 |[],cs=>cs|(n,k)::r,cs=>Fl cells r (if k==.free then(n,(cells.lookup n).getD 0)::cs else cs)
theorem Xc{T Y:Type}{f:T->Y->Sem (ForInStep Y)}{g:T->Y->Y}:∀{l:List T}(c:Y),(∀x∈l,∀c,f x c=pure (.yield (g x c)))->forIn l c f=pure (l.foldl (λc x=>g x c) c)
 |[],c,_=>rfl
 |x::l,c,h=>by
  rw[List.forIn_cons,h x dw,pure_bind];exact Xc (g x c) λy G=>h y (bu _ G)
theorem Xd(cells:Xt):∀(l:X0)(Y:Xt),Fl cells l Y=l.foldl (λc x=>if x.2==.free then(x.1,(cells.lookup x.1).getD 0)::c else c) Y
 |[],_=>rfl|(n,k)::r,Y=>Xd cells r _
def Ze(h:∀y∈scope.names,y.2=.free->∃c,env.cells.lookup y.1\c):closureFor scope env=pure (Fl env.cells scope.names []):=by
 simp only[closureFor];rw[Xc (g:=λx c=>if x.2==.free then(x.1,(env.cells.lookup x.1).getD 0)::c else c) [] (λx G c=>by
  let(n,k):=x
  by_cases T:k=.free
  .subst T
   let(c',Y):=h (n,.free) G rfl;have Y:env.cells.lookup n\c':=Y;simp[cellOf,Y]
  .have J:(k==NameKind.free)=false:=by simpa using T
   simp[J]),Xd]
 rfl
theorem agc(cells:Xt):∀(l:X0)(T:Xt)(x:Str)(c:Addr),(∀y∈l,y.2=.free->∃c,cells.lookup y.1\c)->(Fl cells l T).lookup x\c ->
 T.lookup x\c\/cells.lookup x\c
 |[],T,x,c,_,h=>.inl h
 |(n,k)::r,T,x,c,hy,h=>by
  rcases agc cells r _ x c (λz J=>hy z (bu _ J)) h with q|q
  .by_cases G:k=.free
   .subst G
    simp only[Av,mq,qp]at q;cases e:x==n with
    |true =>
     rw[e]at q;let(c',Y):=hy (n,.free) dw rfl;have Y:cells.lookup n\c':=Y;simp only[Y,zp,Af]at q;subst q;rw[eq_of_beq e];exact .inr Y
    |false=>rw[e]at q;exact .inl q
   .have B:(k==NameKind.free)=false:=by simpa using G
    simp only[B,dq,jq]at q;exact .inl q
  .exact .inr q
theorem Zf(cells:Xt):∀(l:X0)(Y:Xt)(x:Str),(∃c,Y.lookup x\c)->∃c,(Fl cells l Y).lookup x\c
 |[],Y,x,h=>h
 |(n,k)::r,Y,x,h=>by
  refine Zf cells r _ x ?_
  by_cases T:(k==NameKind.free)=true
  .rw[dm T,qp]
   cases e:x==n with
   |true=>exact(_,rfl)|false=>exact h
  .rw[cz T];exact h
theorem Wi(cells:Xt):∀(l:X0)(Y:Xt)(x:Str),(x,NameKind.free)∈l->∃c,(Fl cells l Y).lookup x\c
 |(n,k)::r,Y,x,h=>by
  rcases dh.mp h with q|q
  .let(rfl,rfl):=Prod.mk.inj q
   refine Zf cells r _ x ((cells.lookup x).getD 0,?_);rw[dm (by simp),qp,Av]
  .exact Wi cells r _ x q
theorem Q6{Y:Env}:∀{T:X0}{x:Str},
 (T.map λ(y:Str×NameKind)=>if(y.2==NameKind.free&&Y.scope.kind==.function&&Y.kindOf y.1==some .cell)then(y.1,NameKind.cell)else(y.1,y.2)).lookup x
  = (T.lookup x).map λk=>if(k==NameKind.free&&Y.scope.kind==.function&&Y.kindOf x==some .cell)then NameKind.cell else k
 |[],_=>rfl
 |(n,k)::r,x=>by
  have J:=@Q6 Y r x;rw[f9];cases hx:x==n with
  |true =>
   have e:=eq_of_beq hx;subst e;clear hx
   by_cases G:(k==NameKind.free&&Y.scope.kind==.function&&Y.kindOf x==some .cell)=true
   .simp only[G,mq,qp,Av,xd]
   .have B:(k==NameKind.free&&Y.scope.kind==.function&&Y.kindOf x==some .cell)=false:=by simpa using G
    simp only[B,dq,jq,qp,Av,xd]
  |false =>
   by_cases G:(k==NameKind.free&&Y.scope.kind==.function&&Y.kindOf n==some .cell)=true
   .simp only[G,mq,qp,hx];exact J
   .simp only[G,qp,hx];simpa[qp,hx]using J
theorem mem_of_lookup{Y T:Type}[BEq Y][LawfulBEq Y]:∀{l:List (Y×T)}{x:Y}{y:T},l.lookup x\y->(x,y)∈l
 |(a,b)::r,x,y,h=>by
  rw[qp]at h;cases e:x==a with
  |true=>rw[e]at h;cases h;rw[eq_of_beq e];exact dw|false=>rw[e]at h;exact bu _ (mem_of_lookup h)
def Fo{Y:Type}{v:Y}{r:List (Str×Y)}:((k,v)::r).lookup x=if x=k then some v else r.lookup x:=by
 rw[qp]
 by_cases h:x=k
 .rw[dm h,show(x==k)=true from Cd.mpr h]
 .rw[cz h,show(x==k)=false from vd.mpr h]
set_option tactic.hygienic true in
theorem aku:∀(l:X0)(n:Nat)(T:Xt)(x:Str)(c:Addr),(cellsFrom n l T).lookup x\c->((x,NameKind.cell)∈l/\n<=c)\/T.lookup x\c
 |[],_,_,_,_,h=>.inr h
 |(k,kd)::r,n,T,x,c,h=>by
  unfold cellsFrom at h;split at h
  .rename_i e
   rcases aku r _ _ x c h with⟨q,l⟩|q
   .exact .inl (bu _ q,by omega)
   .rw[Fo]at q
    split at q
    .rename_i z
     cases q;exact .inl (by rw[z,eq_of_beq e];exact dw,bz _)
    .exact .inr q
  .rcases aku r _ _ x c h with⟨q,l⟩|q
   .exact .inl (bu _ q,l)
   .exact .inr q
set_option tactic.hygienic true in
theorem ad4:∀(l:X0)(n:Nat)(T:Xt)(x:Str),((x,NameKind.cell)∈l\/∃c,T.lookup x\c)->∃c,(cellsFrom n l T).lookup x\c
 |[],_,_,_,h=>by rcases h with q|q;cases q;exact q
 |(k,kd)::r,n,T,x,h=>by
  unfold cellsFrom;split
  .refine ad4 r _ _ x ?_
   by_cases z:x=k
   .exact .inr (n,by rw[Fo,dm z])
   .rcases h with q|q
    .rcases dh.mp q with q|q
     .cases q;exact absurd rfl z
     .exact .inl q
    .exact .inr (by rw[Fo,cz z];exact q)
  .rename_i e
   refine ad4 r _ _ x ?_;rcases h with q|q
   .rcases dh.mp q with q|q
    .cases q;exact absurd rfl e
    .exact .inl q
   .exact .inr q
set_option tactic.hygienic true in
theorem asl:∀(l:X0)(n:Nat)(T:Xt)(x:Str),(x,NameKind.cell)∉l->(cellsFrom n l T).lookup x=T.lookup x
 |[],_,_,_,_=>rfl
 |(k,kd)::r,n,T,x,h=>by
  have B:(x,NameKind.cell)∉r:=λq=>h (bu _ q)
  unfold cellsFrom;split
  .rename_i e
   rw[asl r _ _ x B,Fo,cz];intro z;exact h (by rw[z,eq_of_beq e];exact dw)
  .exact asl r _ _ x B
set_option tactic.hygienic true in
theorem ai5:∀(l:X0)(n:Nat)(T:Xt),(∀x c,T.lookup x\c->c<n)->(∀x y c,T.lookup x\c->T.lookup y\c->x=y)->∀x y c,(cellsFrom n l T).lookup x\c->(cellsFrom n l T).lookup y\c->x=y
 |[],_,_,_,h=>h
 |(k,kd)::r,n,T,lt,h=>by
  unfold cellsFrom;split
  .refine ai5 r _ _ (λx c q=>?_) (λx y c O B=>?_)
   .rw[Fo]at q
    split at q
    .cases q;exact jy n
    .exact kh (lt x c q)
   .rw[Fo]at O B
    split at O<;>split at B
    .rename_i a b;rw[a,b]
    .cases O;exact absurd (lt y _ B) (o8 _)
    .cases B;exact absurd (lt x _ O) (o8 _)
    .exact h x y c O B
  .exact ai5 r _ _ lt h
set_option tactic.hygienic true in
theorem ad5:∀(l:X0)(h:Heap)(T:Xt),(∀x c,T.lookup x\c->∃v,h.IsCell c v)->∀x c,(cellsFrom h.objs.size l T).lookup x\c->∃v,(pushCells h l).IsCell c v
 |[],_,_,k,x,c,q=>k x c q
 |(n,kd)::r,h,T,k,x,c,q=>by
  unfold cellsFrom at q;unfold pushCells;split at q
  .rename_i e
   rw[dm e];have sz:(h.push { cls:=.type "cell",data:=.cell none }).objs.size=h.objs.size+1:=jm _ _;rw[<-sz]at q;refine ad5 r _ _ (λx c q=>?_) x c q;rw[Fo]at q;split at q
   .cases q;exact(none,_,dg _ rfl,rfl)
   .let(v,B):=k x c q
    exact(v,B.keeps λb o e=>au _ e)
  .rename_i e
   rw[cz e];exact ad5 r _ _ k x c q
set_option tactic.hygienic true in
theorem Zg(cells:Xt):∀(l:X0)(T:Xt)(x:Str)(c:Addr),(Fl cells l T).lookup x\c->(x,NameKind.free)∈l\/T.lookup x\c
 |[],_,_,_,h=>.inr h
 |(k,kd)::r,T,x,c,h=>by
  unfold Fl at h;rcases Zg cells r _ x c h with q|q
  .exact .inl (bu _ q)
  .split at q
   .rename_i e
    rw[Fo]at q;split at q
    .rename_i z
     exact .inl (by rw[z,eq_of_beq e];exact dw)
    .exact .inr q
   .exact .inr q
def anj(h:Q { scope:=scope,locals:=s.heap.objs.size,globals:=globals,cells:=cellsFrom (s.heap.objs.size+1) scope.names cl,qual:=qual,func:=none,code:=around.code,frame:=around.frame,builtins:=around.builtins } { s with heap:=pushCells (s.heap.push { cls:=.type "dict",data:=.dict #[] }) scope.names }) :
 wpAny M A (newFunctionEnv scope globals cl [] qual none .none (some around)) Q E s:=by
 simp only[newFunctionEnv,Option.isSome_some,mq];refine aa (wpAny_alloc ?_);refine aa (wpAny_layCells _ (λT Y cells=>by cases hkc:Y==NameKind.cell<;>simp[hkc]) _ _ _ _ ?_);rw[show({ s with heap:=s.heap.push { cls:=.type "dict",data:=.dict #[] } }:Shared).heap.objs.size=s.heap.objs.size+1 from jm ..];exact aa (aj (aj h))
def Pr(X:Cx)(N:Yf)(Y:Scope)(C:Addr)(T:X9)(s:Shared)(H:Hp):Cx where
 prog:=X.prog
 w:=X.w
 K:=X.K
 mg:=X.mg
 base:=X.base
 A:=X.A
 N:=N
 s₀:=s
 H₀:=H
 env:=compEnvC Y (cellsFrom (C+1) Y.names (Fl X.env.cells Y.names [])) C X.env
 outer:=X.stack
 stack:=X.stack
 ex:=T
 fn:=λx=>Y.names.lookup x==some .cell
 calm:=X.calm
 pn:=[]
 xe:=λ_ _=>False
structure Gu(X:Cx)(N:Yf)(scope:Scope):Prop where
 kind:scope.kind=.function
 locs:∀y∈scope.names,y.2=.local->scope.names.lookup y.1\.local
 frees:∀y∈scope.names,y.2=.free->X.env.kindOf y.1\.cell\/X.env.kindOf y.1\.free
 uniq:∀x k,(x,k)∈scope.names->scope.names.lookup x\k
 long:X.N.length<=N.length
 vis:∀i x,i<X.N.length->N[i]?\x->Vis (relabel scope X.env) x->X.N[i]?\x/\scope.names.lookup x\.free
theorem Gu.cells(B:Gu X N scope)(ok:X.Ok):∀y∈scope.names,y.2=.free->∃c,X.env.cells.lookup y.1\c:=λy Y T=>ok.has y.1 (B.frees y Y T)
def Gu.clos(B:Gu X N scope)(ok:X.Ok):closureFor scope X.env=pure (Fl X.env.cells scope.names []):=Ze (B.cells ok)
def Gu.inCells(B:Gu X N scope)(ok:X.Ok)(h:(Fl X.env.cells scope.names []).lookup x\c):X.env.cells.lookup x\c:=by
 rcases agc _ _ _ _ _ (B.cells ok) h with q|q
 .simp at q
 .exact q
def agd{X:Cx}(x:Str):(compEnvC scope cl C X.env).kindOf x=(scope.names.lookup x).map λk=>if(k==NameKind.free&&X.env.scope.kind==.function&&X.env.kindOf x==some .cell)then NameKind.cell else k:=by show(relabel scope X.env).names.lookup x=_;exact Q6
def Gu.ai6(B:Gu X N scope)(ok:X.Ok)(h:(cellsFrom (C+1) scope.names (Fl X.env.cells scope.names [])).lookup x\c):(scope.names.lookup x\.cell/\C+1<=c)\/X.env.cells.lookup x\c:=by
 rcases aku _ _ _ _ _ h with⟨q,l⟩|q
 .exact .inl (B.uniq _ _ q,l)
 .exact .inr (B.inCells ok q)
def ank(B:Gu X N scope)(I:Inv X pins σ H s)(R:∀b∈U,Xp X pins H b)(Q:∀b∈U,∃o,s.heap.get? b\o)(P:Z.Ns (s.heap.objs.size+1) λ_=>none)(W:∀b o,s.heap.get? b\o->Z.get? b\o)(Gx:Z.get? s.heap.objs.size=some { cls:=.type "list",data:=.seq ([]:Zl).toArray })(F:∀x c,(cellsFrom (s.heap.objs.size+1+1) scope.names (Fl X.env.cells scope.names [])).lookup x\c->∃v,Z.IsCell c v) :
 Inv (Pr X N scope (s.heap.objs.size+1) U s H) [] (σ++List.replicate (N.length-X.N.length) none) (upd H s.heap.objs.size (.lst [])) { s with heap:=Z,toks:=t }:=by
 have ok:=I.ok;have A:H s.heap.objs.size=none:=I.Bv.fresh (bz _);have hC:H (s.heap.objs.size+1)=none:=I.Bv.fresh (v9 _);have V:s.heap.objs.size+1≠s.heap.objs.size:=Nat.succ_ne_self _;have lt:∀b∈U,b<s.heap.objs.size:=λb J=>by let(o,e):=Q b J;exact cj e
 have L:∀x c,X.env.cells.lookup x\c->c<s.heap.objs.size:=λx c e=>by let(v,o,ho,_):=I.cell x c e;exact cj ho
 refine((ok.mod,B.kind,ok.glob,ok.blt,v9 _,?_,?_,?_,ok.hd,ok.frames,.inl rfl,?_,λb o e=>I.bs b o e,gh ok.bsz I.sz,?_,?_,I.stack,I.akm),rfl,I.bare,?_,?_,?_,?_,?_,?_,?_,?_)
 .intro x y c T hy
  refine ai5 scope.names (s.heap.objs.size+1+1) (Fl X.env.cells scope.names []) (λx c q=>?_) (λx y c D q2=>ok.inj x y c (B.inCells ok D) (B.inCells ok q2)) x y c T hy;exact kh (kh (L x c (B.inCells ok q)))
 .intro x T
  rw[show(Pr X N scope (s.heap.objs.size+1) U s H).env.kindOf x=_ from agd x]at T;cases e:scope.names.lookup x with
  |none=>rw[e]at T;rcases T with q|q<;>simp at q
  |some k =>
   have C:k=.free\/k=.cell:=by
    rw[e]at T;cases k with
    |free=>exact .inl rfl|cell=>exact .inr rfl|«local»=>rcases T with q|q<;>simp at q
    |globalExplicit=>rcases T with q|q<;>simp at q
    |globalImplicit=>rcases T with q|q<;>simp at q
   rcases C with rfl|rfl
   .exact ad4 _ _ _ _ (.inr (Wi _ _ _ _ (mem_of_lookup e)))
   .exact ad4 _ _ _ _ (.inl (mem_of_lookup e))
 .intro x c h O
  have h:scope.names.lookup x\.cell:=eq_of_beq h;show s.heap.objs.size<=c
  rcases aku _ _ _ _ _ O with⟨_,l⟩|q
  .exact gh (zj _ 2) l
  .rcases Zg _ _ _ _ _ q with z|z
   .rw[B.uniq _ _ z]at h;cases h
   .cases z
 .intro b J
  refine(λe=>?_,λx c O e=>?_)
  .have q:=lt b J
   have e:b=s.heap.objs.size+1:=e;rw[e]at q;exact absurd q (Nat.not_lt.mpr (v9 _))
  .let(_,_,_,_,f4,_):=R b J
   rcases B.ai6 ok O with⟨_,l⟩|O
   .have q:=lt b J
    rw[<-e]at q;exact absurd (iu (kh (kh q)) l) (o8 _)
   .exact f4 x c O e
 .intro b o e J
  let(_,_,_,f3,_):=R b J;rcases f3 with q|q
  .exact ok.aq9 b o e q
  .exact o8 _ (iu (cj e) (gh ok.bsz q))
 .intro b J q
  let(_,f1,f2,_):=R b J;rcases dh.mp (I.adu b q)with z|z
  .exact f1 z
  .exact f2 z
 .exact Un.laid W (bz _) A
 .refine(_,P,λi x v hN Y hv=>?_)
  have K:i<X.N.length:=by
   rcases Ax i σ.length with q|q
   .rw[I.len]at q;exact q
   .rw[jk q]at Y
    rw[List.getElem?_replicate]at Y;split at Y<;>simp at Y
  rw[gq (by rw[I.len];exact K)]at Y;let(T,C):=B.vis i x K hN hv;let(m,_,M):=I.loc;have E:=B.frees _ (mem_of_lookup C) rfl;have S:Vis X.env.scope x:=by
   rcases E with q|q
   .exact .inr (.inl q)
   .exact .inr (.inr q)
  let(u,ru,lu):=M i x v T Y S;refine(u,ru,.inr (?_,?_))
  .rw[show(Pr X N scope (s.heap.objs.size+1) U s H).env.kindOf x=_ from agd x,C]
   simp only[xd];split
   .exact .inl rfl
   .exact .inr rfl
  .rcases lu with⟨q,_⟩|⟨_,c,O,ic⟩
   .rcases E with z|z<;>rw[q]at z<;>cases z
   .let(c',G):=Wi X.env.cells scope.names [] x (mem_of_lookup C)
    have:=B.inCells ok G;rw[O]at this;cases this;refine(c,?_,ic.keeps W);show(cellsFrom (s.heap.objs.size+1+1) scope.names (Fl X.env.cells scope.names [])).lookup x\c;rw[asl _ _ _ _ λz=>by rw[B.uniq _ _ z]at C;cases C];exact G
 .exact F
 .show upd H s.heap.objs.size (.lst []) (s.heap.objs.size+1)=none
  rw[qm V];exact hC
 .intro x c O
  rcases B.ai6 ok O with⟨_,l⟩|G
  .have l:s.heap.objs.size+1+1<=c:=l
   rw[qm (xr (iu (kh (jy _)) l))];exact I.Bv.fresh (gh (zj _ 2) l)
  .rw[qm (gn (L x c G))]
   exact I.Q0 x c G
 .intro p hp;simp[Pr]at hp
 .exact Tv.laid I.Bv W (bz _) (jd _,[],0,.nil,Gx)
 .show(σ++List.replicate (N.length-X.N.length) none).length=N.length
  rw[jw,ye,I.len];have:=B.long;omega
def Q7(I:Nat->Shared->Prop)(O:∀n s,I n s->wpAny (model prog w) A (pyNext it) (λr U=>match r with
 |none=>R (.ok .next) U
 | some v=>wpAny (model prog w) A (letOwnedTupleGo target it v) (λ_ Z=>wpAny (model prog w) A (assign target env v) (λ_ q0 =>
  wpAny (model prog w) A (forIn ifs true λc r=>if r=true then do let ok<-isTrue c env (eval c env);pure (ForInStep.yield ok)else pure (ForInStep.yield r)) (λok qq =>
   if ok=true then wpAny (model prog w) A (eval elt env) (λx qv =>
    wpAny (model prog w) A (call (.builtin "list.append") [acc,x]) (λ_ qk=>∃m,m<n/\I m qk) (λ_ _=>False) qv) (λ_ _=>False) qq
   else ∃m,m<n/\I m qq) (λ_ _=>False) q0) (λ_ _=>False) Z) (λ_ _=>False) U) (λ_ _=>False) s)(n:Nat)(h:I n s) :
 codeAny (model prog w) A (.compLoop (.ListComp elt [(target,iter,ifs,0)] scope pos) 0 it acc env) R s:=by
 have S:∀{L:Type}{t:Sem L}{Q:L->Shared->Prop}{E:Y1}{s:Shared},wpAny (model prog w) A t Q (λ_ _=>False) s->wpAny (model prog w) A t Q E s:=λh=>kj h (λ_ _ q=>q) λ_ _ f=>f.elim
 refine codeAny_loop rfl I (λn s P=>?_) n h;show wpAny _ A ((compTurn (.ListComp elt [(target,iter,ifs,0)] scope pos) 0 it acc env).onRaise (λx=>do noteFrame x env;theTreesLotGoes x)) _ _ s;refine wpAny_noted ?_;rw[compTurn_list];refine aa (wpAny_standAt (aa (kj (O n s P) (λr U T=>?_) λ_ _ Y=>Y.elim)));cases r with
 |none=>exact aj T
 |some v =>
  refine aa (kj T (λ_ Z J=>?_) λ_ _ Y=>Y.elim);refine aa (kj J (λ_ q0 C=>aa (kj C (λok qq G=>?_) λ_ _ Y=>Y.elim)) λ_ _ Y=>Y.elim);cases ok with
  |false=>exact aj (rfl,G)
  |true =>
   exact aa (aa (kj G (λx qv B=>aa (kj B (λ_ qk N=>aj (aj (rfl,N))) λ_ _ Y=>Y.elim)) λ_ _ Y=>Y.elim))
def age(k:Nat)(P:TI)(g:TG)(E:TT)(S:TE):TE:=λG H Q=>P G H λJ C=>∀D,C D=none->∃W:Nat->Nat->Hp->Prop,(∃m,W 0 m (upd C D (.lst [])))/\∀i m H,W i m H ->
 (J.stop i H/\Q (.ref D) H)\/(J.go i H/\∀x O,J.yld i H x O->g x (G++List.replicate k none) O λY R=>Y.length=(G++List.replicate k none).length /\
  (∀(j:Nat) v,(G++List.replicate k none)[j]?\(some v)->Y[j]?\(some v))/\E Y R λb N =>
   if b=true then S Y N λv L=>∃B T,L D\(.lst B)/\B.length<sizeLine/\T<m/\W (i+1) T (upd L D (.lst (B++[v])))else ∃T,T<m/\W (i+1) T N)
def PTs(X:Cx)(Y:Ya)(T:TT):Prop:=(Y=[]/\T=λ_ H Q=>Q true H)\/∃c,Y=[c]/\PT X c T
def abz(I:Inv X pins σ H s)(B:∀b∈Z,Xp X pins H b)(J:Inv (Pr X N scope (s.heap.objs.size+1) Z s H) [] qq U s3):Inv X pins σ U s3/\∃m,s3.heap.Ns (s.heap.objs.size+1) m:=by
 refine(I.call' J.os J.base J.Bv J.bare λb Y=>?_,?_)
 .symm
  let(_,f1,_,G,T,f5):=B b Y;apply _k;exact(G,f1,T,f5)
 .let(m,O,_):=J.loc
  exact(m,O)
def anl(I:Inv X pins σ H s)(O:Inv X pins σ Z s3)(T:Z (s.heap.objs.size+1)=none)(G:Heap.SameBut (s.heap.objs.size+1) s3.heap U):Inv X pins σ Z { s3 with heap:=U }:=by
 have big:∀b o,s.heap.get? b\o->b≠s.heap.objs.size+1:=λb o e z=>by have:=cj e;rw[z]at this;exact absurd this (Nat.not_lt.mpr (v9 _))
 refine O.turned (t':=s3.toks) (λb o J e=>G.extBut b o J e) T ?_ (.inr (gh I.sz (v9 _))) ?_ ?_
 .intro e
  symm
  let(m,(o,_,_,Y,_),_):=I.loc;apply _k;exact big _ o Y e.symm
 .intro x c B
  let(v,o,Y,_):=I.cell x c B;exact big c o Y
 .intro p C
  exact big p.1 p.2 (I.pin p C).1
def Zh{RR:Value->Addr->Result->Shared->Prop}(B:Gu X N scope)(K7:X.calm=true)(I:Inv X pins σ H s)(hf:∀b∈Z,Xp X pins H b)(T:Turn X.prog X.w X.K tg J Z it tn)(h0:tn 0 s.heap)(hg:∀C s H,PG (Pr X N scope C Z s H) tg g)(hc:∀C s H,PTs (Pr X N scope C Z s H) ifs tc)(he:∀C s H,PE (Pr X N scope C Z s H) elt te){Q:VK}(W:Nat->Nat->Hp->Prop)(w0:W 0 m0 (upd H s.heap.objs.size (.lst [])))(q2:∀i m H,W i m H->(J.stop i H/\Q (.ref s.heap.objs.size) H)\/(J.go i H/\∀x H',J.yld i H x H'->g x (σ++List.replicate (N.length-X.N.length) none) H' λqq H2=>qq.length=(σ++List.replicate (N.length-X.N.length) none).length /\
 (∀(j:Nat) v,(σ++List.replicate (N.length-X.N.length) none)[j]?\(some v)->qq[j]?\(some v))/\tc qq H2 λb H3 =>
  if b=true then te qq H3 λv H4=>∃xs U,H4 s.heap.objs.size\(.lst xs)/\xs.length<sizeLine/\U<m/\W (i+1) U (upd H4 s.heap.objs.size (.lst (xs++[v])))else ∃U,U<m/\W (i+1) U H3))(zw:∀q5 H3 s3,Inv (Pr X N scope (s.heap.objs.size+1) Z s H) [] q5 H3 s3->Q (.ref s.heap.objs.size) H3->RR (.ref s.heap.objs.size) (s.heap.objs.size+1) (.ok .next) s3) :
 wpAny (model X.prog X.w) X.A (newList []) (λq3 zq=>wpAny (model X.prog X.w) X.A (newFunctionEnv scope X.env.globals (Fl X.env.cells scope.names []) [] X.env.qual none .none (some X.env)) (λqk zu =>
  codeAny (model X.prog X.w) X.A (.compStart (.ListComp elt [(tg,iter,ifs,0)] scope pos) 0 (.ref it) q3 { qk with scope:=relabel scope X.env }) (RR q3 qk.locals) zu) E zq) E s:=by
 refine uo (anj ?_);have q0:(s.heap.push { cls:=.type "list",dict:=none,data:=.seq ([]:Zl).toArray }).objs.size=s.heap.objs.size+1:=jm _ _;obtain⟨Y,eh⟩:∃Y,Y=pushCells ((s.heap.push { cls:=.type "list",dict:=none,data:=.seq ([]:Zl).toArray }).push { cls:=.type "dict",data:=.dict #[] }) scope.names:=(_,rfl);have up:∀b o,(s.heap.push { cls:=.type "list",dict:=none,data:=.seq ([]:Zl).toArray }).get? b\o->Y.get? b\o:=λb o e=>by rw[eh];exact pushCells_keeps _ _ b o (au _ e)
 have qv:∀b o,s.heap.get? b\o->Y.get? b\o:=λb o e=>up b o (au _ e)
 have Gx:Y.get? s.heap.objs.size=some { cls:=.type "list",data:=.seq ([]:Zl).toArray }:=up _ _ (dg _ rfl);have S:Y.Ns (s.heap.objs.size+1) λ_=>none:=by rw[eh,<-q0];exact(Heap.Ns.new _ (.type "dict")).keeps (pushCells_keeps _ _)
 have z2:∀x c,(cellsFrom (s.heap.objs.size+1+1) scope.names (Fl X.env.cells scope.names [])).lookup x\c->∃v,Y.IsCell c v:=by
  have z3:((s.heap.push { cls:=.type "list",dict:=none,data:=.seq ([]:Zl).toArray }).push { cls:=.type "dict",data:=.dict #[] }).objs.size=s.heap.objs.size+1+1:=by rw[jm,q0]
  rw[eh,<-z3];refine ad5 _ _ _ λx c q=>?_
  let(v,hv):=I.cell x c (B.inCells I.ok q);exact(v,hv.keeps λb o e=>au _ (au _ e))
 have R:∀b∈Z,∃o,s.heap.get? b\o:=λb G=>let (o,e,_):=T.obj 0 _ h0 b G;(o,e)
 have I0:=ank (t:=s.toks) B I hf R S qv Gx z2;have F:∀{H':Hp},(∀b∈Z,H' b=none)->∀b∈Z,Xp (Pr X N scope (s.heap.objs.size+1) Z s H) [] H' b:=λhn b G=>by
  symm
  let(f0,f1,f2,f3,f4,f5):=hf b G;apply _k;refine(hn b G,?_,?_,.inl G,?_,λp hp=>(by simp[Pr]at hp))
  .intro z
   let(o,e):=R b G;have:=cj e;rw[show b=s.heap.objs.size+1 from z]at this;exact absurd this (Nat.not_lt.mpr (v9 _))
  .intro q
   rcases dh.mp (I.adu b q)with z|z
   .exact f1 z
   .exact f2 z
  .intro x c hc
   rcases B.ai6 I.ok hc with⟨_,l⟩|hc
   .intro z
    let(o,e):=R b G;have q:=cj e;rw[<-z]at q;exact absurd (iu (kh (kh q)) l) (o8 _)
   .exact f4 x c hc
 have zk:∀b∈Z,upd H s.heap.objs.size (.lst []) b=none:=λb G=>by let(o,e):=R b G;rw[qm (gn (cj e))];exact(hf b G).1
 have V:∀s':Shared,s'={ s with heap:=Y }->codeAny (model X.prog X.w) X.A (.compLoop (.ListComp elt [(tg,iter,ifs,0)] scope pos) 0 (.ref it) (.ref s.heap.objs.size) (compEnvC scope (cellsFrom (s.heap.objs.size+1+1) scope.names (Fl X.env.cells scope.names [])) (s.heap.objs.size+1) X.env))
  (RR (.ref s.heap.objs.size) (s.heap.objs.size+1)) s':=by
  rintro s' rfl;refine Q7 (λn s'=>∃i L H',Inv (Pr X N scope (s.heap.objs.size+1) Z s H) [] L H' s'/\(∀(j:Nat) v,(σ++List.replicate (N.length-X.N.length) none)[j]?\(some v)->L[j]?\(some v))/\tn i s'.heap/\(∀b∈Z,H' b=none)/\W i n H') ?_ m0
   (0,_,_,I0,λ_ _ z=>z,T.keep 0 _ _ h0 (λb _ o e=>qv b o e),zk,w0)
  rintro n s3 ⟨i,q5,H3,I3,k3,q8,zz,w3⟩;have q4:=I3.weak (σ':=σ++List.replicate (N.length-X.N.length) none) (by rw[I3.len];exact I0.len) k3;rcases q2 i n H3 w3 with⟨q1,qn⟩|⟨go,step⟩
  .refine Ko (T.done (Pr X N scope (s.heap.objs.size+1) Z s H) rfl rfl rfl K7 i [] s3 _ H3 (λ_ _=>False) q4 (F zz) q8 q1) λr s4 z_=>?_
   let(hr,I4):=z_;subst hr;exact zw _ _ _ I4 qn
  .refine Ko (T.item (Pr X N scope (s.heap.objs.size+1) Z s H) rfl rfl rfl K7 i [] s3 _ H3 (λ_ _=>False) q4 (F zz) q8 go) λr s4 z_=>?_
   let(u,hr,h4):=z_;subst hr;refine Ko h4 λ_ s5 z_=>?_
   symm
   let(x,H5,I5,r5,y5,D,zv):=z_;have z1:=I5.pinned (F zv) (T.obj _ _ D);apply _k;refine Ko (hg _ _ _ _ s5 _ H5 x u _ z1 r5 (step x H5 y5)) λ_ s6 z_=>?_
   symm
   let(O,H6,I6,l6,k6,q6):=z_;have P:∀{akn:Zp}{H7:Hp}{s7:Shared}{m:Nat},Inv (Pr X N scope (s.heap.objs.size+1) Z s H) ([]++Wg Z s5.heap) O H7 s7->m<n->W (i+1) m H7 ->
    ∃m,m<n/\∃i L H',Inv (Pr X N scope (s.heap.objs.size+1) Z s H) [] L H' s7/\(∀(j:Nat) v,(σ++List.replicate (N.length-X.N.length) none)[j]?\(some v)->L[j]?\(some v))/\tn i s7.heap/\(∀b∈Z,H' b=none)/\W i m H':=fun{_ H7 s7 m} I7 hm w7=>by
    refine(m,hm,i+1,O,H7,I7.Q4,k6,T.keep _ _ _ D λb G o e=>(I7.pin (b,o) (jo _ (jo _ (Oa G e)))).1,λb G=>?_,w7);let(o,e,d):=T.obj _ _ D b G;exact(I7.pin (b,o) (jo _ (jo _ (Oa G e)))).2.1
   have M:wpAny (model X.prog X.w) X.A (forIn ifs true λc r=>if r=true then do let ok<-isTrue c (compEnvC scope (cellsFrom (s.heap.objs.size+1+1) scope.names (Fl X.env.cells scope.names [])) (s.heap.objs.size+1) X.env) (eval c (compEnvC scope (cellsFrom (s.heap.objs.size+1+1) scope.names (Fl X.env.cells scope.names [])) (s.heap.objs.size+1) X.env));pure (ForInStep.yield ok)else pure (ForInStep.yield r))
    (TP (Pr X N scope (s.heap.objs.size+1) Z s H) ([]++Wg Z s5.heap) O λb H3 =>
     if b=true then te O H3 λv H4=>∃xs U,H4 s.heap.objs.size\(.lst xs)/\xs.length<sizeLine/\U<n/\W (i+1) U (upd H4 s.heap.objs.size (.lst (xs++[v])))else ∃U,U<n/\W (i+1) U H3) (λ_ _=>False) s6:=by
    rcases hc (s.heap.objs.size+1) s H with⟨rfl,rfl⟩|⟨c,rfl,z0⟩
    .exact wpAny_tests_nil (H6,I6,q6)
    .exact wpAny_tests_one (z0 _ s6 O H6 _ I6 q6)
   apply _k;refine Ko M λok s7 z_=>?_
   let(H7,I7,q7):=z_;cases ok with
   |false =>
    let(U,hm,w7):=(show ∃U,U<n/\W (i+1) U H7 from q7);exact P (akn:=[]) I7 hm w7
   |true =>
    show wpAny _ _ _ _ _ _;refine Ko (he _ _ _ _ s7 O H7 _ I7 q7) λx s8 z_=>?_
    symm
    let(v,H8,I8,r8,xs,U,hD,hl,hm,w8):=z_;apply _k;refine Ko (abw _ s8 O H8 (.ref s.heap.objs.size) [v] (.ref s.heap.objs.size) [x] (λ_ H'=>W (i+1) U H') I8 rfl (.cons r8 .nil) (_,xs,v,rfl,rfl,hD,hl,w8)) λ_ s9 z_=>?_
    let(_,H9,I9,_,w9):=z_;exact P (akn:=[]) I9 hm w9
 rw[<-eh,q0];exact codeAny_compStart_list (V _ rfl) (T.self _ 0 _ _ _ (T.keep 0 _ _ h0 (λb _ o e=>qv b o e)) (V _ rfl))
def akv(B:Gu X N scope)(l:X.calm=true)(S:PI X tg iter wi)(j:∀C Z s H,PG (Pr X N scope C Z s H) tg g)(u:∀C Z s H,PTs (Pr X N scope C Z s H) ifs tc)(q:∀C Z s H,PE (Pr X N scope C Z s H) elt U)(D:∀x,foldedSetIterable iter X.env x=pure x):PE X (.ListComp elt [(tg,iter,ifs,0)] scope pos) (age (N.length-X.N.length) wi g tc U):=by
 intro Y s E H Q I h;rw[eval_ListComp];refine wpAny_comprehension_free (use:=none) rfl D (B.clos I.ok) B.kind B.locs (Ko (S Y s E H _ I h) λv i K=>Ko K λt R V=>?_);symm
 let(it,Z,b,J,k,rfl,I2,T,L,f2,r):=V;let(W,(f,d),G):=r R.heap.objs.size (I2.Bv.fresh (bz _));apply _k;refine Zh (RR:=λO C=>compPost (model X.prog X.w) X.A X.xe none (EP X Y E Q) O C) B l I2 f2 T L (λC s H=>j C Z s H) (λC s H=>u C Z s H) (λC s H=>q C Z s H) W d G ?_;intro z F o P M;let(p,m,y):=abz I2 f2 P;exact(m,y,λn c=>(.ref R.heap.objs.size,F,anl I2 p P.free c,rfl,M))
def akx(B:Gu X N scope)(K7:X.calm=true)(hi:PI X tg iter wi)(hg:∀C Z s H,PG (Pr X N scope C Z s H) tg g)(hc:∀C Z s H,PTs (Pr X N scope C Z s H) ifs tc)(he:∀C Z s H,PE (Pr X N scope C Z s H) elt te)(hs:∀x,foldedSetIterable iter X.env x=pure x)(hN:X.N.Nodup)(hy:X.N[i]?\y)(hl:X.env.scope.names.lookup y\.local)(qk:swapsWith (.ListComp elt [(tg,iter,ifs,0)] scope pos) (some (.Name y py)) asm.line X.env=pure true) :
 PS X (.Assign [.Name y py] (.ListComp elt [(tg,iter,ifs,0)] scope pos) asm) (a5n (age (N.length-X.N.length) wi g tc te) (ako i)):=by
 intro Y s S H D I h;rw[exec_Assign_Name_used _ _ _ _ qk];refine aa (wpAny_standAt (aa ?_));show wpAny _ _ (do let _<-comprehension (.ListComp elt [(tg,iter,ifs,0)] scope pos) scope X.env _ (newList []) false (eval iter X.env) (some (assign (.Name y py) X.env))) _ _ s;refine aa (kj (wpAny_comprehension_free (use:=some (assign (.Name y py) X.env)) (Q:=λ_ P=>SP X Y D .next P) rfl hs (B.clos I.ok) B.kind B.locs
  (Ko (hi Y s S H _ I h) λv s1 h1=>Ko h1 λq0 G h2=>?_)) (λ_ P hq=>aj (aj hq)) λ_ _ e=>e)
 symm
 let(it,Z,tn,J,H2,rfl,I2,T,U,f2,q2):=h2;let(W,(m0,w0),L):=q2 G.heap.objs.size (I2.Bv.fresh (bz _));apply _k;refine Zh (RR:=λF C=>compPost (model X.prog X.w) X.A X.xe (some (assign (.Name y py) X.env)) (λ_ P=>SP X Y D .next P) F C) (Q:=λx H1=>ako i x S H1 D.nx) B K7 I2 f2 T U (λC s H=>hg C Z s H) (λC s H=>hc C Z s H) (λC s H=>he C Z s H) W w0 L ?_;intro qv H3 s3 I3 q3;symm
 let(J3,m,hn):=abz I2 f2 I3;have K:=I3.free;let(R,_,_,O,V,_):=id hn;have big:∀b o,G.heap.get? b\o->b≠G.heap.objs.size+1:=λb o e z=>by have:=cj e;rw[z]at this;exact absurd this (Nat.not_lt.mpr (v9 _))
 have E:G.heap.objs.size+1≠X.env.locals:=λe=>by
  symm
  let(m,(o,_,_,ho,_),_):=I2.loc;apply _k;exact big _ o ho e.symm
 have J4:Inv X (Y++[(G.heap.objs.size+1,R)]) S H3 s3:=J3.U6 λp hp=>by
  rcases dz.mp hp with q|q
  .exact J3.pin p (jo _ q)
  .have e:p=(G.heap.objs.size+1,R):=by simpa using q
   subst e;refine(O,K,E,λM=>?_,λv z=>by rw[V]at z;cases z);exact I2.a4t (v9 _) M
 apply _k;show wpAny (model X.prog X.w) X.A (assign (.Name y py) X.env (.ref G.heap.objs.size)) _ _ s3;refine Ko (adx (pos:=py) hN hy (.inl hl) (.inr hl) (Y++[(G.heap.objs.size+1,R)]) s3 S H3 (.ref G.heap.objs.size) (.ref G.heap.objs.size) D.nx J4 rfl q3) λ_ s4 z_=>?_
 let(qq,H4,I4,q4):=z_;have pC:=I4.pin (G.heap.objs.size+1,R) (jo _ (jo _ (by simp)));refine(m,hn.at' λo e=>by rw[O]at e;cases e;exact pC.1,λh' Rp=>(qq,H4,?_,q4));refine(I4.Q4).turned (t':=s4.toks) (λb o M e=>Rp.extBut b o M e) pC.2.1 E (.inr (gh I2.sz (v9 _))) ?_ ?_
 .intro x c hc
  let(v,o,ho,_):=I2.cell x c hc;exact big c o ho
 .intro p hp
  exact big p.1 p.2 (I2.pin p hp).1
end L2
namespace Sm
open PySem L2
open MW (Ex Gm OEx Sq Dg p7 Lv Tg Res fc MO Kg Cp Op2 Blt Bm Kx)
abbrev Dv:=MW.D
abbrev En:=MW.Env
structure Io where
 l:List Addr
 δ:List Addr
 s:Nat->Nat->Nat->Nat->Int
noncomputable def Io.add(Y:Io)(p:Addr):Io:=(Y.l++[p],Y.δ,Y.s)
noncomputable def Io.adds(Y:Io)(p:Addr)(f:Nat->Nat->Nat->Int):Io:=(Y.l++[p],Y.δ,λn=>if n=Y.l.length then f else Y.s n)
def Io.anm(Y:Io)(p:Addr):Y.adds p (Y.s Y.l.length)=Y.add p:=by
 unfold Io.adds Io.add
 congr 1;funext n;split<;>simp_all
noncomputable def Io.hide(Y:Io)(p:Addr):Io:=(Y.l,p::Y.δ,Y.s)
def Io.off(Y:Io)(a:Addr):Prop:=a∉Y.l/\a∉Y.δ
def ano(K:Fg)(H:Hp)(a:Addr)(T:List V):Prop:=
 (∃o,H a\(.Um o (.lst T))) \/
  ∃(o:Obj)(Y:U1)(n:Nat),K.lookup a\o/\o.cls=.type "list"/\o.dict=none/\o.data=.seq Y n/\Y.size<=sizeLine/\Vals T Y.toList
def ano.sq(h:ano K H a vs):Kc K H a vs:=by
 rcases h with⟨o,h⟩|h
 .exact .inl (.inr (o,h))
 .exact .inr h
noncomputable def syV(s:Nat->Nat->Nat->Nat->Int):MW.Sy->Int
 |.v n e k j=>s n e k j|.m x c=>syV s x*c|.a x y=>syV s x+syV s y
def anp(N:Nat):MW.Sy->Prop
 |.v n _ _ _=>n<N|.m x _=>anp N x|.a x y=>anp N x/\anp N y
mutual
inductive Rep(K:Fg)(ι:Io)(H:Hp):Dv->V->Prop
 |non:Rep K ι H .non .non
 |bl (b:Bool):Rep K ι H (.bl b) (.bl b)
 |int (i:Int):Rep K ι H (.int i) (.int i)
 |str (s:Str):Rep K ι H (.str s) (.str s)
 |tup {a:Addr} {ds:List Dv} {vs:List V} (e:H a\(.tup vs)) (r:qz K ι H ds vs):Rep K ι H (.tup ds) (.ref a)
 |vl {a:Addr} {ds:List Dv} {vs:List V} (e:H a\(.lst vs)) (n:ι.off a) (r:qz K ι H ds vs):Rep K ι H (.vl ds) (.ref a)
 |fz {a:Addr} {ds:List Dv} {vs:List V} (e:ano K H a vs) (r:qz K ι H ds vs):Rep K ι H (.fz ds) (.ref a)
 |ref {n:Nat} {a:Addr} (e:ι.l[n]?\a):Rep K ι H (.ref n) (.ref a)
 |sy {y:MW.Sy} (h:anp ι.l.length y):Rep K ι H (.sy y) (.int (syV ι.s y))
inductive qz(K:Fg)(ι:Io)(H:Hp):List Dv->List V->Prop
 |nil:qz K ι H [] []
 |cons {d:Dv} {v:V} {ds:List Dv} {vs:List V} (h:Rep K ι H d v) (t:qz K ι H ds vs):qz K ι H (d::ds) (v::vs)
end
structure Le(ι:Io)(H:Hp)(ι':Io)(H':Hp):Prop where
 ext:∃Y,ι'.l=ι.l++Y/\∀a∈Y,H a=none
 del:ι'.δ=ι.δ
 tup:∀a vs,H a\(.tup vs)->H' a\(.tup vs)
 Um:∀a o u,H a\(.Um o u)->H' a\(.Um o u)
 lst:∀a vs,a∉ι.l->H a\(.lst vs)->H' a\(.lst vs)
 dom:∀a,H' a=none->H a=none
 sy:∀n,n < ι.l.length->ι'.s n=ι.s n
def Le.refl(Y:Io)(H:Hp):Le Y H Y H:=(([],by simp,by simp),rfl,λ_ _ h=>h,λ_ _ _ h=>h,λ_ _ _ h=>h,λ_ h=>h,λ_ _=>rfl)
def Ja{H H':Hp}(T:∀a u,H a\u->∃Z,H' a\Z)(h:H' a=none):H a=none:=by
 cases e:H a with
 |none=>rfl|some u=>let(Z,Y):=T a u e;rw[h]at Y;cases Y
def Le.get(l:Le U H Z H'){n:Nat}(h:U.l[n]?\a):Z.l[n]?\a:=by let(Y,e,_):=l.ext;rw[e,gq (ao.mp h).1];exact h
def Le.a6o(l:Le U H Z H')(h:a∉U.l)(T:H a\o):a∉Z.l:=by
 let(Y,e,G):=l.ext;rw[e];intro m;rcases dz.mp m with q|q
 .exact h q
 .rw[G a q]at T;cases T
def Le.out(l:Le U H Z H')(h:U.off a)(Y:H a\o):Z.off a:=(l.a6o h.1 Y,by rw[l.del];exact h.2)
theorem Le.trans(a:Le ι H qq H1)(b:Le qq H1 U H2):Le ι H U H2:=by
 let(Y,G,O):=a.ext;let(Z,B,J):=b.ext;refine((Y++Z,by rw[B,G,w5],λx m=>?_),b.del.trans a.del,λx T h=>b.tup x T (a.tup x T h),λx o u h=>b.Um x o u (a.Um x o u h),λx T n h=>b.lst x T (a.a6o n h) (a.lst x T n h),λx h=>a.dom x (b.dom x h),λn h=>(b.sy n (by rw[G,jw];exact Nat.lt_add_right _ h)).trans (a.sy n h));rcases dz.mp m with q|q
 .exact O x q
 .exact a.dom x (J x q)
structure LeX(ι:Io)(H:Hp)(ι':Io)(H':Hp):Prop where
 ext:∃Y,ι'.l=ι.l++Y/\∀a∈Y,H a=none
 del:∀a∈ι'.δ,a∈ι.δ\/H a=none
 tup:∀a vs,H a\(.tup vs)->H' a\(.tup vs)
 Um:∀a o u,H a\(.Um o u)->H' a\(.Um o u)
 lst:∀a vs,a∉ι.l->H a\(.lst vs)->H' a\(.lst vs)
 sy:∀n,n < ι.l.length->ι'.s n=ι.s n
def Le.toX(l:Le U H Z H'):LeX U H Z H':=(l.ext,λa h=>.inl (by rw[<-l.del];exact h),l.tup,l.Um,l.lst,l.sy)
def LeX.get(l:LeX U H Z H'){n:Nat}(h:U.l[n]?\a):Z.l[n]?\a:=by let(Y,e,_):=l.ext;rw[e,gq (ao.mp h).1];exact h
def LeX.out(l:LeX U H Z H')(h:U.off a)(T:H a\o):Z.off a:=by
 let(Y,e,G):=l.ext;refine(λm=>?_,λm=>?_)
 .rw[e]at m
  rcases dz.mp m with q|q
  .exact h.1 q
  .rw[G a q]at T;cases T
 .rcases l.del a m with q|q
  .exact h.2 q
  .rw[q]at T;cases T
structure Tr(K:Fg)(ι:Io)(H:Hp)(ι':Io)(H':Hp):Prop where
 tup:∀a vs,H a\(.tup vs)->H' a\(.tup vs)
 vl:∀a vs,H a\(.lst vs)->ι.off a->H' a\(.lst vs)/\ι'.off a
 fz:∀a vs,ano K H a vs->ano K H' a vs
 rf:∀(n:Nat) a,ι.l[n]?\a->ι'.l[n]?\a
 sy:∀n,n < ι.l.length->ι'.s n=ι.s n
def Tr.len(l:Tr K U H Z H')(h:n < U.l.length):n < Z.l.length:=(ao.mp (l.rf n _ (bw h))).1
def Tr.sys(l:Tr K U H Z H'){y:MW.Sy}(h:anp U.l.length y):anp Z.l.length y/\syV Z.s y=syV U.s y:=by
 induction y with
 |v n e k j=>exact(l.len h,by show Z.s n e k j=U.s n e k j;rw[l.sy n h])
 |m x c G=>exact((G h).1,by show syV Z.s x*c=syV U.s x*c;rw[(G h).2])
 |a x y T Y=>exact(((T h.1).1,(Y h.2).1),by show syV Z.s x+syV Z.s y=syV U.s x+syV U.s y;rw[(T h.1).2,(Y h.2).2])
def Rep.tr{K:Fg}{G Y:Io}{H T:Hp}(l:Tr K G H Y T){d:Dv}{v:V}(h:Rep K G H d v):Rep K Y T d v:=
 Rep.rec (motive_1:=λd v _=>Rep K Y T d v) (motive_2:=λB J _=>qz K Y T B J) .non .bl .int .str (λe _ r=>.tup (l.tup _ _ e) r) (λe n _ r=>.vl (l.vl _ _ e n).1 (l.vl _ _ e n).2 r) (λe _ r=>.fz (l.fz _ _ e) r) (λe=>.ref (l.rf _ _ e)) (λh=>by rw[<-(l.sys h).2];exact .sy (l.sys h).1) .nil (λ_ _ h t=>.cons h t) h
theorem qz.tr{K:Fg}{J Y:Io}{H G:Hp}(l:Tr K J H Y G){T:List Dv}{vs:List V}(h:qz K J H T vs):qz K Y G T vs:=by
 induction T generalizing vs with
 |nil=>cases h;exact .nil|cons d T B=>cases h with|cons h t=>exact .cons (h.tr l) (B t)
def LeX.tr(l:LeX U H Z H'):Tr K U H Z H':=⟨l.tup,λa Y e n=>(l.lst _ _ n.1 e,l.out n e),λa Y e=>by
 rcases e with⟨o,e⟩|e
 .exact .inl (o,l.Um _ _ _ e)
 .exact .inr e,λ_ _ e=>l.get e,l.sy⟩
def Rep.Pa(l:LeX U H Z H')(r:Rep K U H d v):Rep K Z H' d v:=r.tr l.tr
def qz.Pa(l:LeX U H Z H')(r:qz K U H ds vs):qz K Z H' ds vs:=r.tr l.tr
def Rep.mono(l:Le U H Z H')(r:Rep K U H d v):Rep K Z H' d v:=r.Pa l.toX
def qz.mono(l:Le U H Z H')(r:qz K U H ds vs):qz K Z H' ds vs:=r.Pa l.toX
theorem qz.length{K:Fg}{G:Io}{H:Hp}:∀{T:List Dv}{Y:List V},qz K G H T Y->T.length=Y.length:=by intro A B h;induction A generalizing B with|nil=>cases h;rfl|cons d A ih=>cases h with|cons _ t=>rw[ie,ie,ih t]
def qz.get{K:Fg}{G:Io}{H:Hp}{Y:List Dv}{T:List V}{i:Nat}{d:Dv}(h:qz K G H Y T)(e:Y[i]?\d):∃v,T[i]?\v/\Rep K G H d v:=by
 induction Y generalizing T i with
 |nil=>simp at e
 |cons x Y J=>cases h with
  |cons h t=>cases i with
   |zero=>simp at e;subst e;exact(_,rfl,h)|succ i=>have:=J (i:=i) t e;exact this
theorem qz.set{K:Fg}{Y:Io}{H:Hp}{d:Dv}{v:V}(r:Rep K Y H d v):∀{G:List Dv}{T:List V}(i:Nat),qz K Y H G T->qz K Y H (G.set i d) (T.set i v)
 |_,_,_,.nil=>.nil|_,_,0,.cons _ t=>.cons r t|_,_,i+1,.cons h t=>.cons h (qz.set r i t)
theorem qz.append{K:Fg}{Y:Io}{H:Hp}:∀{B T:List Dv}{G J:List V},qz K Y H B G->qz K Y H T J->qz K Y H (B++T) (G++J):=by intro A _ B _ h r;induction A generalizing B with|nil=>cases h;exact r|cons d A ih=>cases h with|cons h t=>exact .cons h (ih t)
theorem qz.drop{K:Fg}{G:Io}{H:Hp}:∀{T:List Dv}{Y:List V}(n:Nat),qz K G H T Y->qz K G H (T.drop n) (Y.drop n)
 |_,_,0,r=>r|_,_,_+1,.nil=>.nil|_,_,n+1,.cons _ t=>qz.drop n t
theorem qz.take{K:Fg}{G:Io}{H:Hp}:∀{T:List Dv}{Y:List V}(n:Nat),qz K G H T Y->qz K G H (T.take n) (Y.take n)
 |_,_,0,_=>.nil|_,_,_+1,.nil=>.nil|_,_,n+1,.cons h t=>.cons h (qz.take n t)
theorem qz.eraseIdx{K:Fg}{G:Io}{H:Hp}:∀{T:List Dv}{Y:List V}(n:Nat),qz K G H T Y->qz K G H (T.eraseIdx n) (Y.eraseIdx n)
 |_,_,_,.nil=>.nil|_,_,0,.cons _ t=>t|_,_,n+1,.cons h t=>.cons h (qz.eraseIdx n t)
theorem qz.ints{K:Fg}{T:Io}{H:Hp}:∀(Y:Xs),qz K T H (Y.map MW.D.int) (Y.map V.int)
 |[]=>.nil|n::r=>.cons (.int n) (qz.ints r)
structure Nm where
 cls:Nat->Option Addr
 fld:Nat->Str
 inj:∀i j,fld i=fld j->i=j
inductive xg{κ κ':Type}(K:Fg)(ι:Io)(H:Hp)(f:κ->κ'->Prop):List (κ×Dv)->List (κ'×V)->Prop
 |nil:xg K ι H f [] []
 |cons {k:κ} {k':κ'} {d:Dv} {v:V} {l:List (κ×Dv)} {l':List (κ'×V)} (hk:f k k') (h:Rep K ι H d v) (t:xg K ι H f l l'):xg K ι H f ((k,d)::l) ((k',v)::l')
theorem xg.tr{T Y:Type}{f:T->Y->Prop}(t:Tr K ι H Z U){l:List (T×Dv)}{l':List (Y×V)}(h:xg K ι H f l l'):xg K Z U f l l':=by
 induction h with
 |nil=>exact .nil|cons k h _ G=>exact .cons k (h.tr t) G
def xg.mono(le:Le U H Z H')(h:xg K U H f l l'):xg K Z H' f l l':=h.tr le.toX.tr
def Hb(G:Nm)(K:Fg)(T:Io)(H:Hp)(o:MO)(a:Addr):Prop:=
 match o with
 |.lst ds=>∃J,H a\(.lst J)/\qz K T H ds J|.dT jf=>∃l,H a\(.dT l)/\xg K T H (λk Y=>k=Y) jf l
 |.dK jf=>∃l,H a\(.dK l)/\xg K T H (λk Y=>k=Y) jf l
 |.ins c fs=>∃C B l,G.cls c\C/\H a\(.ins C B l)/\xg K T H (λk Y=>Y=G.fld k) fs l
structure o4(nm:Nm)(K:Fg)(ι:Io)(H:Hp)(M:fc):Prop where
 len:ι.l.length=M.length
 nd:ι.l.Nodup
 del:∀a∈ι.δ,a∉ι.l/\∃vs,H a\(.lst vs)
 obj:∀(n:Nat)(o:MO)(a:Addr),M[n]?\o->ι.l[n]?\a->Hb nm K ι H o a
theorem Hb.some(h:Hb nm K Z H o a):∃u,H a\u/\Mut (H a):=by
 cases o with
 |lst J=>let(Y,e,_):=h;exact(_,e,by rw[e];trivial)
 |dT T=>let(Y,e,_):=h;exact(_,e,by rw[e];trivial)
 |dK T=>let(Y,e,_):=h;exact(_,e,by rw[e];trivial)
 |ins c fs=>let(C,G,l,_,e,_):=h;exact(_,e,by rw[e];trivial)
def o4.addr(S:o4 nm K Z H M){n:Nat}(h:M[n]?\o):∃a,Z.l[n]?\a/\Hb nm K Z H o a:=by
 have Y:n < Z.l.length:=by rw[S.len];exact MW.vm h
 exact(Z.l[n],by simp[Y],S.obj n o _ h (by simp[Y]))
def o4.mem(S:o4 nm K Z H M)(h:a∈Z.l):∃u,H a\u/\Mut (H a):=by
 let(n,Y,rfl):=qg h;have T:n<M.length:=by rw[<-S.len];exact Y
 exact(S.obj n M[n] Z.l[n] (by simp[T]) (by simp[Y])).some
def o4.fresh(S:o4 nm K Z H M)(h:H a=none):Z.off a:=by
 refine(λm=>?_,λm=>?_)
 .let(u,e,_):=S.mem m
  rw[h]at e;cases e
 .let(_,Y,e):=S.del a m
  rw[h]at e;cases e
theorem Hb.tr(h:Hb nm K ι H o a)(t:Tr K ι H Z U)(e:U a=H a):Hb nm K Z U o a:=by
 cases o with
 |lst B=>let(Y,q,r):=h;exact(Y,e.trans q,r.tr t)
 |dT T=>let(Y,q,r):=h;exact(Y,e.trans q,r.tr t)
 |dK T=>let(Y,q,r):=h;exact(Y,e.trans q,r.tr t)
 |ins c fs=>let(C,J,l,G,q,r):=h;exact(C,J,l,G,e.trans q,r.tr t)
def Hb.move(h:Hb nm K ι H o a)(le:Le ι H Z U)(e:U a=H a):Hb nm K Z U o a:=h.tr le.toX.tr e
def o4.laid(S:o4 nm K Z H M)(h:H p=none)(o:HO):o4 nm K Z (upd H p o) M/\Le Z H Z (upd H p o):=by
 have Y:∀a u,H a\u->a≠p:=λa u e=>qt e h
 have le:Le Z H Z (upd H p o):=(([],by simp,by simp),rfl,λa T e=>by rw[qm (Y a _ e)];exact e,λa _ u e=>by rw[qm (Y a _ e)];exact e,λa T _ e=>by rw[qm (Y a _ e)];exact e,
  λa O=>Ja (λb u e=>(u,by rw[qm (Y b _ e)];exact e)) O,λ_ _=>rfl)
 refine((S.len,S.nd,λa G=>?_,λn N a C G=>?_),le)
 .let(J,T,B):=S.del a G
  exact(J,T,le.lst a T J B)
 .have q:=S.obj n N a C G
  let(u,e,_):=q.some;exact q.move le (by rw[qm (Y a u e)])
def Ec{Y:Type}{l:List Y}{x y:Y}(h:(l++[x])[n]?\y):(l[n]?\y)\/(n=l.length/\y=x):=by
 rcases Ax n l.length with q|q
 .rw[gq q]at h;exact .inl h
 .rw[jk q]at h
  have:n-l.length=0:=by
   rcases Nat.eq_zero_or_pos (n-l.length)with z|z
   .exact z
   .rw[my (by simp;exact z)]at h;cases h
  rw[this]at h;simp at h;exact .inr (by lia,h.symm)
def o4.news(f:Nat->Nat->Nat->Int)(S:o4 nm K Z H M)(h:H p=none)(Y:∀a u,H a\u->H' a\u)(N:Le Z H (Z.adds p f) H'->Hb nm K (Z.adds p f) H' o p):o4 nm K (Z.adds p f) H' (M++[o])/\Le Z H (Z.adds p f) H':=by
 have le:Le Z H (Z.adds p f) H':=(([p],rfl,by simpa using h),rfl,λa G e=>Y _ _ e,λa _ u e=>Y _ _ e,λa G _ e=>Y _ _ e,λa L=>Ja (H:=H) (H':=H') (λb u e=>(u,Y b u e)) L,λn h=>cz (gn h));refine((by simp[Io.adds,S.len],?_,λa T=>?_,λn P a E T=>?_),le)
 .exact Ab.mpr (S.nd,by simp,by
   intro x O y B;have:y=p:=by simpa using B
   subst this;intro e;subst e;exact(S.fresh h).1 O)
 .let(C,G,J):=S.del a T
  exact(le.a6o C J,G,Y _ _ J)
 .rcases Ec E with q|⟨q,rfl⟩
  .rcases Ec T with r|⟨r,_⟩
   .have z:=S.obj n P a q r
    let(u,e,_):=z.some;exact z.move le ((Y a u e).trans e.symm)
   .exact absurd (MW.vm q) (by rw[r,S.len];exact o8 _)
  .rcases Ec T with r|⟨_,rfl⟩
   .exact absurd (ao.mp r).1 (by rw[q,S.len];exact o8 _)
   .exact N le
def o4.new(S:o4 nm K Z H M)(h:H p=none)(T:∀a u,H a\u->H' a\u)(Y:Le Z H (Z.add p) H'->Hb nm K (Z.add p) H' o p):o4 nm K (Z.add p) H' (M++[o])/\Le Z H (Z.add p) H':=by rw[<-Io.anm]at Y⊢;exact S.news _ h T Y
def o4.put(S:o4 nm K Z H M)(L:M[n]?\U)(J:Z.l[n]?\a)(W:Le Z H Z (upd H a u)->Hb nm K Z (upd H a u) o a):o4 nm K Z (upd H a u) (M.set n o)/\Le Z H Z (upd H a u):=by
 let(E,C,Y):=(S.obj n U a L J).some;have Q:a∈Z.l:=bf J;have le:Le Z H Z (upd H a u):=(([],by simp,by simp),rfl,λb B e=>by rw[qm (λz=>by subst z;rw[e]at Y;exact Y)];exact e,
  λb _ _ e=>by rw[qm (λz=>by subst z;rw[e]at Y;exact Y)];exact e,λb B O e=>by rw[qm (λz=>by subst z;exact O Q)];exact e,λb F=>Ja (λc w e=>by
   by_cases z:c=a
   .exact(u,by rw[z,yr])
   .exact(w,by rw[qm z];exact e)) F,λ_ _=>rfl)
 refine((by rw[List.length_set];exact S.len,S.nd,λb G=>?_,λm R b T G=>?_),le)
 .let(N,B,P):=S.del b G
  exact(N,B,le.lst b B N P)
 by_cases q:m=n
 .subst q
  rw[MW.qj L]at T;cases T;rw[J]at G;cases G;exact W le
 .rw[MW.j9 (lg q)]at T
  have z:=S.obj m R b T G;have O:b≠a:=λe=>by subst e;let(D,V):=ao.mp G;let(I,A):=ao.mp J;exact q ((List.getElem_inj S.nd).mp (V.trans A.symm))
  exact z.move le (by rw[qm O])
def ayl(Y:H D=none):Tr K Z H (Z.hide D) (upd H D o):=
 have k:∀{a u},H a\u->upd H D o a\u:=λe=>by rw[qm (qt e Y)];exact e
 (λ_ _ e=>k e,λa T e n=>⟨k e,n.1,λm=>by
  rcases dh.mp m with q|q
  .exact qt e Y q
  .exact n.2 q⟩,λ_ _ e=>e.imp (λ(q,e)=>(q,k e)) id,λ_ _ e=>e,λ_ _=>rfl)
def akz(Y:H D\(.lst U))(T:D∈Z.δ):Tr K Z H Z (upd H D (.lst ws)):=
 have k:∀{a u},a≠D->H a\u->upd H D (.lst ws) a\u:=λn e=>by rw[qm n];exact e
 (λ_ _ e=>k (aq6 e Y (by intro z;cases z)) e,λa U e n=>(k (λz=>by subst z;exact n.2 T) e,n),λ_ _ e=>e.imp (λ(q,e)=>(q,k (aq6 e Y (by intro z;cases z)) e)) id,λ_ _ e=>e,λ_ _=>rfl)
def Io.show(Y:Io)(H:Hp)(D:Addr):Tr K (Y.hide D) H Y H:=(λ_ _ e=>e,λ_ _ e n=>(e,n.1,λm=>n.2 (bu _ m)),λ_ _ e=>e,λ_ _ e=>e,λ_ _=>rfl)
theorem Rep.show(r:Rep K (Z.hide D) H d v):Rep K Z H d v:=r.tr (Z.show H D)
theorem qz.show(r:qz K (Z.hide D) H d v):qz K Z H d v:=r.tr (Z.show H D)
theorem o4.hide(S:o4 nm K Z H M)(Y:H D=none):o4 nm K (Z.hide D) (upd H D (.lst [])) M:=by
 refine(S.len,S.nd,λa T=>?_,λn o a B T=>?_)
 .rcases dh.mp T with q|q
  .subst q;exact((S.fresh Y).1,[],yr)
  .let(O,J,G):=S.del a q
   exact(O,J,by rw[qm (qt G Y)];exact G)
 .have z:=S.obj n o a B T
  let(u,e,_):=z.some;exact z.tr (ayl Y) (by rw[qm (qt e Y)])
def o4.grow(S:o4 nm K Z H M)(B:H D\(.lst vs))(G:D∈Z.δ):o4 nm K Z (upd H D (.lst U)) M:=by
 refine(S.len,S.nd,λa Y=>?_,λn o a C Y=>?_)
 .let(T,N,O):=S.del a Y
  by_cases z:a=D
  .subst z;exact(T,U,yr)
  .exact(T,N,by rw[qm z];exact O)
 .have z:=S.obj n o a C Y
  have J:a≠D:=λe=>by subst e;exact(S.del a G).1 (bf Y)
  exact z.tr (akz B G) (by rw[qm J])
theorem o4.show(S:o4 nm K (Z.hide D) H M):o4 nm K Z H M:=
 (S.len,S.nd,λa Y=>S.del a (bu _ Y),λn o a T Y=>(S.obj n o a T Y).tr (Z.show H D) rfl)
structure LeD(D:Addr)(ι:Io)(H:Hp)(ι':Io)(H':Hp):Prop where
 ext:∃Y,ι'.l=ι.l++Y/\∀a∈Y,H a=none
 del:ι'.δ=D::ι.δ
 tup:∀a vs,H a\(.tup vs)->H' a\(.tup vs)
 Um:∀a o u,H a\(.Um o u)->H' a\(.Um o u)
 lst:∀a vs,a∉ι.l->H a\(.lst vs)->H' a\(.lst vs)
 dom:∀a,H' a=none->H a=none
 sy:∀n,n < ι.l.length->ι'.s n=ι.s n
def LeD.toX(l:LeD D U H Z H')(Y:H D=none):LeX U H Z H':=⟨l.ext,λa h=>by
 rw[l.del]at h;rcases dh.mp h with q|q
 .exact .inr (by rw[q];exact Y)
 .exact .inl q,l.tup,l.Um,l.lst,l.sy⟩
def LeD.start(Y:H D=none)(o:HO):LeD D Z H (Z.hide D) (upd H D o):=
 (([],by simp[Io.hide],by simp),rfl,λa T e=>by rw[qm (qt e Y)];exact e,λa _ _ e=>by rw[qm (qt e Y)];exact e,λa T _ e=>by rw[qm (qt e Y)];exact e,
  λa G=>Ja (λb u e=>(u,by rw[qm (qt e Y)];exact e)) G,λ_ _=>rfl)
def LeD.go(a:LeD D ι H U H1)(b:Le U H1 qq H2):LeD D ι H qq H2:=by
 let(Y,G,J):=a.ext;let(Z,O,B):=b.ext;have out:∀x o,x∉ι.l->H x\o->x∉U.l:=λx o n h m=>by
  rw[G]at m;rcases dz.mp m with q|q
  .exact n q
  .rw[J x q]at h;cases h
 refine((Y++Z,by rw[O,G,w5],λx m=>?_),b.del.trans a.del,λx T h=>b.tup x T (a.tup x T h),λx o u h=>b.Um x o u (a.Um x o u h),λx T n h=>b.lst x T (out x _ n h) (a.lst x T n h),λx h=>a.dom x (b.dom x h),λn h=>(b.sy n (by rw[G,jw];exact Nat.lt_add_right _ h)).trans (a.sy n h));rcases dz.mp m with q|q
 .exact J x q
 .exact a.dom x (B x q)
def LeD.grow(a:LeD D ι H Z U)(Y:H D=none)(G:U D\(.lst vs)):LeD D ι H Z (upd U D (.lst ws)):=
 (a.ext,a.del,λx T h=>by rw[qm (qt h Y)];exact a.tup x T h,λx o u h=>by rw[qm (qt h Y)];exact a.Um x o u h,λx T n h=>by rw[qm (qt h Y)];exact a.lst x T n h,
  λx h=>a.dom x (by
   by_cases z:x=D
   .rw[z,yr]at h;cases h
   .rw[qm z]at h;exact h),a.sy)
def LeD.done(a:LeD D U H (Z.l,D::Z.δ,Z.s) H1):Le U H Z H1:=
 (a.ext,(List.cons.inj a.del).2,a.tup,a.Um,a.lst,a.dom,a.sy)
inductive ym(K:Fg)(ι:Io)(H:Hp):En->St->Prop
 |nil:ym K ι H [] []
 |skp {y:Option V} {ρ:En} {σ:St} (t:ym K ι H ρ σ):ym K ι H (none::ρ) (y::σ)
 |has {d:Dv} {v:V} {ρ:En} {σ:St} (h:Rep K ι H d v) (t:ym K ι H ρ σ):ym K ι H (some d::ρ) (some v::σ)
theorem ym.Pa{K:Fg}{B Y:Io}{H J:Hp}(le:LeX B H Y J):∀{G:En}{T:St},ym K B H G T->ym K Y J G T:=by intro _ _ h;induction h with|nil=>exact .nil|skp t ih=>exact .skp ih|has h t ih=>exact .has (h.Pa le) ih
theorem ym.mono{K:Fg}{B Y:Io}{H J:Hp}(le:Le B H Y J):∀{G:En}{T:St},ym K B H G T->ym K Y J G T:=by intro _ _ h;induction h with|nil=>exact .nil|skp t ih=>exact .skp ih|has h t ih=>exact .has (h.mono le) ih
def ym.get{K:Fg}{J:Io}{H:Hp}{G:En}{T:St}{i:Nat}{d:Dv}(h:ym K J H G T)(e:G[i]?\(some d)):∃v,T[i]?\(some v)/\Rep K J H d v:=by
 induction h generalizing i with
 |nil=>simp at e
 |skp t Y=>cases i with
  |zero=>simp at e|succ i=>have:=Y (i:=i) e;exact this
 |has h t Y=>cases i with
  |zero=>simp at e;subst e;exact(_,rfl,h)|succ i=>have:=Y (i:=i) e;exact this
theorem ym.set{K:Fg}{T:Io}{H:Hp}{d:Dv}{v:V}(r:Rep K T H d v){J:En}{G:St}(i:Nat)(h:ym K T H J G):ym K T H (J.set i (some d)) (G.set i (some v)):=by
 induction h generalizing i with
 |nil=>exact .nil
 |skp t Y=>cases i with
  |zero=>exact .has r t|succ i=>exact .skp (Y i)
 |has h t Y=>cases i with
  |zero=>exact .has r t|succ i=>exact .has h (Y i)
theorem ym.length{K:Fg}{G:Io}{H:Hp}:∀{T:En}{Y:St},ym K G H T Y->T.length=Y.length:=by intro _ _ h;induction h with|nil=>rfl|skp _ ih=>rw[ie,ie,ih]|has _ _ ih=>rw[ie,ie,ih]
theorem ym.append{K:Fg}{G:Io}{H:Hp}:∀{B Y:En}{J T:St},ym K G H B J->ym K G H Y T->ym K G H (B++Y) (J++T):=by intro _ _ _ _ h r;induction h with|nil=>exact r|skp t ih=>exact .skp ih|has h t ih=>exact .has h ih
def ym.a2d{K:Fg}{T:Io}{H:Hp}(k:Nat){σ:St}(h:σ.length=k):ym K T H (List.replicate k none) σ:=by
 subst h
 induction σ with
 |nil=>exact .nil|cons _ r Y=>exact .skp Y
def ym.a6p{K:Fg}{G:Io}{H:Hp}{Y:List Dv}{T:List V}(h:qz K G H Y T):ym K G H (Y.map some) (T.map some):=by
 induction Y generalizing T with
 |nil=>cases h;exact .nil|cons d Y J=>cases h with|cons h t=>exact .has h (J t)
def ik{r:Res α}(h:r.bind f=.ok b M):∃a Z,r=.ok a Z/\f a Z=.ok b M:=by
 cases r with
 |ok a Z=>exact(a,Z,rfl,h)|bad=>cases h
def zb(h:Res.wy o M=.ok a Z):o\a/\Z=M:=by
 cases o with
 |none=>cases h|some x=>cases h;exact(rfl,rfl)
def PE.weak(h:PE X e t)(w:∀Z H Q,t' Z H Q->t Z H Q):PE X e t':=λY s Z H Q I q=>h Y s Z H Q I (w Z H Q q)
def PT.weak(h:PT X e t)(w:∀Z H Q,t' Z H Q->t Z H Q):PT X e t':=λY s Z H Q I q=>h Y s Z H Q I (w Z H Q q)
def PA.weak(h:PA X U t)(w:∀Z H Q,t' Z H Q->t Z H Q):PA X U t':=λpos Y s Z H Q I q=>h pos Y s Z H Q I (w Z H Q q)
def PS.weak(h:PS X e t)(w:∀D Z H,t' D Z H->t D Z H):PS X e t':=λY s Z H D I q=>h Y s Z H D I (w D Z H q)
def U7.weak(h:U7 X e t)(w:∀D Z H,t' D Z H->t D Z H):U7 X e t':=λY s Z H D I q=>h Y s Z H D I (w D Z H q)
def Ez.weak(h:Ez X f r)(w:∀x y H Q,r' x y H Q->r x y H Q):Ez X f r':=λY s T H x y v u Q I G J q=>h Y s T H x y v u Q I G J (w x y H Q q)
section
variable(nm:Nm)(W:Kg)(K:Fg)
def tE(e:Ex):TE:=λO H Q=>∃G J M d B,o4 nm K G H M/\ym K G H J O/\e.den W J M=.ok d B/\∀Y T v,Le G H Y T->o4 nm K Y T B->Rep K Y T d v->Q v T
def tQ(e:Ex):TT:=λO H Q=>∃G J M b B,o4 nm K G H M/\ym K G H J O/\e.den W J M=.ok (.bl b) B/\∀Y T,Le G H Y T->o4 nm K Y T B->Q b T
def tEs(L:Gm):TA:=λN H Q=>∃G J M C O,o4 nm K G H M/\ym K G H J N/\L.den W J M=.ok C O/\∀Y T B,Le G H Y T->o4 nm K Y T O->qz K Y T C B->Q B T
def Zi(D:Ends)(O:Io)(H:Hp)(B:MW.Flow)(J:En)(M:fc):Prop:=
 ∀T G Y,Le O H T G->o4 nm K T G M->ym K T G J Y ->
  match B with
  |.next=>D.nx Y G|.brk=>D.bk Y G|.cont=>D.ct Y G|.ret d=>∀v,Rep K T G d v->D.rt v G
def tS(st:Dg):TS:=λD O H=>∃T G M B Y J,o4 nm K T H M/\ym K T H G O/\st.den W G M=.ok (B,Y) J/\Zi nm K D T H B Y J
def tSs(st:p7):TS:=λD O H=>∃T G M B Y J,o4 nm K T H M/\ym K T H G O/\st.den W G M=.ok (B,Y) J/\Zi nm K D T H B Y J
end
def PE.of(h:PE X a t)(w:∀σ H Q U ρ M d M',o4 nm X.K U H M->ym X.K U H ρ σ->e'.den W ρ M=.ok d M'->(∀Z H' v,Le U H Z H'->o4 nm X.K Z H' M'->Rep X.K Z H' d v->Q v H')->t σ H Q):PE X a (tE nm W X.K e'):=PE.weak h fun σ H Q z_=>by let(U,ρ,M,d,M',S,R,e,q):=z_;exact w σ H Q U ρ M d M' S R e q
def PT.of(h:PT X a t)(w:∀σ H Q U ρ M b M',o4 nm X.K U H M->ym X.K U H ρ σ->e'.den W ρ M=.ok (.bl b) M'->(∀Z H',Le U H Z H'->o4 nm X.K Z H' M'->Q b H')->t σ H Q):PT X a (tQ nm W X.K e'):=PT.weak h fun σ H Q z_=>by let(U,ρ,M,d,M',S,R,e,q):=z_;exact w σ H Q U ρ M d M' S R e q
def PA.of(h:PA X es t)(w:∀σ H Q U ρ M ds M',o4 nm X.K U H M->ym X.K U H ρ σ->qq.den W ρ M=.ok ds M'->(∀Z H' vs,Le U H Z H'->o4 nm X.K Z H' M'->qz X.K Z H' ds vs->Q vs H')->t σ H Q):PA X es (tEs nm W X.K qq):=PA.weak h fun σ H Q z_=>by let(U,ρ,M,d,M',S,R,e,q):=z_;exact w σ H Q U ρ M d M' S R e q
def PS.of(h:PS X st t)(w:∀D σ H U ρ M fl Z M',o4 nm X.K U H M->ym X.K U H ρ σ->s'.den W ρ M=.ok (fl,Z) M'->Zi nm X.K D U H fl Z M'->t D σ H):PS X st (tS nm W X.K s'):=PS.weak h λD σ H z_=>by let(U,ρ,M,fl,Z,M',S,R,e,q):=z_;exact w D σ H U ρ M fl Z M' S R e q
def U7.of(h:U7 X st t)(w:∀D σ H U ρ M fl Z M',o4 nm X.K U H M->ym X.K U H ρ σ->s'.den W ρ M=.ok (fl,Z) M'->Zi nm X.K D U H fl Z M'->t D σ H):U7 X st (tSs nm W X.K s'):=U7.weak h λD σ H z_=>by let(U,ρ,M,fl,Z,M',S,R,e,q):=z_;exact w D σ H U ρ M fl Z M' S R e q
def one{X:Cx}{Y:fc}(S:o4 nm X.K ι H M)(R:ym X.K ι H ρ σ)(J:a'.den W ρ M=.ok x Y)(h:∀Z U v,Le ι H Z U->o4 nm X.K Z U Y->ym X.K Z U ρ σ->Rep X.K Z U x v->G v U):tE nm W X.K a' σ H G:=
 (ι,ρ,M,x,Y,S,R,J,λT B v le O r=>h T B v le O (R.mono le) r)
theorem two{X:Cx}{T Y:fc}{G:V->V->Hp->Prop}(S:o4 nm X.K ι H M)(R:ym X.K ι H U σ)(O:a'.den W U M=.ok x T)(E:b'.den W U T=.ok y Y)(h:∀Z H2 v u,Le ι H Z H2->o4 nm X.K Z H2 Y->ym X.K Z H2 U σ->Rep X.K Z H2 x v->Rep X.K Z H2 y u->G v u H2) :
 tE nm W X.K a' σ H λv H1=>tE nm W X.K b' σ H1 λu H2=>G v u H2:=
 one S R O λP H1 v N L F Q=>one L F E λZ H2 u J B R2 C=>h Z H2 v u (N.trans J) B R2 (Q.mono J) C
set_option tactic.hygienic true in
def bck(O:X.N[i]?\n)(P:Vis X.env.scope n)(T:(n==("__debug__": Str))=false)(B:(n==("__classdict__": Str))=false):PE X (.Name n pos) (tE nm W X.K (.var i)):=
 PE.of (a4w O P T B) λF H Q V A M d D S R e q=>by
  rw[MW.acv]at e;split at e
  .rename_i I T
   cases e;let(v,E,L):=R.get T;exact(v,E,q V H v (Le.refl _ _) S L)
  .cases e
def bcl:PE X (.Constant (.int i) j pos) (tE nm W X.K (.cst (.int i))):=
 PE.of a4x λT H Q Y G M d J S R e q=>by rw[MW.Uu]at e;cases e;exact q Y H _ (Le.refl _ _) S (.int i)
def bij:PE X (.Constant (.bool i) j pos) (tE nm W X.K (.cst (.bl i))):=
 PE.of ba5 λT H Q Y G M d J S R e q=>by rw[MW.Uu]at e;cases e;exact q Y H _ (Le.refl _ _) S (.bl i)
def bcm:PE X (.Constant .none j pos) (tE nm W X.K (.cst .non)):=
 PE.of a4y λT H Q Y G M d J S R e q=>by rw[MW.Uu]at e;cases e;exact q Y H _ (Le.refl _ _) S .non
def a6q(T:Gl X n)(G:X.mg n\(.int i t))(Y:(n==("__debug__": Str))=false):PE X (.Name n pos) (tE nm W X.K (.cst (.int i))):=
 PE.of (axt (v:=.int i) T G (t,rfl) Y) λB H Q J O M d C S R e q=>by rw[MW.Uu]at e;cases e;exact q J H _ (Le.refl _ _) S (.int i)
def rOp(J:Nm)(K:Fg)(f:Dv->Dv->fc->Res Dv):R2:=λv u H Q=>∃G M x y d B,o4 J K G H M/\Rep K G H x v/\Rep K G H y u/\f x y M=.ok d B /\
 ∀Y T w,Le G H Y T->o4 J K Y T B->Rep K Y T d w->Q w T
def Ez.of(h:Ez X f r)(w:∀v u H Q U M x y d M',o4 nm X.K U H M->Rep X.K U H x v->Rep X.K U H y u->g x y M=.ok d M'->(∀Z H' w,Le U H Z H'->o4 nm X.K Z H' M'->Rep X.K Z H' d w->Q w H')->r v u H Q):Ez X f (rOp nm X.K g):=
 Ez.weak h λv u H Q z_=>by let(U,M,x,y,d,M',S,Y,T,e,q):=z_;exact w v u H Q U M x y d M' S Y T e q
def bcn(V:Ez X (binaryOp op) (rOp nm X.K (MW.Em Z)))(N:PE X a (tE nm W X.K a'))(B:PE X b (tE nm W X.K U)):PE X (.BinOp a op b pos) (tE nm W X.K (.bin Z a' U)):=
 PE.of (bbk V N B) λj H Q l g M d C S R e q=>by rw[MW.Nj]at e;let(x,z,L,e):=ik e;let(y,P,F,e):=ik e;exact two S R L F λT D v u le J _ O A=>(T,P,x,y,d,C,J,O,A,e,λY E w G I r=>q Y E w (le.trans G) I r)
def bco:Ez X (binaryOp .Sub) (rOp nm X.K (MW.Em .sub)):=
 Ez.of a5t λv u H Q J M x y d B S T G e q=>by let(i,j,rfl,rfl,Y):=MW.acu e (by intro z;cases z);cases T;cases G;cases Y;exact(_,_,rfl,rfl,q J H _ (Le.refl _ _) S (.int _))
def a6r{g:Int->Int->Int}{P:Int->Int->Prop}[∀i j,Decidable (P i j)](h:Ez X (binaryOp op) r)(G:∀x y M,MW.Em Z x y M=MW.ii x y (λi j=>if P i j then .ok (.int (g i j)) M else .bad) .bad)(w:∀i j H Q,P i j->Q (.int (g i j)) H->r (.int i) (.int j) H Q):Ez X (binaryOp op) (rOp nm X.K (MW.Em Z)):=
 Ez.of h λv u H Q O M x y d C S J B e q=>by
  rw[G]at e;let(i,j,rfl,rfl,Y):=MW.acu e (by intro z;cases z)
  by_cases T:P i j
  .rw[dm T]at Y
   cases J;cases B;cases Y;exact w i j H Q T (q O H _ (Le.refl _ _) S (.int _))
  .rw[cz T]at Y;cases Y
def bcp:Ez X (binaryOp .Mod) (rOp nm X.K (MW.Em .mod)):=a6r a5v (λ_ _ _=>rfl) λi j H Q h q=>(_,_,rfl,rfl,h,q)
def a6s:Ez X (binaryOp .FloorDiv) (rOp nm X.K (MW.Em .fdiv)):=a6r ax1 (λ_ _ _=>rfl) λi j H Q h q=>(_,_,rfl,rfl,h,q)
def bcq:Ez X (binaryOp .Pow) (rOp nm X.K (MW.Em .pow)):=a6r a5w (λ_ _ _=>rfl) λi j H Q h q=>(_,_,rfl,rfl,(h.1,by omega,h.2.2),q)
set_option tactic.hygienic true in
def uy{X:Cx}(S:o4 nm X.K Z H M)(r:Rep X.K Z H d v)(h:MW.gr M d\ds):∃p vs,v=.ref p/\H p\(.lst vs)/\qz X.K Z H ds vs:=by
 cases r with
 |vl e n r=>simp[MW.gr]at h;subst h;exact(_,_,rfl,e,r)
 |ref e =>
  rename_i n p;simp only[MW.gr]at h;split at h<;>simp at h;rename_i O N;subst h;let(vs,B,T):=S.obj n _ p N e;exact(p,vs,rfl,B,T)
 |_=>simp[MW.gr]at h
def Rq{X:Cx}(S:o4 nm X.K Z H M)(r:Rep X.K Z H d v)(h:MW.Dk M d\ds):∃p vs,v=.ref p/\(H p\(.lst vs)\/H p\(.tup vs))/\qz X.K Z H ds vs:=by
 cases r with
 |tup e r=>simp[MW.Dk]at h;subst h;exact(_,_,rfl,.inr e,r)
 |vl e n r =>
  let(p,vs,Y,T,G):=uy S (.vl e n r) (show MW.gr M _=_ from h);exact(p,vs,Y,.inl T,G)
 |ref e =>
  let(p,vs,Y,T,G):=uy S (.ref e) (show MW.gr M _=_ from h);exact(p,vs,Y,.inl T,G)
 |_=>simp[MW.Dk,MW.gr]at h
def ad6{X:Cx}(S:o4 nm X.K Z H M)(Y:H p=none)(r:qz X.K Z H ds U):o4 nm X.K Z (upd H p (.lst U)) M/\Le Z H Z (upd H p (.lst U))/\Rep X.K Z (upd H p (.lst U)) (.vl ds) (.ref p):=by let(T,le):=S.laid Y (.lst U);exact(T,le,.vl yr (S.fresh Y) (r.mono le))
def Rr{X:Cx}(S:o4 nm X.K Z H M)(T:H p=none)(r:qz X.K Z H ds U):o4 nm X.K Z (upd H p (.tup U)) M/\Le Z H Z (upd H p (.tup U))/\Rep X.K Z (upd H p (.tup U)) (.tup ds) (.ref p):=by let(Y,le):=S.laid T (.tup U);exact(Y,le,.tup yr (r.mono le))
def ad7{X:Cx}(S:o4 nm X.K Z H M)(Y:H p=none)(r:qz X.K Z H ds U):o4 nm X.K (Z.add p) (upd H p (.lst U)) (M++[.lst ds])/\Le Z H (Z.add p) (upd H p (.lst U))/\Rep X.K (Z.add p) (upd H p (.lst U)) (.ref M.length) (.ref p):=by
 let(T,le):=S.new (H':=upd H p (.lst U)) (o:=.lst ds) Y (λa u e=>by rw[qm (qt e Y)];exact e) λle=>(U,yr,r.mono le)
 exact(T,le,.ref (by show(Z.l++[p])[M.length]?\p;rw[<-S.len];simp))
def agg:(100000:Nat)<=sizeLine:=by decide
def ayn(h:MW.Em .add x y M=.ok d M'):(∃i j,x=.int i/\y=.int j/\d=.int (i+j)/\M'=M) \/
 (∃x' y',x=.sy x'/\y=.sy y'/\d=.sy (.a x' y')/\M'=M) \/
 ∃Z U,MW.gr M x\Z/\MW.gr M y\U/\Z.length+U.length<=100000/\d=.vl (Z++U)/\M'=M:=by
 have h:MW.ap6 x y M=.ok d M':=h;unfold MW.ap6 at h;split at h<;>try cases h
 .exact .inl (_,_,rfl,rfl,rfl,rfl)
 .exact .inr (.inl (_,_,rfl,rfl,rfl,rfl))
 .split at h
  .split at h<;>cases h
   rename_i G T Y;exact .inr (.inr (_,_,G,T,Y,rfl,rfl))
  .cases h
set_option tactic.hygienic true in
def ayo(h:MW.aj5 x y M=.ok d Z):(∃i j,x=.int i/\y=.int j/\ax0 i j/\d=.int (i*j)/\Z=M)\/(∃z,∃k:Nat,x=.tup [z]/\y=.int k/\k<=100000/\d=.tup (List.replicate k z)/\Z=M)\/∃a n,x=.sy a/\y=.int n/\(-(2^64)<n/\n<2^64)/\d=.sy (.m a n)/\Z=M:=by
 unfold MW.aj5 at h;split at h
 .split at h
  .rename_i n
   split at h
   .rename_i B
    cases h;exact .inr (.inl (_,n.toNat,rfl,by rw[Int.toNat_of_nonneg B.1],by omega,rfl,rfl))
   .cases h
  .cases h
 .split at h
  .split at h
   .rename_i B
    cases h;exact .inr (.inr (_,_,rfl,rfl,B,rfl,rfl))
   .cases h
  .cases h
 .let(i,j,rfl,rfl,T):=MW.acu h (by intro z;cases z)
  split at T
  .rename_i O
   cases T;exact .inl (i,j,rfl,rfl,O,rfl,rfl)
  .cases T
theorem agh(r:Rep K Z H d v):∀k:Nat,qz K Z H (List.replicate k d) (List.replicate k v)
 |0=>.nil|k+1=>.cons r (agh r k)
def bcr:Ez X (binaryOp .Mult) (rOp nm X.K (MW.Em .mul)):=
 Ez.of (a5u.or ayh) λv u H Q T M x y d R S G J e q=>by
  rcases ayo e with⟨i,j,rfl,rfl,N,rfl,rfl⟩|⟨z,k,rfl,rfl,C,rfl,rfl⟩|⟨a,n,rfl,rfl,P,rfl,rfl⟩
  .cases G;cases J
   exact .inl (_,_,rfl,rfl,N,q T H _ (Le.refl _ _) S (.int _))
  .cases J
   cases G with
   |tup B Y =>
    cases Y with
    |cons Y O =>
     cases O;refine .inr (_,_,k,rfl,rfl,O9.of B,C,λL=>?_,λp E=>?_)
     .subst L
      exact q T H _ (Le.refl _ _) S (.tup B (.cons Y .nil))
     .let(a,b,c):=Rr S E (agh Y k)
      exact q T _ _ b a c
  .cases J
   cases G with
   |sy h=>exact .inl (_,_,rfl,rfl,.inr P,q T H _ (Le.refl _ _) S (.sy (y:=.m a n) h))
def bcs:Ez X (binaryOp .Add) (rOp nm X.K (MW.Em .add)):=
 Ez.of (a5s.or a6l) λv u H Q P M x y d W S O E e q=>by
  have Y:∀G T,MW.gr M x\G->MW.gr M y\T->G.length+T.length<=100000->d=.vl (G++T)->W=M->bcb v u H Q:=λG T N B J D A=>by
   subst D A;let(p,U,rfl,I,V):=uy S O N;let(F,C,rfl,e2,R):=uy S E B;refine(p,F,U,C,rfl,rfl,I,e2,?_,λp3 L=>?_)
   .rw[<-V.length,<-R.length];exact gh J agg
   .let(a,b,c):=ad6 S L (V.append R)
    exact q P _ _ b a c
  rcases ayn e with⟨i,j,rfl,rfl,rfl,rfl⟩|⟨a,b,rfl,rfl,rfl,rfl⟩|⟨G,T,N,B,J,L,h4⟩
  .cases O;cases E
   exact .inl (_,_,rfl,rfl,q P H _ (Le.refl _ _) S (.int _))
  .cases O with
   |sy h=>cases E with
    |sy Z=>exact .inl (_,_,rfl,rfl,q P H _ (Le.refl _ _) S (.sy (y:=.a a b) (h,Z)))
  .exact .inr (Y _ _ N B J L h4)
def ayp{t:TE}(h:PT X a (λZ H Q=>t Z H λx H1=>∃c,x=.bl c/\Q c H1))(w:∀Z H Q,tE nm W X.K U Z H Q->t Z H Q):PT X a (tQ nm W X.K U):=
 PT.of h λZ H Q O T M b B S R e q=>w Z H _ (O,T,M,_,B,S,R,e,λY J v le G r=>by cases r;exact(b,rfl,q Y J le G))
def bcu(h:PE X a (tE nm W X.K U))(Y:∀Z,isTrue a X.env Z=(do let v<-Z;standAt a.pos;holding [v] (truthy v))):PT X a (tQ nm W X.K U):=
 ayp (a5b h Y) λ_ _ _ q=>q
def Zj(T:Nm)(K:Fg)(G:Cp):R2:=λv u H Q=>∃Y M x y b,o4 T K Y H M/\Rep K Y H x v/\Rep K Y H y u/\MW.Km G x y M\b/\Q (.bl b) H
def agi{X:Cx}:∀Z H Q,tE nm W X.K (.cmp U a' b') Z H Q->tOp (Zj nm X.K U) (tE nm W X.K a') (tE nm W X.K b') Z H Q:=λZ H Q N=>by
 symm
 let(A,P,M,d,C,S,R,e,q):=N;rw[MW.awy]at e;let(x,V,J,e):=ik e;let(y,F,L,e):=ik e;let(e,rfl):=zb e;let(b,G,rfl):=dj.mp e;apply _k;exact two S R J L λY B v u le T _ O E=>(Y,C,x,y,b,T,O,E,G,q Y B _ le T (.bl b))
def bcv(J:Ez X (compareOp op) (Zj nm X.K Z))(Y:PE X a (tE nm W X.K a'))(T:PE X b (tE nm W X.K U))(G:behindInMarks op b=false):PE X (.Compare a [op] [b] pos) (tE nm W X.K (.cmp Z a' U)):=
 PE.weak (ax3 J Y T G) agi
def bcw(J:Ez X (compareOp op) (Zj nm X.K Z))(Y:PE X a (tE nm W X.K a'))(T:PE X b (tE nm W X.K U))(G:behindInMarks op b=false):PT X (.Compare a [op] [b] pos) (tQ nm W X.K (.cmp Z a' U)):=
 ayp (t:=tOp (Zj nm X.K Z) (tE nm W X.K a') (tE nm W X.K U)) (ax4 J Y T G) agi
def Zk{X:Cx}:∀Z H Q,tE nm W X.K (.chain op1 op2 a' b' U) Z H Q->ady (Zj nm X.K op1) (Zj nm X.K op2) (tE nm W X.K a') (tE nm W X.K b') (tE nm W X.K U) Z H Q:=λZ H Q F=>by
 symm
 let(ι,I,M,d,M',S,R,e,q):=F;rw[MW.amn]at e;let(x,M1,e1,e):=ik e;let(y,M2,e2,e):=ik e;let(k,Y,C,e):=ik e;let(C,rfl):=zb C;apply _k;refine two S R e1 e2 λT L v u le O R2 P E=>(T,Y,x,y,k,O,P,E,C,k,rfl,?_)
 cases k with
 |false =>
  have e:Res.ok (MW.D.bl false) Y=.ok d M':=e;cases e;exact q T L _ le O (.bl false)
 |true =>
  symm
  have e:((U.den W I Y).bind λz B=>Res.wy ((MW.Km op2 y z B).map MW.D.bl) B)=.ok d M':=e;let(z,B,e4,e):=ik e;let(e,rfl):=zb e;let(b,A,rfl):=dj.mp e;apply _k;show tE nm W X.K U Z L _;exact one O R2 e4 λG V w J N _ rw=>(G,M',y,z,b,N,E.mono J,rw,A,q G V _ (le.trans J) N (.bl b))
def ayq(O:Ez X (compareOp Z) (Zj nm X.K op1))(G:Ez X (compareOp U) (Zj nm X.K op2))(Y:PE X a (tE nm W X.K a'))(J:PE X b (tE nm W X.K b'))(B:PE X c (tE nm W X.K c'))(T:lastMarks [Z,U] [b,c]=false) :
 PE X (.Compare a [Z,U] [b,c] pos) (tE nm W X.K (.chain op1 op2 a' b' c')):=PE.weak (arp O G Y J B T) Zk
def ayr(O:Ez X (compareOp o1) (Zj nm X.K op1))(G:Ez X (compareOp o2) (Zj nm X.K op2))(Y:PE X a (tE nm W X.K U))(J:PE X b (tE nm W X.K Z))(B:PE X c (tE nm W X.K c'))(T:lastMarks [o1,o2] [b,c]=false) :
 PT X (.Compare a [o1,o2] [b,c] pos) (tQ nm W X.K (.chain op1 op2 U Z c')):=ayp (t:=ady (Zj nm X.K op1) (Zj nm X.K op2) (tE nm W X.K U) (tE nm W X.K Z) (tE nm W X.K c')) (arq O G Y J B T) Zk
def ad8(h:Ez X (compareOp op) (rI0 λi j=>.bl (f i j)))(e:∀x y M,MW.Km Z x y M=MW.afg f x y):Ez X (compareOp op) (Zj nm X.K Z):=
 Ez.weak h λv u H Q J=>by
  symm
  let(O,M,x,y,b,S,G,B,Y,q):=J;rw[e]at Y;let(i,j,rfl,rfl,T):=MW.acu Y (by intro z;cases z);cases G;cases B;cases T;apply _k;exact(_,_,rfl,rfl,q)
def bil:Ez X (compareOp .Lt) (Zj nm X.K .lt):=ad8 bbp λ_ _ _=>rfl
def bim:Ez X (compareOp .LtE) (Zj nm X.K .le):=ad8 bbq λ_ _ _=>rfl
def bio:Ez X (compareOp .Gt) (Zj nm X.K .gt):=ad8 bbr λ_ _ _=>rfl
def bip:Ez X (compareOp .GtE) (Zj nm X.K .ge):=ad8 bbs λ_ _ _=>rfl
set_option tactic.hygienic true in
def a2e{T:Ya}(I:PE X a (tE nm W X.K G))(P:PE X (.BoolOp .And (b::T) pos) (tE nm W X.K Z)):PE X (.BoolOp .And (a::b::T) pos) (tE nm W X.K (.and G Z)):=
 PE.of (a5f I P) λy H Q u C M d J S R e q=>by
  rw[MW.aj6]at e;let(x,U,D,e):=ik e;refine one S R D λB A v le N Y r=>?_
  cases r<;>try cases e
  rename_i k;refine(k,rfl,?_);cases k with
  |false=>cases e;exact q B A _ le N (.bl false)|true=>exact one N Y e λO E w V L _ F=>q O E w (le.trans V) L F
set_option tactic.hygienic true in
def bcx{T:Ya}(I:PE X a (tE nm W X.K G))(P:PE X (.BoolOp .Or (b::T) pos) (tE nm W X.K Z)):PE X (.BoolOp .Or (a::b::T) pos) (tE nm W X.K (.or G Z)):=
 PE.of (ba9 I P) λy H Q u C M d J S R e q=>by
  rw[MW.ap8]at e;let(x,U,D,e):=ik e;refine one S R D λB A v le N Y r=>?_
  cases r<;>try cases e
  rename_i k;refine(k,rfl,?_);cases k with
  |true=>cases e;exact q B A _ le N (.bl true)|false=>exact one N Y e λO E w V L _ F=>q O E w (le.trans V) L F
def bcy(T:PE X a (tE nm W X.K Z)):PE X (.UnaryOp .Not a pos) (tE nm W X.K (.not Z)):=
 PE.of (a5g T) λO H Q P C M d N S R e q=>by
  rw[MW.aj7]at e;let(x,L,G,e):=ik e;refine one S R G λY B v le J E r=>?_
  cases r<;>try cases e
  exact(_,rfl,q Y B _ le J (.bl _))
def aa1{X:Cx}{Y:fc}(S:o4 nm X.K ι H M)(R:ym X.K ι H ρ σ)(J:a'.den W ρ M=.ok (.bl k) Y)(h:∀Z U,Le ι H Z U->o4 nm X.K Z U Y->ym X.K Z U ρ σ->G k U):tQ nm W X.K a' σ H G:=
 (ι,ρ,M,k,Y,S,R,J,λT B le O=>h T B le O (R.mono le))
set_option tactic.hygienic true in
def a2f{rest:Ya}(D:PT X a (tQ nm W X.K U))(V:PW X (.BoolOp .And (b::rest) pos) (tQ nm W X.K Z)):PW X (.BoolOp .And (a::b::rest) pos) (tQ nm W X.K (.and U Z)):=
 λT B s J H Q I z=>a5d D V T B s J H Q I (by
  symm
  let(ι,u,M,d,C,S,R,e,q):=z;rw[MW.aj6]at e;let(x,y,Y,e):=ik e;apply _k;cases x<;>try cases e
  rename_i k;refine aa1 S R Y λO A le L G=>?_
  cases k with
  | false=>cases e;exact q O A le L|true=>exact aa1 L G e λN P F E _=>q N P (le.trans F) E)
set_option tactic.hygienic true in
def bcz{rest:Ya}(D:PT X a (tQ nm W X.K U))(V:PW X (.BoolOp .Or (b::rest) pos) (tQ nm W X.K Z)):PW X (.BoolOp .Or (a::b::rest) pos) (tQ nm W X.K (.or U Z)):=
 λT B s J H Q I z=>ba6 D V T B s J H Q I (by
  symm
  let(ι,u,M,d,C,S,R,e,q):=z;rw[MW.ap8]at e;let(x,y,Y,e):=ik e;apply _k;cases x<;>try cases e
  rename_i k;refine aa1 S R Y λO A le L G=>?_
  cases k with
  | true=>cases e;exact q O A le L|false=>exact aa1 L G e λN P F E _=>q N P (le.trans F) E)
def bc0(T:PT X a (tQ nm W X.K Z)):PT X (.UnaryOp .Not a pos) (tQ nm W X.K (.not Z)):=
 PT.of (a5e T) λO H Q P C M d N S R e q=>by
  rw[MW.aj7]at e;let(x,L,G,e):=ik e;cases x<;>try cases e
  exact aa1 S R G λY B le J E=>q Y B le J
set_option tactic.hygienic true in
def bc1(D:PT X c (tQ nm W X.K Y))(A:PE X a (tE nm W X.K G))(V:PE X b (tE nm W X.K Z)):PE X (.IfExp c a b pos) (tE nm W X.K (.ite Y G Z)):=
 PE.of (arc D A V) λu H Q ι y M d J S R e q=>by
  rw[MW.awz]at e;let(x,U,I,e):=ik e;cases x<;>try cases e
  rename_i k;refine aa1 S R I λF C le P E=>?_
  cases k with
  |true=>exact one P E e λT O w N B _ L=>q T O w (le.trans N) B L
  |false=>exact one P E e λT O w N B _ L=>q T O w (le.trans N) B L
def Xe:PA X [] (tEs nm W X.K .nil):=PA.of a6b λT H Q Y G M B J S R e q=>by rw[MW.Uw]at e;cases e;exact q Y H _ (Le.refl _ _) S .nil
def aa2{X:Cx}{M1:fc}(S:o4 nm X.K ι H M)(R:ym X.K ι H ρ σ)(T:es'.den W ρ M=.ok ds M1)(h:∀Z U vs,Le ι H Z U->o4 nm X.K Z U M1->ym X.K Z U ρ σ->qz X.K Z U ds vs->G vs U):tEs nm W X.K es' σ H G:=
 (ι,ρ,M,ds,M1,S,R,T,λY J v le B r=>h Y J v le B (R.mono le) r)
def Q8(L:PE X a (tE nm W X.K a'))(N:PA X Z (tEs nm W X.K U))(O:starEach (a::Z) X.env=(false,eval a X.env)::starEach Z X.env):PA X (a::Z) (tEs nm W X.K (.cons a' U)):=
 PA.of (ax7 L N O) fun σ H Q ι ρ M ds I S R e q=>by
  rw[MW.Jd]at e;symm
  let(x,D,E,e):=ik e;let(xs,M2,A,e):=ik e;cases e;apply _k;exact one S R E λC H1 v le F V P=>aa2 F V A λY J vs T G R2 B=>q Y J _ (le.trans T) G (.cons (P.mono T) B)
noncomputable def Gm.len:Gm->Nat
 |.nil=>0|.cons _ r=>Gm.len r+1
theorem Nf{W:Kg}:∀{Y:Gm}{J:En}{M T:fc}{G:List Dv},Y.den W J M=.ok G T->G.length=Gm.len Y
 |.nil,_,_,_,_,e=>by rw[MW.Uw]at e;cases e;rfl
 |.cons _ r,_,_,_,_,e=>by
  rw[MW.Jd]at e;symm
  let(x,T,O,e):=ik e;let(C,N,B,e):=ik e;cases e;apply _k;rw[ie,Nf B];rfl
def bc2(h:PA X U (tEs nm W X.K Z))(J:Gm.len Z<=1000):PE X (.Tuple U k pos) (tE nm W X.K (.tup Z)):=
 PE.of (a6c h) λI H Q ι F M d L S R e q=>by
  rw[MW.aw0]at e;let(V,E,T,e):=ik e;cases e;refine aa2 S R T λY P D le N A r=>(?_,λp C=>?_)
  .rw[<-r.length,Nf T];exact gh J ⋯
  .let(G,B,O):=Rr N C r
   exact q Y _ _ (le.trans B) G O
def a6u(h:PA X U (tEs nm W X.K Z))(J:Gm.len Z<=1000):PE X (.List U pos) (tE nm W X.K (.Kl Z)):=
 PE.of (aru h) λI H Q ι F M d L S R e q=>by
  rw[MW.ap9]at e;let(V,E,T,e):=ik e;cases e;refine aa2 S R T λY P D le N A r=>(?_,λp C=>?_)
  .rw[<-r.length,Nf T];exact gh J ⋯
  .let(G,B,O):=ad6 N C r
   exact q Y _ _ (le.trans B) G O
def bc3(h:PA X U (tEs nm W X.K Z))(G:Gm.len Z<=1000):PE X (.List U pos) (tE nm W X.K (.lst Z)):=
 PE.of (aru h) λI H Q ι F M d L S R e q=>by
  rw[MW.aw1]at e;let(V,E,Y,e):=ik e;cases e;refine aa2 S R Y λO P D le N A r=>(?_,λp C=>?_)
  .rw[<-r.length,Nf Y];exact gh G ⋯
  .let(T,J,B):=ad7 N C r
   exact q _ _ _ (le.trans J) T B
def bc4(T:PE X a (tE nm W X.K Z)):PE X (.UnaryOp .USub a pos) (tE nm W X.K (.neg Z)):=
 PE.of (bbl a5x T) λO H Q P C M d N S R e q=>by
  rw[MW.awx]at e;let(x,L,G,e):=ik e;refine one S R G λY B v le J E r=>?_
  cases r<;>try cases e
  exact(_,rfl,q Y B _ le J (.int _))
open PyProof.Rows (subscriptTail)
section
variable{κ:Type}[DecidableEq κ]{K:Fg}{ι:Io}{H:Hp}
theorem xg.length{κ Y:Type}{f:κ->Y->Prop}{l:List (κ×Dv)}{T:List (Y×V)}(h:xg K ι H f l T):l.length=T.length:=by
 induction h with
 |nil=>rfl|cons _ _ t G=>rw[ie,ie,G]
def xg.look{k:κ}{T:List (κ×Dv)}{l:List (κ×V)}(h:xg K ι H (λk Z=>k=Z) T l):(∀d,MW.Ag T k\d->∃v,Ub l k\v/\Rep K ι H d v)/\(MW.Ag T k=none->Ub l k=none):=by
 induction h with
 |nil=>exact(λd h=>by simp[MW.Ag]at h,λ_=>rfl)
 |@cons q _ _ _ _ _ hk h t ih =>
  subst hk;let(a,b):=ih
  by_cases e:q=k
  .refine(λd Y=>?_,λY=>?_)
   .simp[MW.Ag,uf,e]at Y
    subst Y;exact(_,U8 e,h)
   .simp[MW.Ag,uf,e]at Y
  .have z:∀(d:Dv) r,MW.Ag ((q,d)::r) k=MW.Ag r k:=λd r=>by simp[MW.Ag,uf,e]
   rw[z,U9 (by exact e)];exact(a,b)
theorem xg.any{k:κ}:∀{Y:List (κ×Dv)}{l:List (κ×V)},xg K ι H (λk U=>k=U) Y l->(Y.any λZ=>decide (Z.1=k))=(l.any λZ=>decide (Z.1=k))
 |_,_,.nil=>rfl|_,_,.cons hk h t=>by subst hk;simp only[List.any_cons,xg.any t]
theorem xg.Kd{k:κ}{d:Dv}{v:V}(r:Rep K ι H d v):∀{Y:List (κ×Dv)}{l:List (κ×V)},xg K ι H (λk U=>k=U) Y l ->
 xg K ι H (λk U=>k=U) (Y.map λZ=>if Z.1=k then(Z.1,d)else Z) (l.map λZ=>if Z.1=k then(Z.1,v)else Z)
 |_,_,.nil=>.nil
 |_,_,.cons (k:=q) hk h t=>by
  subst hk;simp only[f9]
  by_cases e:q=k
  .simp only[e,mq];exact .cons rfl r (xg.Kd r t)
  .simp only[e,jq];exact .cons rfl h (xg.Kd r t)
def xg.snoc{κ Y:Type}{f:κ->Y->Prop}{k:κ}{T:Y}{d:Dv}{v:V}(J:f k T)(r:Rep K ι H d v){l:List (κ×Dv)}{G:List (Y×V)}(h:xg K ι H f l G):xg K ι H f (l++[(k,d)]) (G++[(T,v)]):=by
 induction h with
 |nil=>exact .cons J r .nil|cons q h t B=>exact .cons q h B
def xg.put{k:κ}(r:Rep K ι H d v)(t:xg K ι H (λk Z=>k=Z) U l):xg K ι H (λk Z=>k=Z) (MW.Eh U k d) (putK l k v):=by
 unfold MW.Eh putK;rw[t.any (k:=k)]
 by_cases e:(l.any λY=>decide (Y.1=k))=true
 .rw[dm e,dm e];exact t.Kd r
 .rw[cz e,cz e];exact t.snoc rfl r
theorem xg.fld{nm:Nm}{f:Nat}{fs:List (Nat×Dv)}{l:List (Str×V)}(h:xg K ι H (λk Z=>Z=nm.fld k) fs l):(∀d,fs.lookup f\d->∃v,l.lookup (nm.fld f)\v/\Rep K ι H d v)/\(fs.lookup f=none->l.lookup (nm.fld f)=none):=by
 induction h with
 |nil=>exact(λd h=>by simp at h,λ_=>rfl)
 |@cons q _ _ _ _ _ hk h t ih =>
  subst hk;let(a,b):=ih;rw[qp,qp]
  by_cases e:f=q
  .subst e
   simp only[Av];exact(λd Y=>by cases Y;exact(_,rfl,h),λY=>by cases Y)
  .have T:(f==q)=false:=by simpa using e
   have G:(nm.fld f==nm.fld q)=false:=by
    cases z:nm.fld f==nm.fld q with
    |false=>rfl|true=>exact absurd (nm.inj _ _ (eq_of_beq z)) e
   rw[T,G];exact(a,b)
theorem xg.Kp{Y:Nm}{f:Nat}{d:Dv}{v:V}(r:Rep K ι H d v):∀{fs:List (Nat×Dv)}{l:List (Str×V)},xg K ι H (λk Z=>Z=Y.fld k) fs l->xg K ι H (λk Z=>Z=Y.fld k) (MW.Ws f d fs) (L2.Kp (Y.fld f) v l)
 |_,_,.nil=>.cons rfl r .nil
 |_,_,.cons (k:=q) (k':=q') hk h t=>by
  subst hk;unfold MW.Ws L2.Kp
  by_cases e:q=f
  .subst e
   simp only[mq];exact .cons rfl r t
  .have T:¬Y.fld q=Y.fld f:=λz=>e (Y.inj _ _ z)
   rw[cz e,cz T];exact .cons rfl h (xg.Kp r t)
def ad9(r:Rep K ι H d v)(h:MW.Yq d\k):v=kV k:=by cases r<;>simp[MW.Yq]at h<;>subst h<;>rfl
def a6v{Y:List Dv}{T:List V}{G:List Kx}(a:qz K ι H Y T)(h:MW.acs Y\G):T=G.map kV:=by
 induction Y generalizing T G with
 |nil=>cases a;simp[MW.acs]at h;subst h;rfl
 |cons d Y B =>
  cases a with
  |cons r t =>
   simp only[MW.acs]at h;split at h
   .rename_i O J
    cases h;rw[ad9 r O,B t J];rfl
   .cases h
def Zm(r:Rep K ι H d v)(h:MW.Ry d\Z):∃b,v=.ref b/\H b\(.tup (Z.map kV)):=by
 cases r with
 |tup e r=>exact(_,rfl,by rw[<-a6v r h];exact e)|_=>simp[MW.Ry]at h
end
def biq(T:Nm)(K:Fg):R2:=λv u H Q=>∃Y M x y d,o4 T K Y H M/\Rep K Y H x v/\Rep K Y H y u/\MW.Bx x y M\d/\∀w,Rep K Y H d w->Q w H
def aso(C:X.A.units+1<cLine):IxR X (λx y H Q=>∃a v,x=.ref a/\Sd H a y (some v)/\Q v H):=by
 intro Y T G s E H x y v u Q I J N h O;symm
 let(p,z,rfl,g,q):=h;cases J;apply _k;exact PyProof.Rows.tail_any (af7 I g) PySem.F.slot_dict_getitem.lookup (anc C I g N λP L B r=>(z,H,B,r,q)) O
set_option tactic.hygienic true in
def a6w(hu:X.A.units+1<cLine):IxR X (biq nm X.K):=by
 intro B T O s J H v u U Y Q I rv ru z hs;symm
 let(ι,M,x,y,d,S,rx,W,e,q):=z;have L:∀(p:Addr)(E:List V)(D:List Dv),v=.ref p->(Kc X.K H p E\/O9 X.K H p E)->qz X.K ι H D E->(match y with|.int i=>(MW.aat D.length i).bind λj=>D[j]?|_=>none)\d ->
  wpAny (model X.prog X.w) X.A (subscriptTail B T U Y) (EP X O J Q) X.xe s:=λp E D hv Z r e=>by
  subst hv;obtain⟨i,qq⟩:∃i,y=.int i:=by cases y<;>first|exact(_,rfl)|cases e
  subst qq;cases W;let(j,N,C):=iw.mp e;let(z,R,P):=r.get C;have F:atI E i\z:=by unfold atI;rw[show ixN E.length i\j from by rw[<-r.length];exact N];exact R
  rcases Z with Z|Z
  .exact L2.Ei B T O s J H _ _ U Y Q I rv ru (p,E,i,z,rfl,rfl,Z,F,q z P) hs
  .exact L2.Jf B T O s J H _ _ U Y Q I rv ru (p,E,i,z,rfl,rfl,Z,F,q z P) hs
 apply _k;cases rx with
 |tup N G=>exact L _ _ _ rfl (.inr (O9.of N)) G (by cases W<;>first|exact e|(simp[MW.Bx,MW.Dk]at e))
 |vl N n1 G=>exact L _ _ _ rfl (.inl (Kc.of N)) G (by cases W<;>first|exact e|(simp[MW.Bx,MW.Dk,MW.gr]at e))
 |fz N G=>exact L _ _ _ rfl (.inl N.sq) G (by cases W<;>first|exact e|(simp[MW.Bx]at e))
 |ref N =>
  rename_i n p;simp only[MW.Bx]at e;split at e
  .rename_i jf hn
   symm
   let(l,R,P):=S.obj n _ p hn N;let(k,C,e3):=iw.mp e;let(z,h3,h4):=(P.look (k:=k)).1 d e3;let(b,rfl,hb):=Zm W C;apply _k;exact aso hu B T O s J H _ _ U Y Q I rv ru (p,z,rfl,by rw[<-h3];exact Sd.t R hb,q z h4) hs
  .rename_i jf hn
   symm
   let(l,R,P):=S.obj n _ p hn N;let(k,C,e3):=iw.mp e;let(z,h3,h4):=(P.look (k:=k)).1 d e3;have hy:=ad9 W C;subst hy;apply _k;exact aso hu B T O s J H _ _ U Y Q I rv ru (p,z,rfl,by rw[<-h3];exact Sd.k R,q z h4) hs
  .cases hl:MW.gr M (.ref n)with
   |none=>rw[hl]at e;cases e
   |some D =>
    symm
    let(p',E,hp,R,P):=uy S (.ref N) hl;cases hp;rw[hl]at e;apply _k;exact L _ _ _ rfl (.inl (Kc.of R)) P (by cases W<;>first|exact e|cases e)
 |_=>simp[MW.Bx,MW.Dk,MW.gr]at e
def bir(E:X.A.units+1<cLine)(N:PE X a (tE nm W X.K U))(J:PE X b (tE nm W X.K Z))(C:ad0 b):PE X (.Subscript a b pos) (tE nm W X.K (.ix U Z)):=
 PE.of (bb4 (a6w (nm:=nm) E) N J C) λz H Q g I M d O S R e q=>by
  rw[MW.acw]at e;symm
  let(x,F,L,e):=ik e;let(y,D,P,e):=ik e;let(e,rfl):=zb e;apply _k;exact two S R L P λY G v u le T _ B V=>(Y,O,x,y,d,T,B,V,e,λw r=>q Y G w le T r)
def bc5(A:n=nm.fld f)(T:∀c C,nm.cls c\C->Cls X.K C/\Lx X.K C n)(I:PE X a (tE nm W X.K U))(B:attributeBase a n X.env (eval a X.env)=eval a X.env):PE X (.Attribute a n pos) (tE nm W X.K (.fld U f)):=
 PE.of (a5z I B) fun σ H Q ι ρ M d M' S R e q=>by
  rw[MW.aw3]at e;symm
  let(x,M1,D,e):=ik e;let(e,rfl):=zb e;apply _k;refine one S R D λY P v le J R1 r=>?_
  obtain⟨m,G⟩:∃m,x=.ref m:=by cases x<;>first|exact(_,rfl)|cases e
  subst G;obtain⟨p,rfl,Z⟩:∃p,v=.ref p/\Y.l[m]?\p:=by cases r with|ref z=>exact(_,rfl,z)
  simp only[MW.Us]at e;split at e
  .rename_i c fs V
   symm
   let(C,dx,l,N,O,E):=J.obj m _ p V Z;let(z,h4,h5):=(E.fld (nm:=nm) (f:=f)).1 d e;subst A;let(F,L):=T c C N;apply _k;exact(p,C,dx,l,z,rfl,O,F,L,h4,q Y P z le J h5)
  .cases e
open MW (Ex Gm OEx Sq Dg p7 Lv Tg Res fc MO Kg Cp Op2 Blt Bm Kx Src)
noncomputable def Wj:Expr->Bool
 |.ListComp ..=>false|.SetComp ..=>false|.DictComp ..=>false|_=>true
def Q9(h:Wj e=true)(t:Option Expr)(l:Nat)(Y:Env):swapsWith e t l Y=pure false:=by cases e<;>first|rfl|(cases h)
noncomputable def Im:Expr->Bool
 |.Set ..=>false|_=>true
def Gg(h:Im e=true)(Y:Env)(x:Value):foldedSetIterable e Y x=pure x:=by cases e<;>first|rfl|(cases h)
def Xf(h:Im e=true)(Y:CmpOp):behindInMarks Y e=false:=by cases e<;>first|rfl|(cases h)
noncomputable def a2g:Expr->Bool
 |.Tuple ..=>false|_=>true
noncomputable def noStar:Expr->Bool
 |.Starred ..=>false|_=>true
def pq(h:noStar e=true)(Y:Ya)(env:Env):starEach (e::Y) env=(false,eval e env)::starEach Y env:=by cases e<;>first|rfl|(cases h)
noncomputable def aea:Expr->Bool
 |.Slice ..=>false|_=>true
def asp(h:aea e=true):ad0 e:=by intro o i;cases e<;>first|rfl|(cases h)
noncomputable def Dl:Tg->List Nat
 |.name i=>[i]|.names is=>is
def tGt(O:Nm)(K:Fg)(t:Tg):TG:=λv J H Q=>∃G B M d T,o4 O K G H M/\ym K G H B J/\Rep K G H d v/\t.put d B\T/\∀Y,ym K G H T Y->Y.length=J.length->(∀j,j∉Dl t->Y[j]?=J[j]?)->Q Y H
def PG.weak(h:PG X tg t)(w:∀v Z H Q,t' v Z H Q->t v Z H Q):PG X tg t':=λY s Z H v u Q I r q=>h Y s Z H v u Q I r (w v Z H Q q)
def PG.of(h:PG X tg t)(w:∀v σ H Q ι ρ M d Z,o4 nm X.K ι H M->ym X.K ι H ρ σ->Rep X.K ι H d v->tt.put d ρ\Z->(∀U,ym X.K ι H Z U->U.length=σ.length->(∀j,j∉Dl tt->U[j]?=σ[j]?)->Q U H)->t v σ H Q):PG X tg (tGt nm X.K tt):=
 PG.weak h λv σ H Q z_=>by let(ι,ρ,M,d,Z,S,R,r,e,q):=z_;exact w v σ H Q ι ρ M d Z S R r e q
def a6x(G:X.N.Nodup)(J:X.N[i]?\n)(B:Loc X.env.scope n)(O:X.fn n=true\/X.env.scope.names.lookup n\.local):PG X (.Name n pos) (tGt nm X.K (.name i)):=
 PG.of (adx G J B O) λv C H Q E L M d Y S R r e q=>by cases e;exact q _ (R.set r i) (by simp) λj T=>v8 (λz=>T (by simp[Dl,z]))
noncomputable def Ob:List Nat->List V->St->St
 |i::is,v::vs,σ=>Ob is vs (σ.set i (some v))|_,_,σ=>σ
theorem Uc{Y:Io}{H:Hp}{K:Fg}:∀{is:Y3}{B:List Dv}{J:List V}{G:En}{T:St},ym K Y H G T->qz K Y H B J->ym K Y H (MW.Hl is B G) (Ob is J T)
 |[],_,_,_,_,R,r=>by cases r<;>exact R|_::_,_,_,_,_,R,.nil=>R|i::is,_,_,_,_,R,.cons h t=>Uc (is:=is) (R.set h i) t
theorem Oc:∀{is:Y3}{T:List V}{Y:St}{j:Nat},j∉is->(Ob is T Y)[j]?=Y[j]?
 |[],T,Y,j,_=>by cases T<;>rfl|i::is,[],Y,j,_=>rfl
 |i::is,v::T,Y,j,h=>by
  show(Ob is T (Y.set i (some v)))[j]?=_;rw[Oc (λz=>h (bu _ z)),v8 (λz=>h (by rw[z];exact dw))]
theorem Ra:∀{is:Y3}{T:List V}{Y:St},(Ob is T Y).length=Y.length
 |[],T,Y=>by cases T<;>rfl|_::_,[],Y=>rfl|i::is,v::T,Y=>by show(Ob is T (Y.set i (some v))).length=_;rw[Ra,List.length_set]
inductive Od(X:Cx):List Expr->List Nat->Prop
 |nil:Od X [] []
 |cons {n:Str} {p:Pos} {i:Nat} {ts:Ya} {is:Y3} (hi:X.N[i]?\n) (hx:Loc X.env.scope n) (hf:X.fn n=true\/X.env.scope.names.lookup n\.local) (t:Od X ts is):Od X (.Name n p::ts) (i::is)
def agj{X:Cx}(O:X.N.Nodup){B:Ya}{is:Y3}(h:Od X B is):PGs X B (λZ U H Q=>Z.length=is.length/\Q (Ob is Z U) H):=by
 induction h with
 |nil =>
  intro Y s U H Z J Q I r q;let(T,G):=q;cases Ak.mp T;exact axx Y s U H [] J Q I r (rfl,G)
 |cons C E P t L =>
  intro Y s U H Z J Q I r q;let(T,G):=q;cases Z with
  |nil=>simp at T|cons v Z=>exact arh (adx O C E P) L (by rfl) Y s U H (v::Z) J Q I r (v,Z,rfl,by simpa using T,G)
theorem Dq{X:Cx}{env:Env}:∀{Y:Ya}{is:Y3},Od X Y is->(assignEach Y env).length=is.length/\(assignEach Y env).findIdx? (·.1)=none
 |_,_,.nil=>(rfl,rfl)
 |_,_,.cons hi hx hf t=>by
  let(G,T):=Dq (env:=env) t;refine(by simp[assignEach,G],?_);simp[assignEach,List.findIdx?_cons];simpa using T
def a6y(P:X.calm=true)(h:PGs X es t)(V:(assignEach es X.env).length=n)(T:(assignEach es X.env).findIdx? (·.1)=none):PG X (.Tuple es k pos) (λv U H Q=>∃a Z,v=.ref a/\H a\(.lst Z)/\Z.length=n/\t Z U H Q):=by
 intro Y s U H v u Q I r G;let(a,Z,O,E,C,G):=G;subst O;cases r;let(B,m,J,R,F):=I.lst E;have N:s.heap.IsList a B.toArray:=(_,R,rfl,m,rfl);rw[PyProof.Rows.assign_Tuple];refine aa (wpAny_standAt ?_);unfold unpack;rw[T,V,<-C,show Z.length=B.toArray.size by simp[J.length]];refine aa (ji (PySem.W.kun_itemsOf (I.ok.hd P) N λS L=>?_));have I1:Inv X Y U H { s with heap:=S }:=I.kept (t':=s.toks) λb o e=>L b o (gn (cj e)) e
 exact h Y _ U H Z _ Q I1 (by simpa using J) G
def ays(E:X.calm=true)(C:X.N.Nodup)(h:Od X Z is):PG X (.Tuple Z k pos) (tGt nm X.K (.names is)):=λY s O H v u Q I L V=>by
 let(F,W,M,d,P,S,R,r,e,q):=V;cases r with
 |tup J T =>
  simp only[Tg.put]at e;split at e<;>cases e;rename_i G;exact a5l E (agj C h) (Dq h).1 (Dq h).2 Y s O H _ u Q I L (_,_,rfl,O9.of J,by rw[<-T.length];exact G,by rw[<-T.length];exact G,q _ (Uc R T) Ra λj B=>Oc B)
 |vl J _ T =>
  simp only[Tg.put]at e;split at e<;>cases e;rename_i G;exact a6y E (agj C h) (Dq h).1 (Dq h).2 Y s O H _ u Q I L (_,_,rfl,J,by rw[<-T.length];exact G,by rw[<-T.length];exact G,q _ (Uc R T) Ra λj B=>Oc B)
 |_=>simp[Tg.put]at e
def ak1(E:PE X a (tE nm W X.K a'))(A:PG X tg (tGt nm X.K t))(L:swapsWithSole [tg] a pos.line X.env=pure false)(P:swappedStores [tg] a X.env=pure none)(O:(assignEach [tg] X.env).map (·.2)=[assign tg X.env]) :
 PS X (.Assign [tg] a pos) (tS nm W X.K (.asg (.tg t) a')):=
 PS.of (ari E A L P O) λD σ H ι Q M fl G M' S R e q=>by rw[MW.acx]at e;let(x,M1,V,e):=ik e;let(I,M2,B,e):=ik e;cases e;rw[MW.aqg]at B;let(C,F):=zb B;subst F;exact one S R V λY N v le J Z r=>(Y,Q,_,x,G,J,Z,r,C,λT U _ _=>q Y N T le J U)
def a6z(N:PE X a (tE nm W X.K Z))(C:swapsWith a none pos.line X.env=pure false):PS X (.Expr a pos) (tS nm W X.K (.expr Z)):=
 PS.of (axw N C) λD T H F E M V G P S R e q=>by rw[MW.aw5]at e;let(x,Q,J,e):=ik e;cases e;exact one S R J λY O v le B L r=>q Y O T le B L
def bc6(C:PE X a (tE nm W X.K Z)):PS X (.Return (some a) pos) (tS nm W X.K (.ret Z)):=
 PS.of (a5i C) λD T H V L M Q G E S R e q=>by rw[MW.a3v]at e;let(x,P,J,e):=ik e;cases e;exact one S R J λY O v le B N r=>q Y O T le B N v r
def bc7:PS X (.Break pos) (tS nm W X.K .brk):=
 PS.of arf λD Y H G J M O T B S R e q=>by rw[MW.a3w]at e;cases e;exact q G H Y (Le.refl _ _) S R
def a65:PS X (.Continue pos) (tS nm W X.K .cont):=
 PS.of af4 λD Y H G J M O T B S R e q=>by rw[MW.aw6]at e;cases e;exact q G H Y (Le.refl _ _) S R
def Zi.mono{X:Cx}(le:Le ι H Z H')(q:Zi nm X.K D ι H fl U M):Zi nm X.K D Z H' fl U M:=λT J Y B G R2=>q T J Y (le.trans B) G R2
set_option tactic.hygienic true in
def bc8(A:PT X c (tQ nm W X.K G))(I:U7 X J (tSs nm W X.K Y))(V:U7 X fs (tSs nm W X.K Z)):PS X (.If c J fs pos) (tS nm W X.K (.iff G Y Z)):=
 PS.of (bbe A I V) λD C H y E M L B O S R e q=>by
  rw[MW.a3u]at e;let(x,N,F,e):=ik e;cases x<;>try cases e
  rename_i k;refine aa1 S R F λT U le Q P=>?_
  cases k with
  |true=>exact(T,E,N,L,B,O,Q,P,e,q.mono le)|false=>exact(T,E,N,L,B,O,Q,P,e,q.mono le)
def a66:U7 X [] (tSs nm W X.K .nil):=U7.of axv λD Y H G J M O T B S R e q=>by rw[MW.aw7]at e;cases e;exact q G H Y (Le.refl _ _) S R
def ayt{T:List Stmt}(V:PS X st (tS nm W X.K Z))(P:U7 X T (tSs nm W X.K rest')):U7 X (st::T) (tSs nm W X.K (.cons Z rest')):=
 U7.of (ard V P) λD σ H U A M F L Q S R e q=>by
  rw[MW.aqe]at e;let((B,J),E,I,e):=ik e;refine(U,A,M,B,J,E,S,R,I,λY N G le C O=>?_);cases B with
  |next=>exact(Y,J,E,F,L,Q,C,O,e,q.mono le)|brk=>cases e;exact q Y N G le C O|cont=>cases e;exact q Y N G le C O|ret d=>cases e;exact q Y N G le C O
set_option tactic.hygienic true in
def bc9(hp:PassesOwn (model X.prog X.w) X.A X.env X.xe)(hc:PT X c (tQ nm W X.K c'))(hb:U7 X body (tSs nm W X.K Zn)):PS X (.While c body [] pos) (tS nm W X.K (.whl c' Zn)):=
 PS.of (arj hp hc hb) λD σ H ι ρ M fl Y M' S R e q=>by
  rw[MW.acy]at e;refine(λm Q U=>∃L N M1,Le ι H L U/\o4 nm X.K L U M1/\ym X.K L U N Q/\MW.Hf (c'.den W) (Zn.den W) m N M1=.ok (fl,Y) M',(MW.aie,ι,ρ,M,Le.refl _ _,S,R,e),?_);rintro m Q U ⟨L,N,M1,Z,S1,R1,B⟩;cases m with
  |zero=>cases B
  |succ m =>
   simp only[MW.Hf]at B;let(x,M2,e2,B):=ik B;cases x<;>try cases B
   rename_i k;refine aa1 S1 R1 e2 λG H2 F S2 R2=>?_
   cases k with
   |false=>cases B;exact q G H2 Q (Z.trans F) S2 R2
   |true =>
    let((I,V),u,e3,B):=ik B;refine(λO P=>∃T J M4,Le ι H T P/\o4 nm X.K T P M4/\ym X.K T P J O/\MW.Hf (c'.den W) (Zn.den W) m J M4=.ok (fl,Y) M',λO P h4=>(m,jy _,h4),G,N,M2,I,V,u,S2,R2,e3,λT P O E C y=>?_);cases I with
    |next=>exact(T,V,u,(Z.trans F).trans E,C,y,B)|cont=>exact(T,V,u,(Z.trans F).trans E,C,y,B)|brk=>cases B;exact q T P O ((Z.trans F).trans E) C y|ret d=>cases B;exact q T P O ((Z.trans F).trans E) C y
def ayu(O:Nm)(K:Fg)(C:Io)(H:Hp)(s:Src)(J:It):Prop:=∀Y T B,LeX C H Y T->o4 O K Y T B ->
 (∀i d,i<s.len->s.item i B\d->J.go i T/\∀v G,J.yld i T v G->Le Y T Y G/\o4 O K Y G B/\Rep K Y G d v)/\(s.fin B=true->J.stop s.len T)
def tI(G:Nm)(W:Kg)(K:Fg)(it:Sq):TI:=λN H R=>∃B O M s C,o4 G K B H M/\ym K B H O N/\it.den W O M=.ok s C/\∀Y T J,Le B H Y T->o4 G K Y T C->ayu G K Y T s J->R J T
set_option tactic.hygienic true in
def bdc(hp:PassesOwn (model X.prog X.w) X.A X.env X.xe)(hc:X.calm=true)(hi:PI X tg iter (tI nm W X.K it))(hg:PG X tg (tGt nm X.K t))(hb:U7 X body (tSs nm W X.K Zn))(hs:Im iter=true):PS X (.For tg iter body [] pos) (tS nm W X.K (.for_ t it Zn)):=
 PS.of (a5p hp hc hi hg hb (Gg hs X.env)) λD σ H ι G M fl O M' S R e q=>by
  rw[MW.Vx]at e;let(s,M1,e1,e):=ik e;refine(ι,G,M,s,M1,S,R,e1,λI H1 J X6 S1 sj=>?_);refine(λi m F Y=>m=s.len-i/\i<=s.len/\∃B E U,Le I H1 B Y/\o4 nm X.K B Y U/\ym X.K B Y E F/\MW.Dr s.fin s.item (λd G M=>match t.put d G with|some O=>Zn.den W O M|none=>.bad) m i E U=.ok (fl,O) M',
   (s.len,rfl,jd _,I,G,M1,Le.refl _ _,S1,R.mono X6,e),?_)
  rintro i m F Y ⟨hm,q1,B,E,U,Bq,S2,R2,N⟩;let(go,y):=sj B Y U Bq.toX S2;cases m with
  |zero =>
   simp only[MW.Dr]at N;split at N<;>cases N;rename_i T9;have hi:i=s.len:=by lia
   subst hi;exact .inl (y T9,q B Y F (X6.trans Bq) S2 R2)
  |succ m =>
   simp only[MW.Dr]at N;split at N
   .cases N
   .rename_i d hd
    let((C,Z),M3,e3,N):=ik N;let(g1,g2):=go i d (by omega) hd;refine .inr (g1,λL V=>∃T Q M4,Le I H1 T V/\o4 nm X.K T V M4/\ym X.K T V Q L/\MW.Dr s.fin s.item (λd G M=>match t.put d G with|some O=>Zn.den W O M|none=>.bad) m (i+1) Q M4=.ok (fl,O) M',
     λL V (T,Q,M4,h4)=>(m,jy _,by omega,by omega,T,Q,M4,h4),λv H3 yv=>?_)
    let(u,S3,r3):=g2 v H3 yv;split at e3
    .rename_i qq qk
     refine(B,E,U,d,qq,S3,R2.mono u,r3,qk,λq0 R5 _ _=>(B,qq,U,C,Z,M3,S3,R5,e3,λT V L qv S4 R4=>?_));have P:=(Bq.trans u).trans qv;cases C with
     |next=>exact(T,Z,M3,P,S4,R4,N)|cont=>exact(T,Z,M3,P,S4,R4,N)|brk=>cases N;exact q T V L (X6.trans P) S4 R4|ret d=>cases N;exact q T V L (X6.trans P) S4 R4
    .cases e3
section
variable{nm:Nm}{W:Kg}{X:Cx}{a b c:Expr}{a' b' c':Ex}{pos pos':Pos}{ι:Io}{H:Hp}{σ:St}{ρ:En}{M M1 M2:fc}{x y:Dv}{es:Ya}{es':Gm}{tg iter elt:Expr}
def PI.weak(h:PI X tg iter Z)(w:∀σ H R,wi' σ H R->Z σ H R):PI X tg iter wi':=λY s σ H R I q=>h Y s σ H R I (w σ H R q)
def PI.of(h:PI X tg iter wi)(w:∀σ H R' ι ρ M s M',o4 nm X.K ι H M->ym X.K ι H ρ σ->it.den W ρ M=.ok s M'->(∀Z U J,Le ι H Z U->o4 nm X.K Z U M'->ayu nm X.K Z U s J->R' J U)->wi σ H R'):PI X tg iter (tI nm W X.K it):=
 PI.weak h fun σ H R' z_=>by let(ι,ρ,M,s,M',S,R,e,q):=z_;exact w σ H R' ι ρ M s M' S R e q
def a67(N:PE X l tl):PI X tg l (fun σ H R=>tl σ H λx Z=>∃a,x=.ref a/\((∃U,Kc X.K Z a U)/\R (Itl X.K a) Z\/(∃U,O9 X.K Z a U)/\R (Itt X.K a) Z)):=by
 intro T s σ H R I h;refine R9 (N T s σ H _ I h) λv Y x Z I1 B E=>?_
 obtain⟨a,e,⟨⟨U,J⟩,q⟩|⟨⟨U,J⟩,q⟩⟩:=E
 .subst e
  cases B;let(O,L,p,C):=I1.list J;refine yu p.isList ?_;refine(Y.heap.objs.size,[Y.heap.objs.size],_,_,Z,rfl,I1.kept (t':=Y.toks) λb o e=>au _ e,am3 a _,(_,dg _ rfl,rfl,rfl),λb G=>?_,q);have e:b=Y.heap.objs.size:=by simpa using G
  subst e;exact I1.ark (bz _) (I1.Bv.fresh (bz _))
 .subst e
  cases B;let(O,L,p,C):=I1.tuple J;refine wpAny_pyIter_tuple (show Y.heap.IsTuple a O.toArray from p) ?_;refine(Y.heap.objs.size,[Y.heap.objs.size],_,_,Z,rfl,I1.kept (t':=Y.toks) λb o e=>au _ e,aip a _,(_,dg _ rfl,rfl,rfl),λb G=>?_,q);have e:b=Y.heap.objs.size:=by simpa using G
  subst e;exact I1.ark (bz _) (I1.Bv.fresh (bz _))
def ab1{p:Addr}{ds:List Dv}{s:Src}(B:∀Z H1 M1,LeX ι H Z H1->o4 nm X.K Z H1 M1->(∀i d,s.item i M1\d->∃U v,H1 p\(.lst U)/\U[i]?\v/\Rep X.K Z H1 d v)/\(s.fin M1=true->∃U,H1 p\(.lst U)/\U.length<=s.len)) :
 ayu nm X.K ι H s (Itl X.K p):=λZ H1 M1 le G=>by
 let(a,b):=B Z H1 M1 le G;refine(λi d L O=>?_,λC=>?_)
 .let(U,v,T,Y,J):=a i d O
  refine((U,v,Kc.of T,Y),λu N (e,y)=>?_);subst e;have:=y U (Kc.of T);rw[Y]at this;cases this;exact(Le.refl _ _,G,J)
 .let(U,T,Y):=b C
  exact(U,Kc.of T,Y)
set_option tactic.hygienic true in
def bdd(ha:PE X a (tE nm W X.K a')):PI X tg a (tI nm W X.K (.val a')):=
 PI.of (a67 ha) fun σ H R' ι ρ M s C S R e q=>by
  rw[MW.Ku]at e;let(x,M1,e1,e):=ik e;let(e,rfl):=zb e;refine one S R e1 λE Y v le D R1 r=>?_
  cases r with
  |@tup p T N h1 r1 =>
   simp only[MW.srcOf]at e;cases e;refine(p,rfl,.inr ((N,O9.of h1),q E Y _ le D λV U M2 O Q=>(λi d hi B=>?_,λ_=>(N,O9.of (O.tup _ _ h1),by rw[<-r1.length];exact bz _))));have B:T[i]?\d:=B;let(v,P,A):=(r1.Pa O).get B;refine((N,v,O9.of (O.tup _ _ h1),P),λu H3 (ee,yy)=>?_);subst ee;have:=yy N (O9.of (O.tup _ _ h1));rw[P]at this;cases this;exact(Le.refl _ _,Q,A)
  |@vl p T N h1 n1 r1 =>
   simp only[MW.srcOf]at e;cases e;refine(p,rfl,.inl ((N,Kc.of h1),q E Y _ le D (ab1 (ds:=T) λV U M2 O Q=>(λi d B=>?_,λ_=>(N,O.lst _ _ n1.1 h1,by rw[<-r1.length];exact bz _)))));have B:T[i]?\d:=B;let(v,P,A):=(r1.Pa O).get B;exact(N,v,O.lst _ _ n1.1 h1,P,A)
  |@ref n p h1 =>
   simp only[MW.srcOf]at e;obtain⟨T,G,rfl⟩:∃T,C[n]?\(.lst T)/\s=.live n T.length:=by
    split at e
    .rename_i T G;cases e;exact(T,G,rfl)
    .cases e
   let(N,P,A):=D.obj n _ p G h1;refine(p,rfl,.inl ((N,Kc.of P),q E Y _ le D (ab1 (ds:=T) λV U M2 O Q=>(λi d B=>?_,λI=>?_))))
   .simp only[Src.item]at B
    split at B
    .rename_i F Z
     split at B
     .let(L,J,k2):=Q.obj n _ p Z (O.get h1)
      let(v,k3,k4):=k2.get B;exact(L,v,J,k3,k4)
     .cases B
    .cases B
   .simp only[Src.fin]at I
    split at I
    .rename_i F Z
     let(L,J,k2):=Q.obj n _ p Z (O.get h1);refine(L,J,?_);rw[<-k2.length];have:F.length=T.length:=by simpa using I
     rw[this];exact bz _
    .cases I
  |_=>simp[MW.srcOf]at e
def bde(V:Gl X "range")(L:X.mg "range"= none)(E:PE X a (tE nm W X.K a'))(T:noStar a=true):PI X tg (.Call (.Name "range" pr) [a] [] pos) (tI nm W X.K (.Xn a')):=
 PI.of (am4 V L (Q8 E Xe (pq T _ _)) (pq T _ _)) fun σ H R' ι ρ M s M' S R e q=>by
  rw[MW.Rj]at e;let(x,M1,P,e):=ik e;refine aa2 (es':=.cons a' .nil) (ds:=[x]) (M1:=M1) S R (by rw[MW.Jd,P];simp) λG N vs le A R1 r=>?_
  obtain⟨i,I⟩:∃i,x=.int i:=by cases x<;>first|exact(_,rfl)|cases e
  subst I;have e:(if i.natAbs<=100000 then Res.ok (Src.con ((List.range i.toNat).map λ(k:Nat)=>MW.D.int (k:Int))) M1 else .bad)=.ok s M':=e;split at e<;>cases e;rename_i U;cases r with
  |cons F C =>
   cases F;cases C;refine(i,rfl,by lia,by omega,q G N _ le A λQ Z M2 Bq B=>(λj d O Y=>?_,λ_=>?_))
   .have J:j<i.toNat:=by simpa[Src.len]using O
    have Y:((List.range i.toNat).map λ(k:Nat)=>MW.D.int (k:Int))[j]?\d:=Y;rw[ir,u9 J]at Y;have Y:MW.D.int (j:Int)=d:=by simpa using Y
    subst Y;refine(J,λu H3 (ee,yy)=>?_);subst ee yy;exact(Le.refl _ _,B,by rw[Int.zero_add];exact .int _)
   .show i.toNat<=_
    simp[Src.len]
def anq(R:ym K ι H ρ σ):ym K ι H (ρ++List.replicate k none) (σ++List.replicate k none):=R.append (ym.a2d k (by simp))
def asq{Y:St}(J:σ.length=n)(G:∀i∈Dl t,n<=i)(h:∀j,j∉Dl t->Y[j]?=(σ++List.replicate k none)[j]?):∀(j:Nat) v,(σ++List.replicate k none)[j]?\(some v)->Y[j]?\(some v):=λj v e=>by
 by_cases T:j∈Dl t
 .have:=G j T
  rw[jk (a_ (f_ J) this),List.getElem?_replicate]at e;split at e<;>simp at e
 .rw[h j T];exact e
noncomputable def a2i(o:Option Dv):List Dv:=match o with|some x=>[x]|none=>[]
set_option tactic.hygienic true in
def agk(h:MW.Er fin item body (k+1) i M=.ok ds Z) :
 ∃d o M1 rest,item i M\d/\body d M=.ok o M1/\MW.Er fin item body k (i+1) M1=.ok rest Z/\ds=a2i o++rest:=by
 simp only[MW.Er]at h;split at h
 .cases h
 .rename_i d T
  let(o,M1,B,h):=ik h;let(rest,M2,O,h):=ik h;cases h;exact(d,o,M1,rest,T,B,O,by cases o<;>rfl)
def qz.snoc(r:qz K ι H ds Z)(h:Rep K ι H d v):qz K ι H (ds++[d]) (Z++[v]):=r.append (.cons h .nil)
def X7(e:MW.Bb s body M1=.ok ds M2):s.len<=100000/\MW.Er s.fin s.item body s.len 0 M1=.ok ds M2:=by
 unfold MW.Bb at e;split at e
 .rename_i Y
  exact(Y,e)
 .cases e
def keptAs(v:Bool)(Y:List Dv)(M:fc):Res Dv:=if v=true then .ok (.vl Y) M else MW.new (.lst Y) M
def anr(h:(Ex.comp v k t it e').den W ρ M=.ok d M'):∃s M1 Z M2,it.den W ρ M=.ok s M1/\s.len<=100000 /\
 MW.Er s.fin s.item (λd M=>match t.put d (ρ++List.replicate k none)with|some U=>(e'.den W U M).bind λx M'=>.ok (some x) M'|none=>.bad) s.len 0 M1=.ok Z M2/\keptAs v Z M2=.ok d M':=by
 rw[MW.Pz]at h;let(s,M1,T,h):=ik h;let(Z,M2,Y,h):=ik h;exact(s,M1,Z,M2,T,(X7 Y).1,(X7 Y).2,h)
def Io.adopt(ι:Io)(H:Hp)(D:Addr):Tr K (ι.hide D) H (ι.add D) H:=(λ_ _ e=>e,λ_ _ e n=>(e,λm=>(dz.mp m).elim n.1 λz=>n.2 (by rw[ig.mp z];exact dw),λm=>n.2 (bu _ m)),λ_ _ e=>e,λn a e=>by
 have e:ι.l[n]?\a:=e;show(ι.l++[D])[n]?=_;rw[gq (ao.mp e).1];exact e,λ_ _=>rfl)
theorem Rep.adopt(r:Rep K (ι.hide D) H d v):Rep K (ι.add D) H d v:=r.tr (ι.adopt H D)
theorem qz.adopt(r:qz K (ι.hide D) H d v):qz K (ι.add D) H d v:=r.tr (ι.adopt H D)
theorem o4.adopt(S:o4 nm K (ι.hide D) H M)(J:H D\(.lst Z))(r:qz K (ι.hide D) H ds Z)(T:ι.off D):o4 nm K (ι.add D) H (M++[.lst ds]):=by
 refine(by have:=S.len;simp only[Io.hide]at this;simp[Io.add,this],?_,λa Y=>?_,λn o a N Y=>?_)
 .exact Ab.mpr (S.nd,by simp,by
   intro x O y G;have:y=D:=by simpa using G
   subst this;intro e;subst e;exact T.1 O)
 .let(C,Z,B):=S.del a (bu _ Y)
  exact(λm=>(dz.mp m).elim C λz=>T.2 (by rw[<-ig.mp z];exact Y),Z,B)
 .rcases Ec N with q|⟨q,rfl⟩
  .rcases Ec Y with z|⟨z,_⟩
   .exact(S.obj n o a q z).tr (ι.adopt H D) rfl
   .exact absurd (MW.vm q) (by rw[z,<-S.len];exact o8 _)
  .rcases Ec Y with z|⟨_,rfl⟩
   .exact absurd (ao.mp z).1 (by rw[q,<-S.len];exact o8 _)
   .exact(Z,J,r.adopt)
def asr(S:o4 nm K (ι.hide D) H M)(G:H D\(.lst vs))(r:qz K (ι.hide D) H ds vs)(T:ι.off D)(le:Le U H0 ι H)(O:H0 D=none)(h:keptAs v ds M=.ok d M') :
 ∃Z,Le U H0 Z H/\o4 nm K Z H M'/\Rep K Z H d (.ref D):=by
 unfold keptAs at h;split at h
 .cases h
  exact(ι,le,S.show,.vl G T r.show)
 .cases h
  refine(ι.add D,(?_,le.del,le.tup,le.Um,le.lst,le.dom,le.sy),S.adopt G r T,.ref ?_)
  .let(Y,e,J):=le.ext
   exact(Y++[D],by show ι.l++[D]=_;rw[e,w5],λa B=>(dz.mp B).elim (J a) λz=>by rw[ig.mp z];exact O)
  .show(ι.l++[D])[M.length]?\D
   rw[<-S.len];simp[Io.hide]
def BodyOk(nm:Nm)(K:Fg)(Y:St)(O:TT)(N:TE)(J:En)(M:fc)(o:Option Dv)(C:fc):Prop:=∀ι H (G1:V->Hp->Prop) (G0:Hp->Prop),o4 nm K ι H M->ym K ι H J Y ->
 (∀T G v,Le ι H T G->o4 nm K T G C->(match o with|some x=>Rep K T G x v->G1 v G|none=>G0 G))->O Y H λb B=>if b=true then N Y B λv L=>G1 v L else G0 B
def ab2{N:Yf}(hk:N.length-X.N.length=k)(ho:∀i∈Dl t,X.N.length<=i)(q5:σ.length=X.N.length)(S:o4 nm X.K ι H M)(R:ym X.K ι H ρ σ)(e1:it.den W ρ M=.ok s M1)(q1:s.len<=100000)(e2:MW.Er s.fin s.item body s.len 0 M1=.ok ds M')(ek:keptAs v0 ds M'=.ok d0 M0)(q:∀qq H' v,Le ι H qq H'->o4 nm X.K qq H' M0->Rep X.K qq H' d0 v->Q v H')(hb:∀d M2 o M3,body d M2=.ok o M3->∃Z,t.put d (ρ++List.replicate k none)\Z/\∀U,BodyOk nm X.K U tc te Z M2 o M3):age (N.length-X.N.length) (tI nm W X.K it) (tGt nm X.K t) tc te σ H Q:=by
 refine(ι,ρ,M,s,M1,S,R,e1,λC H1 J X6 S1 sj D A=>?_);rw[hk];refine(λi m H2=>m=s.len-i/\i<=s.len/\∃Y M2 G vs L,LeD D C H1 (Io.hide Y D) H2/\o4 nm X.K (Io.hide Y D) H2 M2/\H2 D\(.lst vs)/\qz X.K (Io.hide Y D) H2 G vs/\G.length<=i /\
  MW.Er s.fin s.item body m i M2=.ok L M'/\ds=G++L,?_,?_)
 .exact(s.len,rfl,jd _,C,M1,[],[],ds,LeD.start A _,S1.hide A,yr,.nil,bz _,e2,rfl)
 .rintro i m H2 ⟨hm,q8,Y,M2,G,vs,L,Bq,S2,q2,F,Gx,e3,V⟩
  have qk:Le C H1 Y H2:=LeD.done Bq;have q7:Y.δ=C.δ:=qk.del;have q4:Y.off D:=((S2.del D dw).1,λz=>by rw[q7]at z;exact(S1.fresh A).2 z);let(go,qv):=sj (Io.hide Y D) H2 M2 (Bq.toX A) S2;cases m with
  |zero =>
   simp only[MW.Er]at e3;split at e3<;>cases e3;rename_i T9;symm
   have hi:i=s.len:=by lia
   subst hi;rw[Cu]at V;subst V;let(zu,q6,S9,r9):=asr S2 q2 F q4 qk A ek;apply _k;exact .inl (qv T9,q zu H2 _ (X6.trans q6) S9 r9)
  |succ m =>
   symm
   let(d,o,M3,O,h1,h2,h3,h4):=agk e3;let(g1,g2):=go i d (by lia) h1;apply _k;refine .inr (g1,λv H3 yv=>?_);symm
   let(P,S3,r3):=g2 v H3 yv;let(Z,zz,q3):=hb d M2 o M3 h2;have R3:ym X.K (Io.hide Y D) H3 ρ σ:=((R.mono X6).Pa (Bq.toX A)).mono P;apply _k;refine(Io.hide Y D,ρ++List.replicate k none,M2,d,Z,S3,anq R3,r3,zz,λU R5 l5 k5=>(l5,asq q5 ho k5,?_));have zq:=P.lst D vs (S2.del D dw).1 q2;refine q3 U (Io.hide Y D) H3 _ _ S3 R5 (λT H6 u E S6=>by
    have B:=E.lst D vs (S2.del D dw).1 zq;have I:LeD D C H1 T H6:=(Bq.go P).go E;have ei:T=Io.hide (T.l,Y.δ,T.s) D:=by have:=E.del;let(l6,zk,_):=T;simp only[Io.hide]at this⊢;rw[this]
    rw[ei]at I S6;have q0:qz X.K (Io.hide (T.l,Y.δ,T.s) D) H6 G vs:=by rw[<-ei];exact(F.mono P).mono E
    cases o with
    |none =>
     refine(m,jy _,by lia,by lia,(T.l,Y.δ,T.s),M3,G,vs,O,I,S6,B,q0,a_ Gx x_,h3,?_);rw[V,h4];rfl
    |some x =>
     intro r6;rw[ei]at r6;have Kh:D∈(Io.hide (T.l,Y.δ,T.s) D).δ:=dw;refine(vs,m,B,?_,jy _,by lia,by lia,(T.l,Y.δ,T.s),M3,G++[x],vs++[u],O,I.grow A B,S6.grow B Kh,yr,(q0.snoc r6).tr (akz B Kh),by simp;exact Gx,h3,?_)
     .rw[<-F.length]
      exact Cw (gh Gx (gh q8 q1)) ⋯
     .rw[V,h4];simp[a2i])
set_option tactic.hygienic true in
def ab3{N:Yf}(hk:N.length-X.N.length=k)(ho:∀i∈Dl t,X.N.length<=i):∀σ H Q,σ.length=X.N.length->tE nm W X.K (.comp v0 k t it C) σ H Q ->
 age (N.length-X.N.length) (tI nm W X.K it) (tGt nm X.K t) (λ_ H Q=>Q true H) (tE nm W X.K C) σ H Q:=fun σ H Q P F=>by
 let(ι,ρ,M,d,M',S,R,e,q):=F;let(s,M1,ds,M2,U,T,e2,A):=anr e;refine ab2 hk ho P S R U T e2 A q λd M2 o M3 B=>?_
 split at B
 .rename_i V L
  let(x,M4,Z,B):=ik B;cases B;refine(V,L,λI J H5 G1 G0 S5 Y g=>?_);show if true=true then _ else _
  rw[dm rfl];exact one (X:=X) S5 Y Z λE D u O G R6 r6=>g E D u O G r6
 .cases B
def agl(h:(Ex.Ep v k t it c' e').den W ρ M=.ok d M'):∃s M1 U M2,it.den W ρ M=.ok s M1/\s.len<=100000 /\
 MW.Er s.fin s.item (λd M=>match t.put d (ρ++List.replicate k none)with|some Z=>(c'.den W Z M).bind λb M'=>(match b with|.bl true=>(e'.den W Z M').bind λx qq=>.ok (some x) qq|.bl false=>.ok none M'|_=>.bad)|none=>.bad) s.len 0 M1=.ok U M2/\keptAs v U M2=.ok d M':=by
 rw[MW.Yu]at h;let(s,M1,T,h):=ik h;let(U,M2,Y,h):=ik h;exact(s,M1,U,M2,T,(X7 Y).1,(X7 Y).2,h)
set_option tactic.hygienic true in
def Xg{N:Yf}(hk:N.length-X.N.length=k)(ho:∀i∈Dl t,X.N.length<=i):∀σ H Q,σ.length=X.N.length->tE nm W X.K (.Ep v0 k t it c' e') σ H Q ->
 age (N.length-X.N.length) (tI nm W X.K it) (tGt nm X.K t) (tQ nm W X.K c') (tE nm W X.K e') σ H Q:=fun σ H Q F U=>by
 let(ι,ρ,M,d,M',S,R,e,q):=U;let(s,M1,ds,M2,e1,O,e2,ek):=agl e;refine ab2 hk ho F S R e1 O e2 ek q λd M2 o M3 T=>?_
 split at T
 .rename_i I P
  let(x,M4,Z,T):=ik T;refine(I,P,λqq qk H5 G1 G0 J Y g=>?_);split at T
  .let(y,M6,e6,T):=ik T
   cases T;refine aa1 (X:=X) J Y Z λL D B V G=>?_
   rw[dm rfl];exact one (X:=X) V G e6 λE H7 u A S7 R7 C=>g E H7 u (B.trans A) S7 C
  .cases T
   refine aa1 (X:=X) J Y Z λL D B V G=>?_
   rw[cz (by simp)];exact g L D .non B V
  .cases T
 .cases T
def PE.agm(h:PE X e t)(w:∀σ H Q,σ.length=X.N.length->t' σ H Q->t σ H Q):PE X e t':=λY s σ H Q I q=>h Y s σ H Q I (w σ H Q I.len q)
def PS.agm(h:PS X st t)(w:∀D σ H,σ.length=X.N.length->t' D σ H->t D σ H):PS X st t':=λY s σ H D I q=>h Y s σ H D I (w D σ H I.len q)
def a7a(B:Gu X N scope)(J:X.calm=true)(T:PI X tg iter (tI nm W X.K it))(L:∀C Z s H,PG (Pr X N scope C Z s H) tg (tGt nm X.K t))(O:∀C Z s H,PE (Pr X N scope C Z s H) elt (tE nm W X.K U))(G:Im iter=true)(Y:N.length-X.N.length=k)(E:∀i∈Dl t,X.N.length<=i):PE X (.ListComp elt [(tg,iter,[],0)] scope pos) (tE nm W X.K (.comp v0 k t it U)):=
 PE.agm (akv B J T L (λ_ _ _ _=>.inl (rfl,rfl)) O (Gg G X.env)) (ab3 Y E)
def ass(B:Gu X N scope)(J:X.calm=true)(T:PI X tg iter (tI nm W X.K it))(E:∀C Z s H,PG (Pr X N scope C Z s H) tg (tGt nm X.K t))(O:∀C Z s H,PT (Pr X N scope C Z s H) c (tQ nm W X.K c'))(L:∀C Z s H,PE (Pr X N scope C Z s H) elt (tE nm W X.K U))(G:Im iter=true)(Y:N.length-X.N.length=k)(P:∀i∈Dl t,X.N.length<=i):PE X (.ListComp elt [(tg,iter,[c],0)] scope pos) (tE nm W X.K (.Ep v0 k t it c' U)):=
 PE.agm (akv B J T E (λ_ _ _ _=>.inr (c,rfl,O _ _ _ _)) L (Gg G X.env)) (Xg Y P)
def agn(h:∀σ H Q,σ.length=X.N.length->tE nm W X.K Z σ H Q->tt σ H Q):∀D σ H,σ.length=X.N.length->tS nm W X.K (.asg (.tg (.name i)) Z) D σ H->a5n tt (ako i) D σ H:=λD σ H T P=>by let(ι,ρ,M,I,J,A,S,R,e,q):=P;rw[MW.acx]at e;let(x,M1,O,e):=ik e;let(V,M2,G,e):=ik e;cases e;rw[MW.aqg]at G;let(B,C):=zb G;subst C;cases B;exact h σ H _ T (one S R O λY E v le L F r=>q Y E _ le L (F.set r i))
def ant{y:Str}(B:Gu X N scope)(Q:X.calm=true)(L:PI X tg iter (tI nm W X.K it))(S:∀C Z s H,PG (Pr X N scope C Z s H) tg (tGt nm X.K t))(P:∀C Z s H,PE (Pr X N scope C Z s H) elt (tE nm W X.K U))(E:Im iter=true)(J:N.length-X.N.length=k)(R:∀i∈Dl t,X.N.length<=i)(O:X.N.Nodup)(T:X.N[i]?\y)(G:X.env.scope.names.lookup y\.local)(Y:swapsWith (.ListComp elt [(tg,iter,[],0)] scope pos) (some (.Name y py)) asm.line X.env=pure true):PS X (.Assign [.Name y py] (.ListComp elt [(tg,iter,[],0)] scope pos) asm) (tS nm W X.K (.asg (.tg (.name i)) (.comp v0 k t it U))):=
 PS.agm (akx B Q L S (λ_ _ _ _=>.inl (rfl,rfl)) P (Gg E X.env) O T G Y) (agn (ab3 J R))
def ago{y:Str}(B:Gu X N scope)(V:X.calm=true)(L:PI X tg iter (tI nm W X.K it))(Q:∀C Z s H,PG (Pr X N scope C Z s H) tg (tGt nm X.K t))(R:∀C Z s H,PT (Pr X N scope C Z s H) c (tQ nm W X.K c'))(P:∀C Z s H,PE (Pr X N scope C Z s H) elt (tE nm W X.K U))(E:Im iter=true)(J:N.length-X.N.length=k)(S:∀i∈Dl t,X.N.length<=i)(O:X.N.Nodup)(T:X.N[i]?\y)(G:X.env.scope.names.lookup y\.local)(Y:swapsWith (.ListComp elt [(tg,iter,[c],0)] scope pos) (some (.Name y py)) asm.line X.env=pure true):PS X (.Assign [.Name y py] (.ListComp elt [(tg,iter,[c],0)] scope pos) asm) (tS nm W X.K (.asg (.tg (.name i)) (.Ep v0 k t it c' U))):=
 PS.agm (akx B V L Q (λ_ _ _ _=>.inr (c,rfl,R _ _ _ _)) P (Gg E X.env) O T G Y) (agn (Xg J S))
end
def spF(B:Nm)(W:Kg)(K:Fg)(n f:Nat):Sp:=λC H Q _=>∃J M G d O,o4 B K J H M/\qz K J H G C/\G.length=n/\W.call f G M=.ok d O/\∀Y T v,Le J H Y T->o4 B K Y T O->Rep K Y T d v->Q v T
def s_call(F:Ii X.prog X.w X.K X.mg X.base CX0 k fa fd ps (spF nm W X.K n f))(P:Bh k X.A)(y:Gl X x)(V:X.mg x\(.ref fa))(j:PySem.W.keepIn X.K (.ref fa)=true)(O:Binds X.K fd ps [])(Y:Gm.len Z=n)(D:PA X (a::U) (tEs nm W X.K Z))(l:(x==("__debug__": Str))=false)(L:starEach (a::U) X.env=(false,eval a X.env)::starEach U X.env)(u:(backTo pos (starEach U X.env)).any (·.1)=false) :
 PE X (.Call (.Name x p) (a::U) [] pos) (tE nm W X.K (.call f Z)):=
 PE.of (ax8 (E:=E0) F P y V j O .nil asi D l L u) λi H Q ι o M d C S R e q=>by
  rw[MW.Uv]at e;let(I,N,B,e):=ik e;refine aa2 S R B λT m b le g s r=>?_
  rw[Cu];exact(T,N,I,d,C,g,r,(Nf B).trans Y,e,λG z v J c t=>q G z v (le.trans J) c t)
def a7b(O:Mk X.K C fa)(F:Ii X.prog X.w X.K X.mg X.base CX0 k fa fd ps (spF nm W X.K (n+1) f))(hr:Bh (k+1) X.A)(hg:Gl X x)(hm:X.mg x\(.ref C))(hb:Binds X.K fd ps [])(D:W.cls[U]?\cl)(I:cl.init=f)(V:nm.cls U\C)(G:Gm.len Z=n)(ha:PA X (a::es) (tEs nm W X.K Z))(Uk:(x==("__debug__": Str))=false)(he:starEach (a::es) X.env=(false,eval a X.env)::starEach es X.env)(Kq:(backTo pos (starEach es X.env)).any (·.1)=false) :
 PE X (.Call (.Name x p) (a::es) [] pos) (tE nm W X.K (.make U Z)):=
 PE.of (ax9 (E:=E0) O F hr hg hm hb .nil asi ha Uk he Kq) fun σ H Q ι ρ M d M' S R e q=>by
  rw[MW.afj]at e;let(ds,Y,e1,e):=ik e;rw[D]at e;have e:((W.call cl.init (.ref Y.length::ds) (Y++[.ins U []])).bind λr P=>match r with|.non=>.ok (.ref Y.length) P|_=>.bad)=.ok d M':=e;let(r0,P,e2,e):=ik e;refine aa2 S R e1 λT N vs le S1 R1 r=>λp B hp qq Xv=>?_
  rw[Cu];have keep:∀a u,N a\u->upd (upd N B (.own p)) p (.ins C B []) a\u:=λa u e=>by rw[qm (qt e hp),qm (qt e qq)];exact e
  let(S2,Bq):=S1.new (o:=.ins U []) hp keep λ_=>(C,B,[],V,yr,.nil)
  have rp:Rep X.K (T.add p) (upd (upd N B (.own p)) p (.ins C B [])) (.ref Y.length) (.ref p):=.ref (by show(T.l++[p])[Y.length]?\p;rw[<-S1.len];simp);refine(T.add p,Y++[.ins U []],.ref Y.length::ds,r0,P,S2,.cons rp (r.mono Bq),by rw[ie,Nf e1,G],by rw[<-I];exact e2,λL H' v J S' r'=>?_);cases r'<;>try cases e
  exact(rfl,q L H' _ (le.trans (Bq.trans J)) S' (rp.mono J))
def asu{Y:Nm}{G:Io}{H:Hp}{m:Str}{K:Fg}(T:∀i,Y.fld i≠m){fs:List (Nat×Dv)}{l:List (Str×V)}(h:xg K G H (λk Z=>Z=Y.fld k) fs l):l.lookup m=none:=by
 induction h with
 |nil=>rfl
 |@cons q _ _ _ _ _ hk h t ih =>
  subst hk;rw[qp];have z:(m==Y.fld q)=false:=by
   cases z:m==Y.fld q with
   |false=>rfl|true=>exact absurd (eq_of_beq z).symm (T q)
  rw[z];exact ih
def a7c:PE X (.Dict [] [] pos) (tE nm W X.K .ah8):=PE.of ar8 λB H Q J O M d C S R e q=>by
 rw[MW.aqa]at e;cases e;intro p Y;let(T,G):=S.new (o:=.dT []) (H':=upd H p (.dT [])) Y (λa u e=>by rw[qm (qt e Y)];exact e) λ_=>([],yr,.nil)
 exact q _ _ _ G T (.ref (by show(J.l++[p])[M.length]?\p;rw[<-S.len];simp))
def a7d:PE X (.Dict [] [] pos) (tE nm W X.K .ah9):=PE.of ar7 λB H Q J O M d C S R e q=>by
 rw[MW.aqb]at e;cases e;intro p Y;let(T,G):=S.new (o:=.dK []) (H':=upd H p (.dK [])) Y (λa u e=>by rw[qm (qt e Y)];exact e) λ_=>([],yr,.nil)
 exact q _ _ _ G T (.ref (by show(J.l++[p])[M.length]?\p;rw[<-S.len];simp))
def bix(G:Nm)(K:Fg):a5j:=λo i v H Q=>∃Y M x y d J,o4 G K Y H M/\Rep K Y H x o/\Rep K Y H y i/\Rep K Y H d v/\MW.setOp x y d M\J/\∀T,Le Y H Y T->o4 G K Y T J->Q T
def Zo(h:n<100000):n<sizeLine:=iu h agg
set_option tactic.hygienic true in
def ayv(C:X.A.units+1<cLine):a5k X (bix nm X.K):=by
 intro R s σ H o i v ov iv u Q I Y U F hh;symm
 let(ι,M,x,y,d,M',S,rx,D,J,e,q):=hh;apply _k;obtain⟨j,hx⟩:∃j,x=.ref j:=by cases x<;>first|exact(_,rfl)|cases e
 subst hx;obtain⟨p,rfl,O⟩:∃p,o=.ref p/\ι.l[j]?\p:=by cases rx with|ref z=>exact(_,rfl,z)
 simp only[MW.setOp]at e;split at e
 .rename_i xs B
  split at e
  .rename_i k
   symm
   let(V,P,e2):=dj.mp e;subst e2;cases D;let(vs,L,T):=S.obj j _ p B O;apply _k;refine set_list R s σ H _ _ v ov iv u Q I Y U F (p,vs,k,V,rfl,rfl,L,by rw[<-T.length];exact P,?_);let(N,E):=S.put (u:=.lst (vs.set V v)) (o:=.lst (xs.set V d)) B O λle=>(_,yr,(T.mono le).set (J.mono le) V)
   exact q _ E N
  .cases e
 .rename_i Z B
  let(k,P,e):=iw.mp e;split at e<;>cases e;rename_i W;symm
  let(l,L,T):=S.obj j _ p B O;let(b,rfl,hb):=Zm D P;cases Y;apply _k;refine abv (H':=upd H p (.dT (putK l k v))) (y:=.ref b) (v:=v) C I (ai1.t L hb (by rw[<-T.length];exact Zo W)) U F λs' G=>(_,G,?_)
  let(N,E):=S.put (u:=.dT (putK l k v)) (o:=.dT (MW.Eh Z k d)) B O λle=>(_,yr,(T.mono le).put (J.mono le))
  exact q _ E N
 .rename_i Z B
  let(k,P,e):=iw.mp e;split at e<;>cases e;rename_i W;let(l,L,T):=S.obj j _ p B O;have hy:=ad9 D P;subst hy;cases Y;refine abv (H':=upd H p (.dK (putK l k v))) (y:=kV k) (v:=v) C I (ai1.k L (by rw[<-T.length];exact Zo W)) U F λs' G=>(_,G,?_)
  let(N,E):=S.put (u:=.dK (putK l k v)) (o:=.dK (MW.Eh Z k d)) B O λle=>(_,yr,(T.mono le).put (J.mono le))
  exact q _ E N
 .cases e
def Zq(h:Wj e=true)(t:Expr)(l:Nat)(Y:Env):swapsWithSole [t] e l Y=pure false:=by unfold swapsWithSole;exact Q9 h _ _ _
def asv(e o b:Expr)(p:Pos)(l:Nat)(Y:Env):swapsWithSole [.Subscript o b p] e l Y=pure false:=by cases e<;>rfl
def asw(hu:X.A.units+1<cLine)(Q:PE X a (tE nm W X.K a'))(ho:PE X o (tE nm W X.K o'))(N:PE X b (tE nm W X.K b'))(F:∀v,assign (.Subscript o b pos') X.env v=(do
 let Z<-holding [v] (eval o X.env)
 let U<-holding [v,Z] (eval b X.env)
 standAt pos'
 holding [v,Z,U] (setItem Z U v)
 release [v,Z,U] [])):PS X (.Assign [.Subscript o b pos'] a pos) (tS nm W X.K (.asg (.sub o' b') a')):=
 PS.of (ari Q (a5m ho N (ayv (nm:=nm) hu) F) (asv _ _ _ _ _ _) (by rfl) (by rfl)) λD σ H ι ρ M fl I M' S R e q=>by
  rw[MW.acx]at e;symm
  let(x,M1,e1,e):=ik e;let(qk,M2,T,e):=ik e;cases e;rw[MW.aw9]at T;let(y,M3,E,T):=ik T;let(z,M4,e4,T):=ik T;let(M5,M6,V,e6):=ik T;let(e7,e8):=zb V;subst e8;cases e6;apply _k;refine one S R e1 λP H1 v le S1 R1 r=>?_
  refine one S1 R1 E λqq H2 v2 B O R2 L=>one O R2 e4 λG H3 v3 Y C R3 r3=>?_
  exact(G,_,y,z,x,_,C,L.mono Y,r3,(r.mono B).mono Y,e7,λH' J S'=>q G H' σ (((le.trans B).trans Y).trans J) S' (R3.mono J))
set_option tactic.hygienic true in
def asx(hn:n=nm.fld f)(P:∀c C,nm.cls c\C->Cls X.K C/\Lx X.K C n)(he:PE X a (tE nm W X.K a'))(ho:PE X o (tE nm W X.K o'))(Kq:Wj a=true) :
 PS X (.Assign [.Attribute o n pos'] a pos) (tS nm W X.K (.asg (.fld o' f) a')):=
 PS.of (a6a ho he (Q9 Kq _ _ _)) λD σ H ι ρ M fl qk M' S R e q=>by
  rw[MW.acx]at e;symm
  let(x,M1,e1,e):=ik e;let(qv,M2,L,e):=ik e;cases e;rw[MW.axa]at L;let(y,M3,e3,L):=ik L;let(M5,M6,e5,e6):=ik L;let(T,e8):=zb e5;subst e8;cases e6;apply _k;refine one S R e1 λqq H1 v le S1 R1 r=>one S1 R1 e3 λB H2 v2 A Q R2 r2=>?_
  obtain⟨j,hx⟩:∃j,y=.ref j:=by cases y<;>first|exact(_,rfl)|cases T
  subst hx;obtain⟨p,rfl,Z⟩:∃p,v2=.ref p/\B.l[j]?\p:=by cases r2 with|ref z=>exact(_,rfl,z)
  simp only[MW.Ut]at T;split at T
  .rename_i c fs Y
   symm
   have V:fs.length<1000:=by
    by_cases z:fs.length<1000
    .exact z
    .rw[cz z]at T;cases T
   rw[dm V]at T;cases T;let(C,E,l,F,J,I):=Q.obj j _ p Y Z;subst hn;let(g1,U):=P c C F;apply _k;refine(p,C,E,l,rfl,J,g1,U,by rw[<-I.length];exact V,?_);let(G,O):=Q.put (u:=.ins C E (Kp (nm.fld f) v l)) (o:=.ins c (MW.Ws f x fs)) Y Z λN=>(C,E,_,F,yr,(I.mono N).Kp ((r.mono A).mono N))
   exact q B _ σ ((le.trans A).trans O) G (R2.mono O)
  .cases T
def Dp.weak(h:Dp X f r)(w:∀Z H Q,r' Z H Q->r Z H Q):Dp X f r':=λY s T H Z J Q I G q=>h Y s T H Z J Q I G (w Z H Q q)
def rB(J:Nm)(K:Fg)(b:Blt):List V->Hp->VK->Prop:=λC H Q=>∃G M O d B,o4 J K G H M/\qz K G H O C/\MW.p8 b O M=.ok d B/\∀Y T v,Le G H Y T->o4 J K Y T B->Rep K Y T d v->Q v T
def Dp.of(h:Dp X f r)(w:∀vs H Q U M ds d M',o4 nm X.K U H M->qz X.K U H ds vs->MW.p8 bb ds M=.ok d M'->(∀Z H' v,Le U H Z H'->o4 nm X.K Z H' M'->Rep X.K Z H' d v->Q v H')->r vs H Q):Dp X f (rB nm X.K bb):=
 Dp.weak h λvs H Q z_=>by let(U,M,ds,d,M',S,r,e,q):=z_;exact w vs H Q U M ds d M' S r e q
def agp{X:Cx}:∀U H Q,tE nm W X.K (.blt t Z) U H Q->tCB (rB nm X.K t) (tEs nm W X.K Z) U H Q:=λU H Q O=>by
 symm
 let(z,A,M,d,J,S,R,e,q):=O;rw[MW.Nk]at e;let(C,B,N,e):=ik e;apply _k;exact aa2 S R N λY F D le E I r=>(Y,B,C,d,J,E,r,e,λT L v G P V=>q T L v (le.trans G) P V)
def agq{id:String}(J:Dp X (.builtin id) (rB nm X.K t))(O:Gl X x)(C:X.mg x=none)(N:bootBuiltins x\(.builtin id))(Y:PA X (a::Z) (tEs nm W X.K U))(G:x≠"__name__")(T:(x==("__debug__": Str))=false)(B:starEach (a::Z) X.env=(false,eval a X.env)::starEach Z X.env)(L:(backTo pos (starEach Z X.env)).any (·.1)=false):PE X (.Call (.Name x p) (a::Z) [] pos) (tE nm W X.K (.blt t U)):=PE.weak (ar0 J O C N Y G T B L) agp
def ai8(B:Dp X (.type T) (rB nm X.K t))(C:Gl X x)(N:X.mg x=none)(L:bootBuiltins x\(.type T))(Y:PA X (a::Z) (tEs nm W X.K U))(J:x≠"__name__")(G:(x==("__debug__": Str))=false)(O:starEach (a::Z) X.env=(false,eval a X.env)::starEach Z X.env)(E:(backTo pos (starEach Z X.env)).any (·.1)=false):PE X (.Call (.Name x p) (a::Z) [] pos) (tE nm W X.K (.blt t U)):=PE.weak (anb B C N L Y J G O E) agp
def K8(r:qz K U H ds Z)(h:ds=[d]):∃v,Z=[v]/\Rep K U H d v:=by subst h;cases r with|cons h t=>cases t;exact(_,rfl,h)
def ayw:Dp X (.type "tuple") (rB nm X.K .tuple):=Dp.of aa0 λR H Q J M W d M' S r e q=>by
 cases r with
 |nil=>simp[MW.p8]at e
 |@cons x v _ _ h t =>
  cases t with
  |cons V t2=>simp[MW.p8]at e
  |nil =>
   symm
   have e:Res.wy ((MW.Dk M x).map MW.D.tup) M=.ok d M':=e;let(O,E):=zb e;subst E;let(F,C,rfl):=dj.mp O;let(p,T,rfl,Y,G):=Rq S h C;apply _k;rcases Y with Y|Y
   .refine(p,T,rfl,.inl (Kc.of Y,λl L=>?_))
    let(B,P,N):=Rr S L G;exact q J _ _ P B N
   .exact(p,T,rfl,.inr (O9.of Y,q J H _ (Le.refl _ _) S (.tup Y G)))
def a7e:Dp X (.type "list") (rB nm X.K .list):=Dp.of ad3 λL H Q R M Y d M' S r e q=>by
 cases r with
 |nil=>simp[MW.p8]at e
 |@cons x v _ _ h t =>
  cases t with
  |cons E t2=>simp[MW.p8]at e
  |nil =>
   have e:(match MW.Dk M x with|some Y=>MW.new (.lst Y) M|none=>.bad)=Res.ok d M':=e;cases e3:MW.Dk M x with
   |none=>rw[e3]at e;cases e
   |some P =>
    rw[e3]at e;cases e;symm
    let(p,O,rfl,B,C):=Rq S h e3;apply _k;refine(p,O,rfl,B.imp Kc.of O9.of,λl J=>?_);let(T,N,G):=ad7 S J C;exact q _ _ _ N T G
set_option tactic.hygienic true in
def bdg:Dp X (.builtin "len") (rB nm X.K .len):=Dp.of ad2 λY H Q E M B d M' S r e q=>by
 cases r with
 |nil=>simp[MW.p8]at e
 |@cons x v _ _ h t =>
  cases t with
  |cons G t2=>simp[MW.p8]at e
  |nil =>
   have fin:∀O,(MW.Dk M x\O)->d=.int O.length->M'=M->∃p N,[v]=[V.ref p]/\(Kc X.K H p N\/O9 X.K H p N)/\Q (.int N.length) H:=λO R T F=>by
    subst T F;symm
    let(p,A,rfl,W,I):=Rq S h R;apply _k;exact(p,A,rfl,W.imp Kc.of O9.of,by rw[<-I.length];exact q E H _ (Le.refl _ _) S (.int _))
   cases h with
   |fz T L =>
    cases e;exact(_,_,rfl,.inl T.sq,by rw[<-L.length];exact q E H _ (Le.refl _ _) S (.int _))
   |@ref n p T =>
    have e:(match M[n]? with|some (.lst B)=>Res.ok (MW.D.int B.length) M|_=>.bad)=Res.ok d M':=e;split at e
    .rename_i B P
     cases e;exact fin B (by simp[MW.Dk,MW.gr,P]) rfl rfl
    .cases e
   |tup T L=>cases e;exact fin _ rfl rfl rfl|vl T Z L=>cases e;exact fin _ rfl rfl rfl|_=>cases e
open MW
def Gh(f:Dv->Dv->Option Bool)(as bs:List Dv)(j:Nat):Bool:=match as[j]?,bs[j]? with
 |some a,some b=>(f a b).getD false|_,_=>false
set_option tactic.hygienic true in
theorem Et{f:Dv->Dv->Option Bool}:∀{as bs:List Dv}{r:Bool},MW.Ul f as bs\r->(∀(j:Nat) a b,as[j]?\a->bs[j]?\b->∃c,f a b\c) /\
 r=((List.range (min as.length bs.length)).all (Gh f as bs)&&as.length==bs.length)
 |[],[],r,h=>by cases h;exact(λj a b e=>by simp at e,by simp)
 |[],b::bs,r,h=>by cases h;exact(λj a b e=>by simp at e,by simp)
 |a::as,[],r,h=>by cases h;exact(λj a b _ e=>by simp at e,by simp)
 |a::as,b::bs,r,h=>by
  simp only[MW.Ul]at h;split at h
  .rename_i x y O E
   cases h;let(H,P):=Et E;refine(λj N L T B=>?_,?_)
   .cases j with
    |zero=>simp at T B;subst T B;exact(x,O)|succ j=>exact H j N L (by simpa using T) (by simpa using B)
   .rw[ie,ie,Nat.succ_min_succ,List.range_succ_eq_map,List.all_cons,List.all_map]
    have z:Gh f (a::as) (b::bs) 0=x:=by simp[Gh,O]
    have R:(Gh f (a::as) (b::bs) ∘ Nat.succ)=Gh f as bs:=by funext j;simp[Gh]
    rw[z,R,P];have Q:(as.length+1==bs.length+1)=(as.length==bs.length):=by
     by_cases q:as.length=bs.length
     .simp[q]
     .have:¬(as.length+1=bs.length+1):=by lia
      simp[q,this]
    rw[Q,Bool.and_assoc]
  .cases h
def Va{Y:Io}{H:Hp}{K:Fg}{f:Dv->Dv->Option Bool}(N:∀x y v r,Rep K Y H x v->Rep K Y H y v->f x y\r->r=true){as bs:List Dv}{T:List V}{r:Bool}(a:qz K Y H as T)(b:qz K Y H bs T)(h:MW.Ul f as bs\r):r=true:=by
 induction as generalizing bs T r with
 |nil=>cases a;cases b;cases h;rfl
 |cons x as B =>
  cases a with
  |cons C L =>
   cases b with
   |cons J t2 =>
    simp only[MW.Ul]at h;split at h
    .rename_i G O
     cases h;rw[N _ _ _ _ C J G,B L t2 O];rfl
    .cases h
inductive EqI(M:fc)(f:Dv->Dv->Option Bool):Dv->Dv->Bool->Prop
 |bl (a b:Bool):EqI M f (.bl a) (.bl b) (a==b)
 |int (a b:Int):EqI M f (.int a) (.int b) (decide (a=b))
 |sy (a:MW.Sy):EqI M f (.sy a) (.sy a) true
 |tup {as bs:List Dv} {r:Bool} (h:MW.Ul f as bs\r):EqI M f (.tup as) (.tup bs) r
 |lst {x y:Dv} {as bs:List Dv} {r:Bool} (h1:MW.gr M x\as) (h2:MW.gr M y\bs) (h:(if as.length=bs.length then MW.Ul f as bs else some false)\r):EqI M f x y r
def Jb(h:MW.K9 M (k+1) x y\r):EqI M (MW.K9 M k) x y r:=by
 unfold MW.K9 at h;split at h
 .cases h;exact .int _ _
 .cases h;exact .bl _ _
 .split at h
  .rename_i q
   subst q;cases h;exact .sy _
  .cases h
 .exact .tup h
 .split at h
  .rename_i Y T;exact .lst Y T h
  .cases h
def Xh{X:Cx}(S:o4 nm X.K Z H M)(G:Rep X.K Z H x v)(C:Rep X.K Z H y v)(B:MW.gr M x\ds)(J:MW.gr M y\U):∃vs,qz X.K Z H ds vs/\qz X.K Z H U vs:=by
 symm
 let(p,vs,rfl,L,O):=uy S G B;let(E,P,N,Y,T):=uy S C J;cases N;rw[L]at Y;cases Y;apply _k;exact(vs,O,T)
theorem aeb{C:Nm}{G:Io}{H:Hp}{M:fc}{X:Cx}(S:o4 C X.K G H M):∀(k:Nat)(x y:Dv)(v:V)(r:Bool),Rep X.K G H x v->Rep X.K G H y v->MW.K9 M k x y\r->r=true
 |0,_,_,_,_,_,_,h=>by cases h
 |k+1,x,y,v,r,rx,ry,h=>by
  have B:=aeb S k;cases Jb h with
  |bl a b=>cases rx;cases ry;simp|int a b=>cases rx;cases ry;simp|sy=>rfl
  |tup h=>cases rx with
   |tup N T=>cases ry with
    |tup O Y=>rw[N]at O;cases O;exact Va B T Y h
  |lst E L J =>
   let(P,T,Y):=Xh S rx ry E L;rw[dm (T.length.trans Y.length.symm)]at J;exact Va B T Y J
def Vals.agr{j:Nat}(r:Vals U Z)(J:U[j]?\v)(T:Z[j]?\u):RelV v u:=by let(B,Y,G):=L2.Vals.get r J;rw[T]at Y;cases Y;exact G
def Zr{G:Io}{H:Hp}{K:Fg}{l:List (List Kx×Dv)}{Y:List (List Key×V)}(h:xg K G H (λk Z=>k=Z) l Y):Y.map (·.1)=l.map (·.1):=by
 induction h with
 |nil=>rfl|cons k h t T=>simp[T,k]
def ak2(r:KT H l Z):Z.map (·.1)=l.map (·.1)/\∀x∈Z,H x.2.1\(.tup (x.1.map kV)):=by
 induction r with
 |nil=>exact(rfl,by simp)
 |@cons p q ps qs hq t ih =>
  refine(by simp[ih.1,hq.1],λx Y=>?_);rcases dh.mp Y with rfl|Y
  .rw[<-hq.1];exact hq.2.1
  .exact ih.2 x Y
theorem Zt{nm:Nm}{X:Cx}{Z:Io}{H:Hp}{σ:St}{M:fc}{qk:Zp}{s:Shared}(I:Inv X qk σ H s)(S:o4 nm X.K Z H M):∀(k:Nat)(A:Around)(x y:Dv)(v u:V)(v' u':Value)(r:Bool),Bh k A->Rep X.K Z H x v->Rep X.K Z H y u->RelV v v'->RelV u u'->MW.K9 M k x y\r->SeqAt.EqAt A s v' u' r
 |0,_,_,_,_,_,_,_,_,_,_,_,_,_,h=>by cases h
 |k+1,A,x,y,v,u,v',u',r,hr,rx,ry,rv,ru,h=>by
  have ih:=Zt I S k A.in1;have qv:=hr.in1;have elems:∀(T Y:List Dv)(D F:List V)(is G:Zl)(rr:Bool),qz X.K Z H T D->qz X.K Z H Y F->Vals D is->Vals F G->MW.Ul (MW.K9 M k) T Y\rr ->
   ∀j (R:j<is.toArray.size) (P:j<G.toArray.size),SeqAt.EqAt A.in1 s is.toArray[j] G.toArray[j] (Gh (MW.K9 M k) T Y j):=λT Y D F is G rr rd re Xi qq he j R P=>by
   have l1:j<T.length:=by rw[rd.length,Xi.length];simpa using R
   have l2:j<Y.length:=by rw[re.length,qq.length];simpa using P
   symm
   have N:T[j]?=some T[j]:=by simp[l1]
   have J:Y[j]?=some Y[j]:=by simp[l2]
   let(c,hc):=(Et he).1 j _ _ N J;let(va,a1,a2):=rd.get N;let(wa,b1,b2):=re.get J;have q1:is[j]?=some is.toArray[j]:=by simp
   have q2:G[j]?=some G.toArray[j]:=by simp
   have:=ih _ _ va wa _ _ c qv a2 b2 (Vals.agr Xi a1 q1) (Vals.agr qq b1 q2) hc;have z:Gh (MW.K9 M k) T Y j=c:=by simp[Gh,N,J,hc]
   apply _k;rw[z];exact this
  have Q:∀(p L:Addr)(T Y:List Dv),v=.ref p->u=.ref L->MW.gr M x\T->MW.gr M y\Y->(if T.length=Y.length then MW.Ul (MW.K9 M k) T Y else some false)\r->SeqAt.EqAt A s v' u' r:=λp L T Y hv hu R P O=>by
   subst hv hu;cases rv;cases ru;symm
   let(_,D,hv,N,J):=uy S rx R;cases hv;let(_,F,hw,g3,g4):=uy S ry P;cases hw;apply _k
   by_cases B:p=L
   .subst B
    have:r=true:=by rw[N]at g3;cases g3;rw[dm (J.length.trans g4.length.symm)]at O;exact Va (λx y v r a b c=>aeb S k x y v r a b c) J g4 O
    rw[this];exact SeqAt.EqAt.same _
   .refine SeqAt.EqAt.of_refs B ?_
    symm
    let(is,E,C,_):=I.list (Kc.of N);let(G,W,Ff,_):=I.list (Kc.of g3);apply _k
    by_cases U:T.length=Y.length
    .rw[dm U]at O
     have q0:is.toArray.size=G.toArray.size:=by simp[<-E.length,<-W.length,<-J.length,<-g4.length,U]
     have:=SeqAt.RcAt.lists (e:=Gh (MW.K9 M k) T Y) C.isList Ff.isList q0 hr.Zb (elems T Y D F is G r J g4 E W O);rw[(Et O).2];have e1:is.toArray.size=min T.length Y.length:=by simp[<-E.length,<-J.length,U]
     rw[e1]at this;simpa[U]using this
    .rw[cz U]at O
     cases O;exact SeqAt.RcAt.lists_lengths C.isList Ff.isList (by simp[<-E.length,<-W.length,<-J.length,<-g4.length,U]) hr.Zb
  cases Jb h with
  |bl a b=>cases rx;cases ry;cases rv;cases ru;exact SeqAt.EqAt.bool_bool _ _
  |int a b =>
   cases rx;cases ry;let(t,rfl):=rv;let(t2,rfl):=ru;rw[<-Bool.beq_eq_decide_eq];exact SeqAt.EqAt.int_int _ _ _ _
  |sy a =>
   cases rx;cases ry;let(t,rfl):=rv;let(t2,rfl):=ru;rw[show true=(syV Z.s a==syV Z.s a)by simp];exact SeqAt.EqAt.int_int _ _ _ _
  |@tup T Y _ h=>cases rx with
   |@tup p _ D e1 E=>cases ry with
    |@tup L _ F e2 W =>
     cases rv;cases ru
     by_cases B:p=L
     .subst B
      have:r=true:=by rw[e1]at e2;cases e2;exact Va (λx y v r a b c=>aeb S k x y v r a b c) E W h
      rw[this];exact SeqAt.EqAt.same _
     .refine SeqAt.EqAt.of_refs B ?_
      symm
      let(is,N,C,_):=I.tuple (O9.of e1);let(G,J,Ff,_):=I.tuple (O9.of e2);have:=SeqAt.RcAt.tuples (e:=Gh (MW.K9 M k) T Y) (show s.heap.IsTuple p is.toArray from C) (show s.heap.IsTuple L G.toArray from Ff) hr.Zb (elems T Y D F is G r E W N J h);apply _k;rw[(Et h).2];have z1:is.toArray.size=T.length:=by simp[<-N.length,<-E.length]
      have z2:G.toArray.size=Y.length:=by simp[<-J.length,<-W.length]
      rw[z1,z2]at this;exact this
  |lst R P O =>
   symm
   let(p,_,e1,_):=uy S rx R;let(L,_,e2,_):=uy S ry P;apply _k;exact Q p L _ _ e1 e2 R P O
inductive aec(A:Around)(s:Shared):Value->Value->Bool->Prop
 |Y9 {p p2:Addr} {is js:U1} (e:Nat->Bool) (h1:s.heap.IsTuple p is) (h2:s.heap.IsTuple p2 js) (he:∀j (h1:j<is.size) (h2:j<js.size),SeqAt.EqAt A.in1 s is[j] js[j] (e j)):aec A s (.ref p) (.ref p2) ((List.range (min is.size js.size)).all e&&is.size==js.size)
 |bdi {p p2:Addr} {is js:U1} (e:Nat->Bool) (h1:s.heap.IsList p is) (h2:s.heap.IsList p2 js) (hz:is.size=js.size) (he:∀j (h1:j<is.size) (h2:j<js.size),SeqAt.EqAt A.in1 s is[j] js[j] (e j)):aec A s (.ref p) (.ref p2) ((List.range is.size).all e)
 |lens {p p2:Addr} {is js:U1} (h1:s.heap.IsList p is) (h2:s.heap.IsList p2 js) (hz:(is.size != js.size)=true):aec A s (.ref p) (.ref p2) false
def ab4{A:Around}(I:Inv X pins σ H s)(S:o4 nm X.K ι H M)(Q:Bh k A.in1)(L:qz X.K ι H ds vs)(O:qz X.K ι H Z ws)(C:Vals vs is)(Y:Vals ws U)(R:MW.Ul (MW.K9 M k) ds Z\rr) :
 ∀j (B:j<is.toArray.size) (J:j<U.toArray.size),SeqAt.EqAt A.in1 s is.toArray[j] U.toArray[j] (Gh (MW.K9 M k) ds Z j):=λj B J=>by
 have u:j<ds.length:=by rw[L.length,C.length];simpa using B
 have q:j<Z.length:=by rw[O.length,Y.length];simpa using J
 symm
 have G:ds[j]?=some ds[j]:=by simp[u]
 have T:Z[j]?=some Z[j]:=by simp[q]
 let(c,N):=(Et R).1 j _ _ G T;let(g,y,W):=L.get G;let(F,V,E):=O.get T;have P:is[j]?=some is.toArray[j]:=by simp
 have D:U[j]?=some U.toArray[j]:=by simp
 have:=Zt I S k A.in1 _ _ g F _ _ c Q W E (Vals.agr C y P) (Vals.agr Y V D) N;have z:Gh (MW.K9 M k) ds Z j=c:=by simp[Gh,G,T,N]
 apply _k;rw[z];exact this
def ai9(I:Inv X pins σ H s)(S:o4 nm X.K U H M)(W:Bh k A.in1)(L:Rep X.K U H x v)(V:Rep X.K U H y u)(P:RelV v v')(ru:RelV u u')(R:MW.gr M x\ds)(E:MW.gr M y\Z)(T:(if ds.length=Z.length then MW.Ul (MW.K9 M k) ds Z else some false)\r):aec A s v' u' r:=by
 symm
 let(p,vs,rfl,D,J):=uy S L R;let(p2,ws,rfl,F,N):=uy S V E;cases P;cases ru;let(is,B,G,_):=I.list (Kc.of D);let(Q,O,Ff,_):=I.list (Kc.of F);apply _k
 by_cases Y:ds.length=Z.length
 .rw[dm Y]at T
  have C:is.toArray.size=Q.toArray.size:=by simp[<-B.length,<-O.length,<-J.length,<-N.length,Y]
  have z:=aec.bdi (A:=A) (Gh (MW.K9 M k) ds Z) G.isList Ff.isList C (ab4 I S W J N B O T);rw[(Et T).2];have e1:is.toArray.size=min ds.length Z.length:=by simp[<-B.length,<-J.length,Y]
  rw[e1]at z;simpa[Y]using z
 .rw[cz Y]at T
  cases T;exact .lens G.isList Ff.isList (by simp[<-B.length,<-O.length,<-J.length,<-N.length,Y])
def ags(I:Inv X pins σ H s)(S:o4 nm X.K Z H M)(C:Bh k A.in1)(Y:Rep X.K Z H x v)(T:Rep X.K Z H y u)(J:RelV v U)(N:RelV u u')(h:MW.K9 M (k+1) x y\r) :
 aec A s U u' r\/(a5y v u=true/\r=decide (v=u)):=by
 cases Jb h with
 |bl a b=>cases Y;cases T;exact .inr (rfl,by by_cases z:a=b<;>simp[z])|int a b=>cases Y;cases T;exact .inr (rfl,by by_cases z:a=b<;>simp[z])|sy=>cases Y;cases T;exact .inr (rfl,by simp)
 |@tup ds es _ h=>cases Y with
  |@tup p _ vs e1 r1=>cases T with
   |@tup p2 _ ws e2 r2 =>
    cases J;cases N;symm
    let(is,L,G,_):=I.tuple (O9.of e1);let(B,O,Ff,_):=I.tuple (O9.of e2);have z:=aec.Y9 (A:=A) (Gh (MW.K9 M k) ds es) (show s.heap.IsTuple p is.toArray from G) (show s.heap.IsTuple p2 B.toArray from Ff) (ab4 I S C r1 r2 L O h);apply _k;rw[(Et h).2];have V:is.toArray.size=ds.length:=by simp[<-L.length,<-r1.length]
    have Q:B.toArray.size=es.length:=by simp[<-O.length,<-r2.length]
    rw[V,Q]at z;exact .inl z
 |lst R P E=>exact .inl (ai9 I S C Y T J N R P E)
def aec.rc(h:aec A s v u r)(G:A.units<cLine):SeqAt.RcAt A s v u r/\SeqAt.RcNeAt A s v u (!r):=by
 cases h with
 |Y9 e T Y B=>exact(SeqAt.RcAt.tuples T Y G B,SeqAt.RcNeAt.tuples T Y G B)|bdi e T Y J B=>exact(SeqAt.RcAt.lists T Y J G B,SeqAt.RcNeAt.lists T Y J G B)|lens T Y J=>exact(SeqAt.RcAt.lists_lengths T Y J G,SeqAt.RcNeAt.lists_lengths T Y J G)
def biy(G:Bh 6 X.A):Ez X (compareOp .Eq) (Zj nm X.K .eq):=λY s B H v u C L Q I T J N=>by
 symm
 let(P,M,x,y,b,S,O,E,e,q):=N;have e:MW.K9 M 6 x y\b:=e;apply _k;rcases ags (A:=X.A) I S G.in1 O E T J e with h|⟨h1,h2⟩
 .exact(h.rc G.Zb).1 X.prog X.w X.xe _ (.bl b,H,I,rfl,q)
 .subst h2
  exact bbn Y s B H v u C L Q I T J (h1,q)
def biz(G:Bh 6 X.A):Ez X (compareOp .NotEq) (Zj nm X.K .ne):=λY s B H v u L R Q I T J P=>by
 symm
 let(W,M,x,y,b,S,N,V,e,q):=P;let(O,C,E):=dj.mp (show(MW.Ah M x y).map not\b from e);subst E;apply _k;rcases ags (A:=X.A) I S G.in1 N V T J (show MW.K9 M 6 x y=_ from C)with h|⟨h1,h2⟩
 .exact(h.rc G.Zb).2 X.prog X.w X.xe _ (.bl !O,H,I,rfl,q)
 .subst h2
  exact bbo Y s B H v u L R Q I T J (h1,q)
section
variable{nm:Nm}{W:Kg}{X:Cx}{a b c o:Expr}{a' b' c' o':Ex}{pos pos' apos:Pos}{ι:Io}{H:Hp}{σ:St}{ρ:En}{M M1 M2:fc}{x y:Dv}{es:Ya}{es':Gm}
set_option tactic.hygienic true in
theorem Rt:∀{T:List Dv}{bs:List Bool},MW.Rz M x T\bs->bs.length=T.length/\∀(j:Nat) d,T[j]?\d->∃b,bs[j]?\b/\MW.Ah M d x\b
 |[],bs,h=>by cases h;exact(rfl,λj d e=>by simp at e)
 |y::ys,bs,h=>by
  simp only[MW.Rz]at h;split at h
  .rename_i a b O B
   cases h;let(L,N):=Rt B;refine(by simp[L],λj d e=>?_);cases j with
   |zero=>simp at e;subst e;exact(a,rfl,O)|succ j=>simpa using N j d (by simpa using e)
  .cases h
def ayx(S:o4 nm X.K ι H M)(k:Nat):∀{x y z:Dv}{v:V}{r r':Bool},Rep X.K ι H x v->Rep X.K ι H y v->MW.K9 M k x z\r->MW.K9 M k y z\r'->r=r':=by
 induction k with
 |zero=>intro _ _ _ _ _ _ _ _ h;cases h
 |succ k ih =>
  intro x y z v r r' L E h J;have D:∀{as bs T:List Dv}{R:List V}{r r':Bool},qz X.K ι H as R->qz X.K ι H bs R->MW.Ul (MW.K9 M k) as T\r->MW.Ul (MW.K9 M k) bs T\r'->r=r':=fun{as bs T R r r'} C B h J=>by
   have Z:as.length=bs.length:=C.length.trans B.length.symm;rw[(Et h).2,(Et J).2,Z]
   congr 1
   rw[Cq,jg,jg];have:∀j∈List.range (min bs.length T.length),Gh (MW.K9 M k) as T j=Gh (MW.K9 M k) bs T j:=λj G=>by have G:=jh.mp G;have A:bs[j]?=some bs[j]:=bw (by lia);have Q:T[j]?=some T[j]:=bw (by lia);have F:as[j]?=some as[j]:=bw (by lia);let(c1,P):=(Et h).1 j _ _ F Q;let(c2,N):=(Et J).1 j _ _ A Q;let(v1,p1,U):=C.get F;let(v2,I,p4):=B.get A;rw[p1]at I;cases I;simp only[Gh,A,Q,F,P,N,zp];exact ih U p4 P N
   exact(λq j G=>by rw[<-this j G];exact q j G,λq j G=>by rw[this j G];exact q j G)
  cases Jb h with
  |bl a b=>cases Jb J with
   |bl=>cases L;cases E;rfl|lst _ Y=>cases Y
  |int a b=>cases Jb J with
   |int=>cases L;cases E;rfl|lst _ Y=>cases Y
  |sy=>cases Jb J with
   |sy=>rfl|lst _ Y=>cases Y
  |tup e=>cases Jb J with
   |tup O=>cases L with
    |tup P C=>cases E with
     |tup N B=>rw[P]at N;cases N;exact D C B e O
   |lst _ Y=>cases Y
  |@lst _ _ as T _ h1 Y e=>cases Jb J with
   |@lst _ _ bs _ _ h3 h4 O =>
    rw[Y]at h4;cases h4;let(R,C,B):=Xh S L E h1 h3;rw[show as.length=bs.length from C.length.trans B.length.symm]at e
    by_cases q:bs.length=T.length
    .rw[dm q]at e O;exact D C B e O
    .rw[cz q]at e O;rw[e]at O;cases O;rfl
   |_=>cases Y
def aed(I:Inv X pins σ H s)(S:o4 nm X.K ι H M)(hr:Bh 6 A)(O:qz X.K ι H ds vs)(J:Vals vs is)(D:Rep X.K ι H x u)(ru:RelV u Z)(h:MW.Rz M x ds\bs):∃e:Value->Bool,(∀w,w∈is.toArray->SeqAt.EqAt A s w Z (e w))/\∀(j:Nat)(w:Value),is[j]?\w->bs[j]?\(e w):=by
 let(g1,N):=Rt h;have G:∀(j:Nat)(w:Value),is[j]?\w->∃b,bs[j]?\b/\SeqAt.EqAt A s w Z b:=λj w T=>by
  have L:j<ds.length:=by rw[O.length,J.length];exact(ao.mp T).1
  have gd:ds[j]?=some ds[j]:=by simp[L]
  let(b,B,C):=N j _ gd;let(v,a1,a2):=O.get gd;exact(b,B,Zt I S 6 A _ _ v u w Z b hr a2 D (Vals.agr J a1 T) ru C)
 classical
 refine(λw=>if T:∃j:Nat,is[j]?\w then(bs[T.choose]?).getD false else false,λw T=>?_,λj w T=>?_)
 .let(j,F,e):=qg (by simpa using T:w∈is)
  have Y:∃j:Nat,is[j]?\w:=(j,by simp[F,e]);let(b,B,C):=G Y.choose w Y.choose_spec;simp only[dif_pos Y,B,zp];exact C
 .have Y:∃j:Nat,is[j]?\w:=(j,T)
  let(b,B,C):=G j w T;let(b',Q,e4):=G Y.choose w Y.choose_spec;simp only[dif_pos Y,Q,zp];rw[B]
  congr 1
  have L:j<ds.length:=by rw[O.length,J.length];exact(ao.mp T).1
  have lk:Y.choose<ds.length:=by rw[O.length,J.length];exact(ao.mp Y.choose_spec).1
  have gd:ds[j]?=some ds[j]:=by simp[L]
  have E:ds[Y.choose]?=some ds[Y.choose]:=by simp[lk]
  let(c1,P,q2):=N j _ gd;let(c2,R,q4):=N Y.choose _ E;let(v1,p1,p2):=O.get gd;let(v2,V,p4):=O.get E;have U:v1=v2:=RelV.inj (Vals.agr J p1 T) (Vals.agr J V Y.choose_spec);subst U;rw[B]at P;rw[Q]at R;cases P;cases R;exact ayx S 6 p2 p4 q2 q4
def ayy{is:Zl}{bs:List Bool}(Y:bs.length=is.length)(h:∀(j:Nat) (w:Value),is[j]?\w->bs[j]?\(e w)):bs=is.map e:=by
 apply q9;intro j;rw[ir];cases q:is[j]? with
 |none=>rw[my (by rw[Y];exact List.getElem?_eq_none_iff.mp q)];rfl|some w=>rw[h j w q];rfl
def a2k{b:Bool}(n:Bool)(R:Bh 8 X.A)(S:o4 nm X.K ι H M)(I:Inv X pins σ H s)(P:RelV v v')(ru:RelV u U)(D:Rep X.K ι H x v)(ry:Rep X.K ι H y u)(e:MW.T6 M x y\b)(q:Q (.bl (cond n (!b) b)) H):wpAny (model X.prog X.w) X.A (compareOp (cond n .NotIn .In) v' U) (EP X pins σ Q) X.xe s:=by
 have F:∀B,MW.Dk M y\B->MW.memD M x B\b->wpAny (model X.prog X.w) X.A (compareOp (cond n .NotIn .In) v' U) (EP X pins σ Q) X.xe s:=λB J G=>by
  let(bs,N,V):=dj.mp (show(MW.Rz M x B).map (·.any id)\b from G);let(p,vs,rfl,L,r):=Rq S ry J;cases ru;have fin:∀{is:Zl}{f:Value->Bool},Vals vs is->(∀(j:Nat)(w:Value),is[j]?\w->bs[j]?\(f w))->is.toArray.any f=b:=fun{is f} Y O=>by have:=ayy (by rw[(Rt N).1,r.length,Y.length]) O;rw[this]at V;rw[<-V];simp[List.any_map]
  rcases L with L|L
  .let(is,Y,E,_):=I.list (Kc.of L)
   let(f,C,O):=aed (A:=X.A.in1) I S ((R.mono (by decide:7<=8)).in1) r Y D P N;have a:=fin Y O;subst a;cases n with
   |false=>exact SeqAt.in_listAt f E.isList C (.bl _,H,I,rfl,q)|true=>exact SeqAt.notIn_listAt f E.isList C (.bl _,H,I,rfl,q)
  .let(is,Y,E,_):=I.tuple (O9.of L)
   let(f,C,O):=aed (A:=X.A.in1) I S ((R.mono (by decide:7<=8)).in1) r Y D P N;have a:=fin Y O;subst a;cases n with
   |false=>exact SeqAt.in_tupleAt f (show s.heap.IsTuple p is.toArray from E) C (.bl _,H,I,rfl,q)
   |true=>exact SeqAt.notIn_tupleAt f (show s.heap.IsTuple p is.toArray from E) C (.bl _,H,I,rfl,q)
 have T:(MW.Dk M y).bind (MW.memD M x)\b->wpAny (model X.prog X.w) X.A (compareOp (cond n .NotIn .In) v' U) (EP X pins σ Q) X.xe s:=λe=>by let(B,J,G):=iw.mp e;exact F B J G
 cases y with
 |ref m =>
  cases hM:M[m]? with
  |none=>simp only[MW.T6,hM]at e;exact T e
  |some o=>cases o with
   |dT jf =>
    simp only[MW.T6,hM]at e;let(k,V,e3):=dj.mp e;cases ry with
    |ref N =>
     let(l,J,G):=S.obj m _ _ hM N;let(bb,rfl,hb):=Zm D V;cases ru;have a:b=(Ub l k).isSome:=by
      rw[<-e3];cases hk:MW.Ag jf k with
      |none=>rw[(G.look (k:=k)).2 hk];rfl|some d=>let(z,h3,_):=(G.look (k:=k)).1 d hk;rw[h3];rfl
     subst a;cases n with
     |false=>exact bh8 (aby R) I (Sd.t J hb) P λs' Z=>(.bl _,H,Z,rfl,q)
     |true=>exact aya (aby R) I (Sd.t J hb) P λs' Z=>(.bl _,H,Z,rfl,q)
   |_=>simp only[MW.T6,hM]at e;exact T e
 |_=>exact T e
def bi0(B:Bh 8 X.A):Ez X (compareOp .In) (Zj nm X.K .inn):=λY s σ H v u N L Q I G O J=>by let(ι,M,x,y,b,S,T,C,e,q):=J;exact a2k false B S I G O T C e q
def ayz(O:Bh 8 X.A):Ez X (compareOp .NotIn) (Zj nm X.K .Uq):=λY s σ H v u L E Q I G C J=>by let(ι,M,x,y,c,S,T,N,e,q):=J;let(b,B,rfl):=dj.mp (show(MW.T6 M x y).map not\c from e);exact a2k true O S I G C T N B q
end
open Yd (Fe Vs)
def KH(H:Hp)(x:List Key×Addr):Prop:=H x.2\(.tup (x.1.map kV))/\∀k∈x.1,∃i,k=.inl i
def agt(P:Program)(w:World)(H:Hp):Yd.Vr (ql P w) (KH H):=λx Y k G v n T=>by
 let(i,rfl):=Y.2 k G;rcases Ce (show Y8 (Sum.inl i) v=true from T)with⟨j,t,e,rfl⟩|⟨y,t,e,_⟩
 .unfold hashByValue;rfl
 .cases e
def Wf:∀ks:List Kx,MW.Ry (MW.ap5 ks)\ks:=λks=>by
 show MW.acs (ks.map MW.ap4)\ks
 induction ks with
 |nil=>rfl|cons k ks Y=>cases k<;>simp[MW.acs,MW.ap4,MW.Yq,Y]
theorem Zu:∀{l:List (List Kx×Dv)},MW.Ft (l.map λp=>MW.ap5 p.1)\(l.map (·.1))
 |[]=>rfl|p::l=>by simp[MW.Ft,Wf,Zu]
def ay0{E:Io}{H:Hp}{K:Fg}{G:List Dv}{J:List V}{T:List (List Kx)}(a:qz K E H G J)(h:MW.Ft G\T):∃bs:List Addr,J=bs.map V.ref/\bs.length=T.length/\∀x∈T.zip bs,H x.2\(.tup (x.1.map kV)):=by
 induction G generalizing J T with
 |nil=>cases a;simp[MW.Ft]at h;subst h;exact([],rfl,rfl,by simp)
 |cons d G N =>
  cases a with
  |cons r t =>
   simp only[MW.Ft]at h;split at h
   .rename_i L C
    cases h;symm
    let(b,rfl,e):=Zm r L;let(bs,rfl,O,B):=N t C;apply _k;refine(b::bs,rfl,by simp[O],λx Y=>?_);simp only[List.zip_cons_cons,dh]at Y;rcases Y with rfl|Y
    .exact e
    .exact B x Y
   .cases h
def anu(h:MW.Fv Z=true):Z.length<=30/\∀k∈Z,∀x∈k,∃i,x=Sum.inl i:=by
 simp only[MW.Fv,az,gf,jg]at h;refine(h.1,λk T x Y=>?_);have:=h.2 k T x Y;cases x with
 |inl i=>exact(i,rfl)|inr s=>cases this
set_option tactic.hygienic true in
def asz(hr:Bh 8 X.A)(I:Inv X pins σ H s)(S:o4 nm X.K ι H M)(rx:Rep X.K ι H x v)(ru:RelV v u)(T:MW.keysOf M x\ds)(hd:MW.Ft ds\Y)(pl:MW.Fv Y=true)(h:∀p o n Z,Inv X ((p,o)::pins) σ H Z->Fe (ql X.prog X.w) (KH H) Z.heap p (λk=>k∈Y) n->Z.heap.get? p\o->Q (.ref p) Z) :
 wpAny (model X.prog X.w) X.A (call (.type "set") [u]) Q X.xe s:=by
 let(J,O):=anu pl;have hu:X.A.in1.in1.in1.units+1<cLine:=by have:=hr.un;show X.A.units+1+1+1+1<cLine;lia
 have kept:∀b o,s.heap.get? b\o->(s.heap.push (Yd.Bw X.w)).get? b\o:=λb o e=>au _ e
 have I1:Inv X pins σ H { s with heap:=s.heap.push (Yd.Bw X.w) }:=I.kept (t':=s.toks) kept;have fr:Fe (ql X.prog X.w) (KH H) (s.heap.push (Yd.Bw X.w)) s.heap.objs.size (λ_=>False) 0:=Yd.awj (dg _ rfl);have fin:∀(B:Heap)(C E:Nat),(∀b o,b≠s.heap.objs.size->(s.heap.push (Yd.Bw X.w)).get? b\o->B.get? b\o)->Fe (ql X.prog X.w) (KH H) B s.heap.objs.size (λk=>k∈Y) E->Q (.ref s.heap.objs.size) { s with heap:=B,toks:=C }:=λB C E N G=>by
  symm
  have I2:Inv X pins σ H { s with heap:=B,toks:=C }:=I.kept λb o e=>N b o (gn (cj e)) (kept b o e)
  let(o,es,ep,t,hg,hc,q0,_):=G.get;apply _k;refine h _ o E _ (I2.U6 λq hq=>?_) G hg;rcases dh.mp hq with rfl|hq
  .refine(hg,I.Bv.fresh (bz _),xr I.lt,I.a4t (bz _),λv hv=>?_)
   rw[show o.data=_ from q0]at hv;cases hv
  .exact I2.pin q (jo _ hq)
 have lst:∀p F,v=.ref p->H p\(.lst F)->qz X.K ι H ds F->wpAny (model X.prog X.w) X.A (call (.type "set") [u]) Q X.xe s:=λp F ev hp r=>by
  subst ev;cases ru;symm
  let(is,rv,qk,_):=I1.list (Kc.of hp);let(bs,rfl,U,hz):=ay0 r hd;have q1:is=(Y.zip bs).map λx=>Value.ref x.2:=by
   apply q9;intro j;rw[ir]
   by_cases y:j<bs.length
   .have L:(bs.map V.ref)[j]?\(.ref bs[j]):=by simp[y]
    have P:j<is.length:=by have:=rv.length;simp at this;exact b_ y (f_ this)
    have D:is[j]?=some is[j]:=by simp[P]
    have:=Vals.agr rv L D;rw[D,show is[j]=Value.ref bs[j]from this];have q3:j<Y.length:=b_ y (f_ U)
    have q2:(Y.zip bs)[j]?\(Y[j],bs[j]):=by rw[bw (by simp;lia)];simp
    rw[q2];rfl
   .have P:¬j<is.length:=by have:=rv.length;simp at this;exact j_ (a_ (g_ this) (s_ y))
    rw[my (s_ P),my (by simp;lia)];rfl
  apply _k;refine Yd.Py (R:=λZ=>Q (.ref s.heap.objs.size) Z) ?_ λZ h=>h
  refine Yd.apv (agt _ _ H) (ks:=Y.zip bs) (items:=is.toArray) (by have:=hr.hd;exact this) hu fr qk.isList (by simpa using q1) (λx W=>Q5 I1.Bv (hz x W)) (λx W=>(hz x W,λk T=>O x.1 (Bf (a:=x.1) (b:=x.2) W).1 k T)) (by simp;lia) λB C E N G=>?_
  refine fin B C E N (G.congr λk=>?_);rw[List.map_fst_zip (g_ U)]
 unfold MW.keysOf at T;split at T
 .rename_i n
  split at T
  .rename_i jf hM
   cases T;rw[Zu]at hd;cases hd;cases rx with
   |@ref n p L =>
    symm
    let(l,h1,h2):=S.obj n _ p hM L;cases ru;let(_,qq,xs,qv,dd):=ar3 I1.Bv h1;let(k1,k2):=ak2 qv;have k3:xs.map (·.1)=jf.map (·.1):=k1.trans (Zr h2);apply _k;have hl:xs.length=jf.length:=by have:=t7 List.length k3;simpa using this
    refine Yd.Py (R:=λZ=>Q (.ref s.heap.objs.size) Z) ?_ λZ h=>h
    refine Yd.apr (agt _ _ H) (by have:=hr.un;show X.A.units+1+1<cLine;lia) fr dd qq (λx W=>(k2 x W,λk T=>?_)) (by simp at J;lia) λB E sb G=>?_
    .have:x.1∈jf.map (·.1):=by rw[<-k3];exact bh.mpr (x,W,rfl)
     exact O x.1 this k T
    .refine fin B s.toks E (λb o hb e=>(sb.2 b hb).trans e) (G.congr λk=>?_)
     rw[k3];simp
  .let(p,F,L,D,r):=uy S rx T
   exact lst p F L D r
 .let(p,F,L,D,r):=uy S rx T
  exact lst p F L D r
def bdj(L:Fe (ql P w) (KH H) h p T n)(N:h.get? p\o)(Y:U.get? p\o)(le:∀a Z,H a\(.tup Z)->H' a\(.tup Z))(ok:Tv P w H' U):Fe (ql P w) (KH H') U p T n:=by
 symm
 let(C,J,B,E,t,D,r):=L;have e:J=o:=mj (D.get.symm.trans N);subst e;apply _k;refine(C,J,B,E,t,(Y,D.exa,D.dat,D.tab,D.ent,λx O=>?_,D.nod,D.led,D.pla),r);let(_,G,k2):=D.keys x O;exact(Q5 ok (le _ _ G),le _ _ G,k2)
def agu:MW.Ks xs ys=true↔∀k,k∈xs↔k∈ys:=by
 simp only[MW.Ks,az,jg,Ao,gf];constructor
 .rintro⟨T,J⟩ k
  exact(λh=>by let(y,Y,e):=T k h;rw[<-e];exact Y,λh=>by let(y,Y,e):=J k h;rw[<-e];exact Y)
 .exact λh=>(λx G=>(x,(h x).mp G,rfl),λy Y=>(y,(h y).mpr Y,rfl))
def ay1(E:Bh 8 X.A)(hg:Gl X Z)(hm:X.mg Z=none)(hv:bootBuiltins Z\(.type "set"))(hn:Z≠"__name__")(Uk:(Z==("__debug__": Str))=false)(ha:PA X [a] (tEs nm W X.K (.cons a' .nil)))(hb:PA X [b] (tEs nm W X.K (.cons b' .nil)))(he:starEach [a] X.env=(false,eval a X.env)::starEach [] X.env)(qv:starEach [b] X.env=(false,eval b X.env)::starEach [] X.env)(Kq:(backTo q1 (starEach [] X.env)).any (·.1)=false)(q0:(backTo q2 (starEach [] X.env)).any (·.1)=false) :
 PC X .NotEq (.Call (.Name Z p1) [a] [] q1) (.Call (.Name Z p2) [b] [] q2) (tE nm W X.K (.Yp a' b')):=by
 intro C s σ H Q I hh;symm
 let(ι,ρ,M,d,M',S,R,e,q):=hh;rw[MW.abb]at e;let(x,L,e1,e):=ik e;apply _k;cases hk1:(MW.keysOf L x).bind MW.Ft with
 |none=>rw[hk1]at e;cases e
 |some ks =>
  rw[hk1]at e;simp only at e;split at e
  .rename_i U
   let(y,M2,e2,e):=ik e;cases hk2:(MW.keysOf M2 y).bind MW.Ft with
   |none=>rw[hk2]at e;cases e
   |some ls =>
    rw[hk2]at e;simp only at e;split at e
    .rename_i Ff
     cases e;let(q6,g1,q4):=iw.mp hk1;let(q7,g2,qk):=iw.mp hk2;refine jn (Eg I hg hm hv ?_ hn Uk);refine j0 (Ko (ha q1 C s σ H (λB J=>∃Y v,B=[v]/\Le ι H Y J/\o4 nm X.K Y J L/\Rep X.K Y J x v) I (ι,ρ,M,[x],L,S,R,by simp[e1,Res.bind],λY J B le V r=>?_)) λus s1 z=>?_) he Kq
     .let(v,ev,O):=K8 r rfl
      exact(Y,v,ev,le,V,O)
     symm
     let(B,J,I1,r1,Y,v,rfl,X6,V,rx):=z;apply _k;cases r1 with
     |cons O rn =>
      cases rn;refine asz E I1 V rx O g1 q4 U λp o n s2 I2 hS F=>?_
      refine jn (Eg I2 hg hm hv ?_ hn Uk);refine j0 (Ko (hb q2 _ s2 σ J (λB G=>∃T v,B=[v]/\Le Y J T G/\o4 nm X.K T G M'/\Rep X.K T G y v) I2 (Y,ρ,L,[y],M',V,R.mono X6,by simp[e2,Res.bind],λT G B le N r=>?_)) λus s3 z=>?_) qv q0
      .let(v,ev,O):=K8 r rfl
       exact(T,v,ev,le,N,O)
      symm
      let(B,G,I3,r2,T,v2,rfl,Bq,N,ry):=z;apply _k;cases r2 with
      |cons q3 qq =>
       cases qq;refine asz E I3 N ry q3 g2 qk Ff λp' o' n' s4 P Yk q5=>?_
       have hp:s4.heap.get? p\o:=(P.pin (p,o) (jo _ (bu _ dw))).1;have D:=bdj (H':=G) hS F hp Bq.tup P.Bv;refine Yd.baa (by have:=E.un;show X.A.units+1<cLine;lia) (by have:=E.un;lia) D Yk λc hc=>?_
       have ec:c=!MW.Ks ks ls:=by have:=agu (xs:=ks) (ys:=ls);cases c<;>cases h:MW.Ks ks ls<;>simp_all
       refine(.bl c,G,(P.U6 λz hz=>P.pin z (jo _ (bu _ (bu _ hz)))),rfl,?_);rw[ec];exact q T G _ (X6.trans Bq) N (.bl _)
    .cases e
  .cases e
def rM(J:Nm)(K:Fg)(m:Bm):V->List V->Hp->VK->Prop:=λv C H Q=>∃G M x O d B,o4 J K G H M/\Rep K G H x v/\qz K G H O C/\MW.Lb m x O M=.ok d B /\
 ∀Y T w,Le G H Y T->o4 J K Y T B->Rep K Y T d w->Q w T
theorem ay4{id:String}(hT:∀ι H M x v,o4 nm X.K ι H M->Rep X.K ι H x v->MW.Pq m x M=true->tyV X.K T v H)(pa:PlainAttrs T)(G:Slot T name id)(P:typeOf (.builtin id)=pure (.type "method_descriptor"))(hm:MtR X id (rM nm X.K m))(ho:PE X o (tE nm W X.K o'))(ha:PA X (e::Z) (tEs nm W X.K qq))(J:attributeBase o name X.env (eval o X.env)=eval o X.env)(L:((backTo U (starEach (e::Z) X.env)).all (λx=>!x.1)&&(backToKw U (keywordEach [] X.env)).all (λx=>x.1.isSome)
&&decide ((e::Z).length+([]:List Keyword).length+(if([]:List Keyword).isEmpty then 0 else 1)<30))=true)(C:(apos.endLine==U.line)=true)(hs:starEach (e::Z) X.env=(false,eval e X.env)::starEach Z X.env)(B:(backTo U (starEach Z X.env)).any (·.1)=false) :
 PE X (.Call (.Attribute o name apos) (e::Z) [] U) (tE nm W X.K (.bm m o' qq)):=
 PE.of (bb8 pa G P hm ho ha J L C hs B) fun σ H Q ι ρ M d M' S R e q=>by
  rw[MW.a3t]at e;let(x,V,e1,e):=ik e;split at e
  .rename_i ht
   let(A,I,e2,e):=ik e;exact one S R e1 λY H1 v le D R1 r=>(hT Y H1 V x v D r ht,Y,ρ,V,A,I,D,R1,e2,λN H2 vs F S2 rs=>(N,I,x,A,d,M',S2,r.mono F,rs,e,λO H' w E S' r'=>q O H' w ((le.trans F).trans E) S' r'))
  .cases e
def ak3(h:MW.onL o M f=.ok d M'):∃n Z,o=.ref n/\M[n]?\(.lst Z)/\f n Z=.ok d M':=by
 cases o with
 |ref n =>
  simp only[MW.onL]at h;cases e:M[n]? with
  |none=>rw[e]at h;cases h
  |some o=>cases o with
   |lst Z=>rw[e]at h;exact(n,Z,rfl,e,h)|_=>rw[e]at h;cases h
 |_=>cases h
def aee{Y:List Dv}(h:MW.Pn Y g=.ok d M'):∃x,Y=[x]/\g x=.ok d M':=by
 match Y,h with
 |[x],h=>exact(x,rfl,h)|[],h=>cases h|_::_::_,h=>cases h
def aef{c:Prop}[Decidable c]{r:Res α}(h:(if c then r else .bad)=.ok d M'):c/\r=.ok d M':=by
 by_cases z:c
 .rw[dm z]at h;exact(z,h)
 .rw[cz z]at h;cases h
def ty_list{X:Cx}(S:o4 nm X.K Z H M)(r:Rep X.K Z H x v)(h:(MW.gr M x).isSome=true):tyV X.K "list" v H:=by
 symm
 let(J,Y):=qx.mp h;let(p,T,rfl,G,_):=uy S r Y;apply _k;exact .inl (rfl,T,Kc.of G)
def ay5(e:MW.Lb .index x ds M=.ok d M'):∃U Z j,ds=[U]/\MW.gr M x\Z/\MW.afe M U Z\j/\d=.int ((j:Nat):Int)/\M'=M:=by
 symm
 let(U,rfl,O):=aee e;let(Y,J):=zb O;let(j,T,G):=dj.mp Y;let(Z,B,C):=iw.mp T;apply _k;exact(U,Z,j,rfl,B,C,G.symm,J)
def as3:MtR X "list.append" (rM nm X.K .append):=λY s D H v vs u U Q I ru V L=>by
 symm
 let(ι,M,x,ds,d,M',S,r,O,e,q):=L;let(n,xs,rfl,J,W):=ak3 e;let(d0,rfl,Z):=aee W;let(N,P):=aef Z;cases P;apply _k;cases r with
 |ref G =>
  let(T,R,B):=S.obj n _ _ J G;cases O with
  |cons F A =>
   cases A;refine abw Y s D H _ _ u U Q I ru V (_,T,_,rfl,rfl,R,by rw[<-B.length];exact iu N ⋯,?_);let(C,E):=S.put (u:=.lst (T++[_])) (o:=.lst (xs++[_])) J G λle=>(_,yr,(B.mono le).append (.cons (F.mono le) .nil))
   exact q _ _ _ E C .non
def as4:MtR X "list.extend" (rM nm X.K .extend):=λY s U H v vs u us Q I ru F P=>by
 symm
 let(ι,M,x,ds,d,M',S,r,N,e,q):=P;let(n,xs,rfl,B,A):=ak3 e;let(y,rfl,O):=aee A;apply _k;cases y with
 |vl zs =>
  let(E,V):=aef O;cases V;cases r with
  |ref J =>
   let(G,W,C):=S.obj n _ _ B J;cases N with
   |cons D Z =>
    cases Z;cases D with
    |vl h5 _ T =>
     refine ang Y s U H _ _ u _ Q I ru F (_,_,G,_,rfl,rfl,W,h5,by rw[<-C.length,<-T.length];exact xq (Zo E),?_);let(L,R):=S.put (u:=.lst (G++_)) (o:=.lst (xs++zs)) B J λle=>(_,yr,(C.mono le).append (T.mono le))
     exact q _ _ _ R L .non
 |_=>cases O
def aeg:∀{bs:List Bool}{j:Nat},bs.findIdx? id\j->bs[j]?\true/\∀m,m<j->bs[m]?\false:=fun{bs j} h=>by let(Y,G,J):=t8.mp h;refine(by rw[bw Y];simpa using G,λm T=>?_);have:=J m T;rw[bw (d_ T Y)];simpa using this
def ay6(hr:Bh 8 X.A):MtR X "list.index" (rM nm X.K .index):=λV s σ H v vs u us Q I ru Xi hh=>by
 symm
 let(ι,M,x,ds,d,U,S,r,W,e,q):=hh;let(d0,xs,j,rfl,e1,e2,rfl,rfl):=ay5 e;apply _k;cases W with
 |cons hd ht =>
  cases ht;cases Xi with
  |cons hu B =>
   cases B;symm
   let(bs,C,e4):=iw.mp (show(MW.Rz U d0 xs).bind (·.findIdx? id)\j from e2);let(p,ys,rfl,hp,P):=uy S r e1;cases ru;let(z,is,n,Z,O,N):=I.anf hp;let(f,g1,g2):=aed (A:=X.A.in1) I S ((hr.mono (by decide:7<=8)).in1) P Z hd hu C;let(f1,f2):=aeg e4;have D:=(Rt C).1;have T:is.length=bs.length:=by rw[D,P.length,O]
   apply _k;have L:j<is.length:=by rw[T];exact(ao.mp f1).1
   have E:∀m (Y:m<is.length),bs[m]?\(f is[m]):=λm Y=>g2 m _ (bw Y)
   have hT:s.TypeIs (.ref p) "list":= (_,N,rfl);have G:is.length<=sizeLine:=by rw[<-O];exact z
   rw[ue]at G;refine call_meetsIn F.slot_list_index hT F.entry_list_index (F.args_list_index_2 _ _) (λA R s h=>SeqAt.list_indexAt p is.toArray n none #[] _ f j (by simpa using L) (by lia) ?_ ?_ _ _ A R s h) (N,g1,?_)
   .have:=E j L;rw[f1]at this;simpa using(mj this).symm
   .intro m Y J
    have Y:m<is.length:=by simpa using Y
    have:=E m Y;rw[f2 m J]at this;simpa using(mj this).symm
   .exact(.int j,H,I.tok _,(_,rfl),q ι H _ (Le.refl _ _) S (.int _))
end Sm
namespace Yd
open PySem L2
def SmK(k:List Key):Prop:=∃i j:Int,-1<=i/\i<9/\-1<=j/\j<9/\k=[.inl i,.inl j]
noncomputable def ak4(i j:Int):Int:=reduceHash (Builtin.Tuple.tupleHashOf [hashInt i,hashInt j])
noncomputable def rgI:List Int:=[-1,0,1,2,3,4,5,6,7,8]
def as5:(rgI.all λi=>rgI.all λj=>rgI.all λZ=>rgI.all λU=>(ak4 i j != ak4 Z U)||(i==Z&&j==U))=true:=by decide+kernel
def aeh(Y:-1<=i)(T:i<9):i∈rgI:=by
 have:i=-1\/i=0\/i=1\/i=2\/i=3\/i=4\/i=5\/i=6\/i=7\/i=8:=by lia
 unfold rgI;simp only[dh,yg,or_false];exact this
def as6{P:Program}(h:SmK k)(E:SmK k')(e:tupleKeyHash (ql P w) k=tupleKeyHash (ql P w) k'):k=k':=by
 symm
 let(i,j,C,O,B,G,rfl):=h;let(Y,j',L,T,N,J,rfl):=E;have e:ak4 i j=ak4 Y j':=e;have:=jg.mp (jg.mp (jg.mp (jg.mp as5 i (aeh C O)) j (aeh B G)) Y (aeh L T)) j' (aeh N J);rw[e]at this;simp at this;apply _k;rw[this.1,this.2]
def ajb(Y:IsTupleKey (ql prog w) s.heap Z a)(h:Q false s):wpAny (model prog w) A (Builtin.Dict.quietEq (.ref a)) Q E s:=by
 unfold Builtin.Dict.quietEq;refine aa (wpAny_specialOf Y.typeIs F.slot_tuple_eq.lookup ?_);refine aj ?_;have:(some (Value.builtin "tuple.__eq__")==some (Value.builtin "object.__eq__"))=false:=by decide
 rw[this];exact h
def as7{J:List (List Key×Addr×Value)}(L:(J.map (·.1)).Nodup)(G:∀x∈J,SmK x.1)(T:x∈J) :
 ((J.map (entryOfKey (tupleKind (ql prog w)))).filter (·.hash==tupleKeyHash (ql prog w) x.1)).length<=1:=by
 induction J with
 |nil=>simp
 |cons y P E =>
  rw[f9,ug]at L;rw[f9]
  by_cases C:tupleKeyHash (ql prog w) y.1=tupleKeyHash (ql prog w) x.1
  .have e:=as6 (G y dw) (G x T) C
   have none:(P.map (entryOfKey (tupleKind (ql prog w)))).filter (·.hash==tupleKeyHash (ql prog w) x.1)=[]:=by rw[List.filter_eq_nil_iff];intro z O N;let(B,Y,rfl):=bh.mp O;have N:tupleKeyHash (ql prog w) B.1=tupleKeyHash (ql prog w) x.1:=eq_of_beq (show(tupleKeyHash (ql prog w) B.1==tupleKeyHash (ql prog w) x.1)=true from N);have:=as6 (G B (bu _ Y)) (G x T) N;exact L.1 (bh.mpr (B,Y,this.trans e.symm))
   rw[Aq,none];split<;>simp
  .rw[Aq,cz (by show ¬((tupleKeyHash (ql prog w) y.1==tupleKeyHash (ql prog w) x.1)=true);simpa using C)]
   rcases dh.mp T with rfl|T
   .exact absurd rfl C
   .exact E L.2 (λz O=>G z (bu _ O)) T
def agv{id:String}{T:List (List Key×Addr×Value)}(H:s.heap.get? d\o)(P:o.data=.dict Z U)(J:Z.toList=T.map (entryOfKey (tupleKind (ql prog w))))(N:∀x∈T,IsTupleKey (ql prog w) s.heap x.1 x.2.1)(V:(T.map (·.1)).Nodup)(L:∀x∈T,SmK x.1)(h:Q Z s) :
 wpAny (model prog w) A (Builtin.Dict.entriesForEmpty id d) Q E s:=by
 unfold Builtin.Dict.entriesForEmpty;refine aa (um H P ?_);refine aa ?_;rw[<-Array.forIn_toList];refine qw _ (λY _ B=>B=s/\∀e∈Y,∃x∈T,e=entryOfKey (tupleKind (ql prog w)) x) _ ?_ ?_ _ _ (rfl,λe C=>?_)
 .rintro e Y r B ⟨rfl,O⟩
  let(x,G,rfl):=O e dw;show wpAny _ _ (Builtin.Dict.quietEq (.ref x.2.1)>>=_) _ _ _;refine aa (ajb (N x G) ?_);simp only[Ai,mq];have S:=as7 (prog:=prog) (w:=w) V L G;rw[cz (by
   intro R;have:(Z.filter (·.hash==(entryOfKey (tupleKind (ql prog w)) x).hash)).size=((T.map (entryOfKey (tupleKind (ql prog w)))).filter (·.hash==tupleKeyHash (ql prog w) x.1)).length:=by rw[<-J,<-u5,Array.toList_filter];rfl
   exact l_ R (a_ (f_ this) S))]
  exact aj (rfl,λe J=>O e (bu _ J))
 .rintro b B ⟨rfl,_⟩
  exact aj h
 .rw[J]at C
  let(x,G,rfl):=bh.mp C;exact(x,G,rfl)
def bdk{prog:Program}{w:World}{h T:Heap}{Y:List Key}{p a:Addr}(x:IsTupleKey (ql prog w) h Y p)(G:∀b o,h.get? b\o->T.get? b\o):IsTupleKey (ql prog w) T Y p:=
 let (o,items,n,ho,r):=x;(o,items,n,G p o ho,r)
def bdl(qq:(d==sysModules)=false)(hd:s.heap.DictOfH (tupleKind (ql prog w)) d Z)(hs:∀x∈Z,SmK x.1)(D:Z.length<=sizeLine)(h:∀U,U.DictOfH (tupleKind (ql prog w)) s.heap.objs.size Z->(∀b o,s.heap.get? b\o->U.get? b\o)->Q (.ref s.heap.objs.size) { s with heap:=U }) :
 wpAny (model prog w) A (call (.type "dict") [.ref d]) Q E s:=by
 refine callType_codes (Q₁:=λobj N=>obj=.ref s.heap.objs.size/\N={ s with heap:=s.heap.push { cls:=.type "dict",data:=.dict #[] } }) F.kt_called_dict (F.kt_typeCall_dict_1 _) F.entry_dict_init (kt_code_dict_new _ (rfl,rfl)) ?_;rintro obj N ⟨rfl,rfl⟩;symm
 have qk:=hd.typeIs;let(od,T,qv,P,M,B,O,X,R):=hd;have keep:∀b o,s.heap.get? b\o->(s.heap.push { cls:=.type "dict",data:=.dict #[] }).get? b\o:=λb o e=>au _ e
 have J:(s.heap.push { cls:=.type "dict",data:=.dict #[] }).get? s.heap.objs.size=some { cls:=.type "dict",data:=.dict #[] }:=dg _ rfl;have S:Shared.TypeIs { s with heap:=s.heap.push { cls:=.type "dict",data:=.dict #[] } } (.ref s.heap.objs.size) "dict":= (_,J,rfl);have L:Shared.TypeIs { s with heap:=s.heap.push { cls:=.type "dict",data:=.dict #[] } } (.ref d) "dict":= (od,keep _ _ P,M.1);have C:=keep _ _ P;have K:s.heap.objs.size≠d:=λe=>absurd (cj P) (by rw[e];exact o8 _)
 have G:T.size=Z.length:=size_of_entries O;apply _k;refine(S,F.args_dict_init_2 _ _,?_);unfold Builtin.«dict.__init__»;refine aa ?_;unfold Builtin.Dict.selfAndRest;refine aa (wpAny_notOrdered_dict S ?_);show wpAny _ _ (pure (Prod.mk s.heap.objs.size [Value.ref d])) _ _ _;refine aj ?_;show wpAny _ _ (Builtin.Dict.updateFrom "dict.__init__" s.heap.objs.size (.ref d) [] .none) _ _ _;unfold Builtin.Dict.updateFrom;refine aa (vy L ?_);rw[cz ⋯];refine aa ?_;unfold Builtin.Dict.merge;refine aa ?_;unfold Builtin.Dict.readDirectly;refine aa (o7 L isSubtype_dict_dict ?_);simp only[rm,dq,jq];refine aa (wpAny_specialOf L F.slot_dict_iter.lookup (aj ?_));simp only[Av,mq];refine aa (aj ?_);unfold Builtin.Dict.mergeDict;rw[cz (by simpa using K)];unfold Builtin.Dict.showsAll;rw[cz (by rw[qq];exact zr)];refine aa (aj ?_);refine aa (um C B ?_);have kk:∀{U:Heap},(∀b o,s.heap.get? b\o->U.get? b\o)->∀x∈Z,(tupleKind (ql prog w)).is U x.1 x.2.1:=λhk x hx=>bdk (a:=d) (X x hx) hk
 have H:T=#[]->∀s',s'={ s with heap:=s.heap.push { cls:=.type "dict",data:=.dict #[] } }->wpAny (model prog w) A.in1.in1 (Builtin.Dict.addKeywords s.heap.objs.size []>>=λ_=>ret Value.none) (λfin s'=>match fin with|.done f=>wants (λr Y=>r=Value.none/\Q (.ref s.heap.objs.size) Y) E (.ok f) s'|.again c'=>c'.quiet=true/\codeAny (model prog w) A.in1 c' (wants (λr Y=>r=Value.none/\Q (.ref s.heap.objs.size) Y) E) s') (λe s'=>wants (λr Y=>r=Value.none/\Q (.ref s.heap.objs.size) Y) E (.error e) s') s':=λV s' Rp=>by have I:Z=[]:=Ak.mp (by rw[<-G,V];rfl);subst Rp;refine aa (aj (aj (rfl,h _ (_,#[],0,J,(rfl,rfl,rfl),rfl,?_,kk keep,R) keep)));rw[I];rfl
 dsimp only;split
 .refine aa (um J rfl ?_)
  rw[dm (show(#[]:Array DictEntry).isEmpty=true from rfl)];refine aa (agv C B O (kk keep) R hs ?_);split
  .refine aa (wpAny_updateDictKeysTo J rfl (aj ?_) (by show T.size<=_;exact a_ (f_ G) (a_ D x_)))
   have Zv:∀b o,s.heap.get? b\o->((s.heap.push { cls:=.type "dict",data:=.dict #[] }).update s.heap.objs.size (Obj.mapDictKeys λ_=>T)).get? b\o:=λb o e=>by rw[vo _ _ (lg (gn (cj e)))];exact keep b o e
   refine aa (aj (aj (rfl,h _ (_,T,0+1,ph _ J (Obj.isFreed_of_dict (Obj.data_mapDictKeys rfl _)),(rfl,rfl,rfl),Obj.data_mapDictKeys rfl _,O,kk Zv,R) Zv)))
  .rename_i W
   exact aj (H (Array.isEmpty_iff.mp (by simpa using W)) _ rfl)
 .rename_i hf
  have V:T=#[]:=by
   apply xj;intro W;have hx:Z≠[]:=λe=>W (Array.eq_empty_of_size_eq_zero (by rw[G,e];rfl))
   let(x,ys,rfl):=List.exists_cons_of_ne_nil hx;have Hi:(T.all λe=>(keyPart e.key).isSome)=true:=by simp only[Bool.not_eq_true',Bool.not_eq_false,az]at hf;exact hf.2
   rw[<-Array.all_toList,O,f9,List.all_cons,az]at Hi;exact Bool.noConfusion (Hi.1:(keyPart (.ref x.2.1)).isSome=true)
  refine aa (wpAny_dictEpoch C B ?_);refine aa (um C B ?_);refine aa ?_;rw[V,Std.Legacy.Range.forIn_eq_forIn_range'];simp only[Std.Legacy.Range.size,gw,List.length_nil,Nat.sub_zero,u0,Nat.sub_self,Nat.div_one,List.range'_zero,List.forIn_nil];exact aj (aj (H V _ rfl))
end Yd
namespace Sm
open PySem L2
open MW (Ex Gm OEx Sq Dg p7 Lv Tg Res fc MO Kg Cp Op2 Blt Bm Kx Src)
set_option tactic.hygienic true in
def ay7(h:MW.Vv l=true):∀k∈l.map (·.1),Yd.SmK k:=λk B=>by
 let(p,T,rfl):=bh.mp B;simp only[MW.Vv,jg]at h;have:=h p T;split at this
 .rename_i i j e
  simp only[az,gf]at this;exact(i,j,this.1.1.1,this.1.1.2,this.1.2,this.2,e)
 .cases this
def a7f{X:Cx}(S:o4 nm X.K Z H M)(Y:H p=none)(r:xg X.K Z H (λk k'=>k=k') U l) :
 o4 nm X.K (Z.add p) (upd H p (.dT l)) (M++[.dT U])/\Le Z H (Z.add p) (upd H p (.dT l))/\Rep X.K (Z.add p) (upd H p (.dT l)) (.ref M.length) (.ref p):=by
 let(T,le):=S.new (H':=upd H p (.dT l)) (o:=.dT U) Y (λa u e=>by rw[qm (qt e Y)];exact e) λle=>(l,yr,r.mono le)
 exact(T,le,.ref (by show(Z.l++[p])[M.length]?\p;rw[<-S.len];simp))
def a7g:Dp X (.type "dict") (rB nm X.K .dict):=λL s σ H vs us Q I U R=>by
 let(ι,M,ds,d,M',S,r,e,q):=R;cases r with
 |nil=>simp[MW.p8]at e
 |@cons x v _ _ h t =>
  cases t with
  |cons G t2=>cases x<;>simp[MW.p8]at e
  |nil =>
   cases U with
   |cons ru rn =>
    cases rn;cases h with
    |@ref n p hp =>
     cases ru;have e:(match M[n]? with|some (.dT B)=>if MW.Vv B then MW.new (.dT B) M else .bad|_=>.bad)=.ok d M':=e;split at e
     .rename_i B hM
      split at e
      .rename_i hs
       cases e;let(l,V,G):=S.obj n _ p hM hp;let(z,T,N,Y,W):=ar3 I.Bv V;let(C,k2):=ak2 Y;have P:N.length=l.length:=by have:=t7 List.length C;simpa using this
       refine Yd.bdl T W (λx hx=>?_) (by rw[P];exact z) λh' J keep=>?_
       .refine ay7 hs x.1 ?_
        rw[<-Zr G,<-C];exact bh.mpr (x,hx,rfl)
       .have O:H s.heap.objs.size=none:=I.Bv.fresh (bz _)
        let(E,D,Z):=a7f (X:=X) S O G;refine(.ref s.heap.objs.size,upd H s.heap.objs.size (.dT l),I.laid (a:=s.heap.objs.size) (o:=.dT l) (t':=s.toks) keep (bz _) ?_,rfl,q _ _ _ D E Z);let(o,es,ep,g1,F,g3,g4,g5,A):=J;exact(z,vd.mpr (lg (gn I.big)),N,Y.keeps (λb ys e=>by rw[qm (qt e O)];exact e),o,es,ep,g1,F,g3,g4,A)
      .cases e
     .cases e
    |_=>cases e
def ints_rep{E:Io}{H:Hp}{K:Fg}{Y:List Dv}{T:List V}{is:Zl}{ns:Xs}(a:qz K E H Y T)(b:Vals T is)(h:MW.Xx Y\ns):∃Z:Array (Int×Tok),is.toArray=intItems Z/\Z.toList.map (·.1)=ns:=by
 induction Y generalizing T is ns with
 |nil=>cases a;cases b;cases h;exact(#[],by simp[intItems],rfl)
 |cons d Y N =>
  cases a with
  |cons r t =>
   cases b with
   |cons C J =>
    cases r<;>simp only[MW.Xx]at h<;>try cases h
    symm
    let(S,B,O):=dj.mp h;let(Z,R,L):=N t J B;let(P,rfl):=C;apply _k;refine(#[(i,P)]++Z,?_,by simp[L,O]);have G:=t7 Array.toList R;apply Array.toList_inj.mp;simp[intItems]at G⊢;exact G
theorem agw:∀(l:Xs)(z m:Int),(m=z\/m∈l)->z<=m->(∀a∈l,a<=m)->l.foldl (λm x=>if m<x then x else m) z=m
 |[],z,m,h,_,_=>by rcases h with h|h;exact h.symm;cases h
 |a::l,z,m,h,hz,Hi=>by
  rw[List.foldl_cons];have G:=Hi a dw;refine agw l _ m ?_ (by split<;>lia) (λb T=>Hi b (bu _ T));rcases h with h|h
  .subst h;left;split<;>lia
  .rcases dh.mp h with h|h
   .subst h
    by_cases Y:z<m
    .left;rw[dm Y]
    .left;rw[cz Y];lia
   .exact .inr h
def ak5(e:MW.two ds f g M=.ok d Z):Z=M/\((∃i j,ds=[.int i,.int j]/\d=.int (f i j))\/∃x m,ds=[x]/\g x\m/\d=.int m):=by
 cases ds with
 |nil=>cases e
 |cons x r=>cases r with
  |nil =>
   let(Y,J):=zb (show Res.wy ((g x).map MW.D.int) M=.ok d Z from e);let(m,T,G):=dj.mp Y;exact(J,.inr (x,m,rfl,T,G.symm))
  |cons y r=>cases r with
   |nil =>
    cases x<;>try cases e
    cases y<;>cases e;exact(rfl,.inl (_,_,rfl,rfl))
   |cons _ _=>cases e
def as9{h:List Int->Option Int}(e:MW.two ds f (λd=>((MW.gr M d).bind MW.Xx).bind h) M=.ok d M'):M'=M/\((∃i j,ds=[.int i,.int j]/\d=.int (f i j))\/∃x U n Z m,ds=[x]/\MW.gr M x\U/\MW.Xx U\(n::Z)/\h (n::Z)\m/\d=.int m\/h []\m):=by
 obtain⟨a,b|⟨x,m,T,B,O⟩⟩:=ak5 e
 .exact(a,.inl b)
 .let(Z,J,Y):=iw.mp B
  let(U,C,G):=iw.mp J;cases Z with
  |nil=>exact(a,.inr (x,U,0,[],m,.inr Y))|cons n Z=>exact(a,.inr (x,U,n,Z,m,.inl (T,C,G,Y,O)))
def Wk(h:Vals [v] Z):∃u,Z=[u]/\RelV v u:=L2.Vals.one h
def ab5(h:i<Z.size):(Z.toList.map (·.1))[i]?\(numAt Z i):=by simp[numAt,h]
def best{Y:Array (Int×Tok)}{R:Int->Int->Prop}(J:Y.toList.map (·.1)=n::l)(h:b<Y.size)(O:∀i,i<Y.size->R (numAt Y i) (numAt Y b)):(numAt Y b=n\/numAt Y b∈l)/\∀a∈n::l,R a (numAt Y b):=by
 constructor
 .have:=bf (ab5 h)
  rw[J]at this;exact dh.mp this
 .intro a G
  rw[<-J]at G;let(i,T):=vg.mp G;have B:i<Y.size:=by have:=(ao.mp T).1;simpa using this
  rw[ab5 B]at T;cases T;exact O i B
def ak6(r:qz K U H [.int i,.int j] Z):Z=[.int i,.int j]:=by
 cases r with
 |cons T G=>cases G with
  |cons Y t2=>cases t2;cases T;cases Y;rfl
def ay8(I:Inv X pins σ H s)(S:o4 nm X.K ι H M)(r:qz X.K ι H [x] U)(J:Vals U us)(G:MW.gr M x\xs)(C:MW.Xx xs\(n::ns)):∃a Z,us=[.ref a]/\s.heap.IsList a (intItems Z)/\Z.toList.map (·.1)=n::ns/\0<Z.size:=by
 symm
 let(v,rfl,N):=K8 r rfl;let(u,rfl,L):=Wk J;let(p,R,rfl,P,O):=uy S N G;cases L;let(is,Y,B,_):=I.list (Kc.of P);let(Z,E,T):=ints_rep O Y C;apply _k;refine(_,Z,rfl,by rw[<-E];exact B.isList,T,?_);have:=t7 List.length T;simp at this;lia
def bdm(O:X.calm=true):Dp X (.builtin "max") (rB nm X.K .max):=λY s F H vs Z Q I J L=>by
 symm
 let(C,M,ds,d,M',S,r,e,q):=L;apply _k;obtain⟨rfl,⟨i,j,rfl,rfl⟩|⟨x,xs,n,l,m,⟨rfl,W,D,T,rfl⟩|T⟩⟩:=as9 (h:=MW.a3r) e
 .cases ak6 r
  exact am6 O Y s F H _ Z Q I J (i,j,rfl,q C H _ (Le.refl _ _) S (.int _))
 .symm
  let(a,B,rfl,A,E,P):=ay8 I S r J W D;apply _k;refine max_intList (I.ok.hd O) A P λw h' tk V keep=>?_
  symm
  let(t,rfl):=intItems_at V;let(b1,N):=argBest_gt (numAt B) (B.size-1);let(U,G):=best (R:=(·<=·)) E (by omega) λi hi=>N i (by lia)
  cases T;rw[agw l n _ U (G n dw) λa h=>G a (bu _ h)]at q;apply _k;exact(.int _,H,I.kept keep,(t,rfl),q C H _ (Le.refl _ _) S (.int _))
 .cases T
def agx(n d:Nat)(o:Option Int):HT.sIx n d o=MW.clip n d o:=by
 cases o with
 |none=>rfl
 |some i =>
  show(if i<0 then(i+(n:Int)).toNat else min i.toNat n)=(if 0<=i then min i.toNat n else(i+(n:Int)).toNat)
  by_cases h:i<0
  .rw[dm h,cz (by lia)]
  .rw[cz h,dm (by lia)]
def tO(J:Nm)(W:Kg)(K:Fg)(o:OEx):TO:=λC H Q=>∃G B M d O,o4 J K G H M/\ym K G H B C/\o.den W B M=.ok d O/\∀Y T,Le G H Y T->o4 J K Y T O->Q d T
def PO.weak(h:PO X e t)(w:∀Z H Q,t' Z H Q->t Z H Q):PO X e t':=λY s Z H Q I q=>h Y s Z H Q I (w Z H Q q)
def PO.of(h:PO X e t)(w:∀σ H Q U ρ M d M',o4 nm X.K U H M->ym X.K U H ρ σ->o'.den W ρ M=.ok d M'->(∀Z H',Le U H Z H'->o4 nm X.K Z H' M'->Q d H')->t σ H Q):PO X e (tO nm W X.K o'):=PO.weak h fun σ H Q z_=>by let(U,ρ,M,d,M',S,R,e,q):=z_;exact w σ H Q U ρ M d M' S R e q
def ay9:PO X none (tO nm W X.K .none):=PO.of ayc λT H Q Y G M d J S R e q=>by rw[MW.amo]at e;cases e;exact q Y H (Le.refl _ _) S
set_option tactic.hygienic true in
def aza(B:PE X a (tE nm W X.K Z)):PO X (some a) (tO nm W X.K (.some Z)):=PO.of (ayd B) λE H Q I P M d V S R e q=>by rw[MW.amq]at e;let(x,F,O,e):=ik e;split at e<;>cases e;rename_i i;exact one S R O λT L v le N A r=>by cases r;exact(i,rfl,q T L le N)
def bdn(f:PE X a (tE nm W X.K a'))(t:PO X lo (tO nm W X.K Z))(k:PO X hi (tO nm W X.K U)):PE X (.Subscript a (.Slice lo hi none p2) pos) (tE nm W X.K (.cut a' Z U)):=
 PE.of (asa aye f t k) fun σ H Q ι z M d I S R e q=>by
  rw[MW.aw2]at e;let(x,m,i,e):=ik e;let(l,y,e2,e):=ik e;let(h,M3,o,e):=ik e;let(n,s):=zb e;subst s;refine one S R i λO H1 v le S1 u r=>(O,z,m,l,y,S1,u,e2,λL H2 G c=>(L,z,y,h,_,c,u.mono G,o,λE A T F=>?_))
  have r3:=(r.mono G).mono T;have fin:=λC b w P S' r'=>q C b w (((le.trans G).trans T).trans P) S' r'
  have lst:∀Y,MW.gr I x\Y->d=.vl (MW.aic Y l h)->bb6 X.K v l h A Q:=λY N J=>by
   let(p,g,rfl,hp,j):=uy F r3 N;refine(p,g,rfl,Kc.of hp,λp' B=>?_);have:qz X.K E A (MW.aic Y l h) (ane g l h):=by unfold MW.aic ane;rw[agx,agx,<-j.length];exact(j.drop _).take _
   let(S4,V,r4):=ad6 (X:=X) F B this;subst J;exact fin _ _ _ V S4 r4
  let(Y,N,J):=dj.mp (show(MW.gr I x).map (λY=>MW.D.vl (MW.aic Y l h))\d from n);exact lst Y N J.symm
def Vb(K:Fg)(T:String):PySem.W.kitOne K (.type T) (.type T)\true:=by unfold PySem.W.kitOne;rw[dm (by simp)]
def bdo{bt bv bi:Option Bool}(ht:∀b,bt\b->PySem.W.kitOne X.K (.type "tuple") (.type T)\b)(hl:∀b,bv\b->PySem.W.kitOne X.K (.type "list") (.type T)\b)(hi:∀b,bi\b->PySem.W.kitOne X.K (.type "int") (.type T)\b)(hb:∀d M,MW.p8 t [d] M=MW.isR bt bv bi M d)(hg:Gl X n)(hm:X.mg n=none)(hv:bootBuiltins n\(.builtin "isinstance"))(hn:n≠"__name__")(Uk:(n==("__debug__": Str))=false)(L:Gl X Z)(F:X.mg Z=none)(P:bootBuiltins Z\(.type T))(Xw:Z≠"__name__")(V:(Z==("__debug__": Str))=false)(ha:PE X a (tE nm W X.K a'))(he:starEach [a,.Name Z U] X.env=(false,eval a X.env)::starEach [.Name Z U] X.env)(A:starEach [.Name Z U] X.env=(false,eval (.Name Z U) X.env)::starEach [] X.env)(Kq:(backTo pos (starEach [.Name Z U] X.env)).any (·.1)=false):PE X (.Call (.Name n p) [a,.Name Z U] [] pos) (tE nm W X.K (.blt t (.cons a' .nil))):=by
 intro G s D H Q I hh;symm
 let(ι,ρ,M,d,M',S,R,e,q):=hh;rw[MW.Nk]at e;let(ds,E,O,e):=ik e;rw[MW.Jd]at O;let(x,M2,e2,O):=ik O;rw[MW.Uw]at O;cases O;apply _k;refine jn (Eg I hg hm hv ?_ hn Uk);refine xu (Q:=EP X G D Q) ?_ he Kq;rw[he];show wpAny _ _ (spliced ((false,eval a X.env)::backTo pos (starEach [.Name Z U] X.env))) _ _ s;refine mz (R9 (ha G s D H (λv J=>∃Y,Le ι H Y J/\o4 nm X.K Y J E/\Rep X.K Y J x v) I (ι,ρ,M,x,E,S,R,e2,λY J v le S1 r=>(Y,le,S1,r))) λu C v J I1 N z_=>?_);let(Y,le,S1,r):=z_;rw[A];show wpAny _ _ (spliced ((false,eval (.Name Z U) X.env)::backTo pos (starEach [] X.env))) _ _ C;refine mz (Eg I1 L F P ?_ Xw V);refine uh ?_;symm
 have e:MW.p8 t [x] E=.ok d M':=e;rw[hb]at e;let(e4,rfl):=zb e;let(b,B,rfl):=dj.mp e4;have fin:∀tk,EP X G D Q (.bool b) { C with toks:=tk }:=λtk=>(.bl b,J,I1.tok _,rfl,q Y J _ le S1 (.bl b))
 apply _k;cases r with
 |@tup p ds us h1 rr =>
  cases(show u=Value.ref p from N);symm
  let(_,_,_,o,g1,g2,_):=(show Ci X.prog X.w J C.heap p (.tup us)from I1.Bv p _ h1);apply _k;exact PySem.W.kia_one PySem.W.kitx_tuple I1.kIn (o,g1,g2) (ht b B) (λz=>nomatch z) fin
 |@vl p ds us h1 _ rr =>
  cases(show u=Value.ref p from N);let(_,_,n,_,g):=(show Ci X.prog X.w J C.heap p (.lst us)from I1.Bv p _ h1);exact PySem.W.kia_one PySem.W.kitx_list I1.kIn (_,g,rfl) (hl b B) (λz=>nomatch z) fin
 |int i=>let(t,q):=(show ∃t,u=Value.int i t from N);cases q;exact PySem.W.kia_one PySem.W.kitx_int I1.kIn True.intro (hi b B) (λz=>nomatch z) fin
 |sy h=>let(t,q):=(show ∃t,u=Value.int _ t from N);cases q;exact PySem.W.kia_one PySem.W.kitx_int I1.kIn True.intro (hi b B) (λz=>nomatch z) fin
 |_=>cases B
def bdp(O:X.calm=true):Dp X (.builtin "min") (rB nm X.K .min):=λY s T H L C Q I J B=>by
 let(N,M,P,d,E,S,r,e,q):=B;obtain⟨rfl,⟨i,j,rfl,rfl⟩|⟨x,m,_,G,_⟩⟩:=ak5 e
 .cases ak6 r
  exact am7 O Y s T H _ C Q I J (i,j,rfl,q N H _ (Le.refl _ _) S (.int _))
 .cases G
def aa3{n:Nat}(H:A.handled=none)(I:IsRange s.heap r a b c t u v)(X:Builtin.Range.small a b c=true)(D:Builtin.Range.rangeSize a b c=n)(J:n<=2^24)(V:∀(U:Heap) (tk:Nat) (Z:U1),(∀b o,s.heap.get? b\o->U.get? b\o)->ItemsOf (λi v=>∃t,v=.int (a+i*c) t) Z n->Q Z.toList { s with heap:=U,toks:=tk }):wpAny (model prog w) A (collect (.ref r)) Q E s:=by
 unfold collect;refine aa (wpAny_runValue (qd F.entry_proto_collect ?_));rw[m7 F.plain_proto_collect _];show wpAny _ A.in1 (newList []>>=λl=>again (.builtin "list.__iadd__" ([l,.ref r],[]))) _ _ s;refine aa (uo ?_);refine aj (plainId_quiet F.plain_list_iadd _,qd F.entry_list_iadd ?_);rw[m7 F.plain_list_iadd _];show wpAny _ A.in1 (Builtin.List.listExtendWith (.ref s.heap.objs.size) (.ref r) (.ref s.heap.objs.size)) _ _ _;have keep:∀b o,s.heap.get? b\o->(s.heap.push { cls:=.type "list",data:=.seq ([]:Zl).toArray }).get? b\o:=λb o e=>au _ e
 have P:(s.heap.push { cls:=.type "list",data:=.seq ([]:Zl).toArray }).get? s.heap.objs.size=some { cls:=.type "list",data:=.seq #[] 0 }:=dg _ rfl;have ext:=wpAny_extend_range (prog:=prog) (w:=w) (A:=A) (R:=λC s'=>∃(U:Heap)(tk:Nat)(Z:U1)(Y:Nat),C=.ok (.ret (.ref s.heap.objs.size))/\s'={ s with heap:=U,toks:=tk }/\(∀b o,s.heap.get? b\o->U.get? b\o)
 /\U.get? s.heap.objs.size=some { cls:=.type "list",dict:=none,data:=.seq Z Y,slots:=#[] }/\ItemsOf (λi v=>∃t,v=.int (a+i*c) t) Z n)
  (s:={ s with heap:=s.heap.push { cls:=.type "list",data:=.seq ([]:Zl).toArray } }) H (keep _ _ I) X D J s.heap.objs.size (.ref s.heap.objs.size) 0 P
  λU tk Z Y hk hS K=>(U,tk,Z,Y,rfl,rfl,λb o e=>hk b o (gn (cj e)) (keep b o e),hS,K)
 have T:∀{C:Result}{s':Shared},(∃(U:Heap)(tk:Nat)(Z:U1)(Y:Nat),C=.ok (.ret (.ref s.heap.objs.size))/\s'={ s with heap:=U,toks:=tk }/\(∀b o,s.heap.get? b\o->U.get? b\o)
 /\U.get? s.heap.objs.size=some { cls:=.type "list",dict:=none,data:=.seq Z Y,slots:=#[] }/\ItemsOf (λi v=>∃t,v=.int (a+i*c) t) Z n)->∃(U:Heap)(tk:Nat)(Z:U1)(Y:Nat),C=.ok (.ret (.ref s.heap.objs.size))/\s'={ s with heap:=U,toks:=tk }/\U.get? s.heap.objs.size=some { cls:=.type "list",dict:=none,data:=.seq Z Y,slots:=#[] }/\Q Z.toList s':=λz=>by let(U,tk,Z,Y,G,S,W,O,B):=z;exact(U,tk,Z,Y,G,S,O,by rw[S];exact V U tk Z W B)
 refine kj ext (λfin s' L=>?_) (λe s' M=>?_)
 .cases fin with
  |done f =>
   let(U,tk,Z,Y,G,rfl,O,B):=T L;cases G;exact aa (wpAny_load O (aj B))
  |again Y =>
   refine(L.1,yj L.2 λC qq N=>?_);let(U,tk,Z,Y,G,rfl,O,B):=T N;subst G;exact aa (wpAny_load O (aj B))
 .let(_,_,_,_,G,_):=T M
  cases G
def Wl{n:Nat}(N:A.handled=none)(J:IsRange s.heap r a b c t u v)(B:Builtin.Range.small a b c=true)(P:Builtin.Range.rangeSize a b c=n)(Y:n<=2^24)(h:∀(U:Heap) (tk:Nat) (acc:U1),(∀b o,s.heap.get? b\o->U.get? b\o)->ItemsOf (λi v=>∃t,v=.int (a+i*c) t) acc n->Z (.ref U.objs.size) { s with heap:=U.push { cls:=.type "tuple",data:=.seq acc },toks:=tk }) :
 codeAny (model prog w) A (.call (.builtin "tuple.__new__") ([.type "tuple",.ref r],[])) (wants Z E) s:=by
 refine codeAny_of_tree ?_;show wpAny _ A.in1 (do checkBuiltinCall "tuple.__new__" ([.type "tuple",.ref r],[]);again (.builtin "tuple.__new__" ([.type "tuple",.ref r],[]))) _ _ s;refine aa (wpAny_of_eq (F.newCall_tuple_1 _) (aj (plainId_quiet F.plain_tuple_new _,qd F.entry_tuple_new ?_)));rw[m7 F.plain_tuple_new _];have L:=sub_tuple_self;have C:=init_tuple_lookup;have R:=madeHere_tuple;have T:s.TypeIs (.ref r) "range":= (_,J,rfl)
 wp_walk using vy T,aa3 (A:=A.in1) N J B P Y
 intro U tk acc O G;show wpAny _ _ (Builtin.Tuple.tupleExact acc.toList.toArray>>=λv=>ret v) _ _ _;unfold Builtin.Tuple.tupleExact;refine aa (uo ?_ (by show acc.toList.toArray.size<=sizeLine;simp only[Array.toArray_toList];rw[G.1,ue];exact Y));refine aj ?_;have e:acc.toList.toArray=acc:=by simp
 rw[e];exact h U tk acc O G
def Wm{n:Nat}(N:A.handled=none)(L:IsRange s.heap r a b c t u v)(B:Builtin.Range.small a b c=true)(P:Builtin.Range.rangeSize a b c=n)(G:n<=2^24)(J:∀(U:Heap) (tk:Nat) (Z:U1),(∀b o,s.heap.get? b\o->U.get? b\o)->ItemsOf (λi v=>∃t,v=.int (a+i*c) t) Z n->Q (.ref U.objs.size) { s with heap:=U.push { cls:=.type "tuple",data:=.seq Z },toks:=tk }) :
 wpAny (model prog w) A (call (.type "tuple") [.ref r]) Q E s:=by
 refine callType_codes (Q₁:=λobj Y=>Y.TypeIs obj "tuple"/\Q obj Y) F.called_tuple (F.typeCall_tuple_1 _) F.entry_object_init
  (Wl (A:=A.in1) N L B P G λU tk Z O C=>((_,dg _ rfl,rfl),J U tk Z O C)) λobj Y T=>?_
 exact(T.1,F.args_object_init_2 obj _,object_init_meets F.called_tuple.init.lookup F.called_tuple.made ⋯ prog w A.in1 _ Y (T.1,rfl,T.2))
def Zx(h:ItemsOf (λi v=>∃t,v=.int (0+(i:Int)*1) t) acc n):Vals ((List.range n).map λ(k:Nat)=>V.int (k:Int)) acc.toList:=by
 have go:∀(l:Zl)(k:Nat),(∀(j:Nat)(v:Value),l[j]?\v->∃t,v=Value.int ((k+j:Nat):Int) t)->Vals ((List.range' k l.length).map λ(k:Nat)=>V.int (k:Int)) l:=by
  intro l
  induction l with
  |nil=>intro k _;exact .nil
  |cons v l G =>
   intro k T;rw[ie,List.range'_succ,f9];refine .cons ?_ (G (k+1) λj v Y=>?_)
   .exact T 0 v rfl
   .let(t,e):=T (j+1) v (by simpa using Y)
    exact(t,by rw[e];congr 1;lia)
 have:=go acc.toList 0 (λj v Y=>by
  let(t,e):=h.2 j v (by simpa using Y);exact(t,by rw[e];congr 1;lia))
 rw[u5,h.1,<-List.range_eq_range']at this;exact this
def Zy(n:Nat):qz K Z H ((List.range n).map λ(k:Nat)=>MW.D.int (k:Int)) ((List.range n).map λ(k:Nat)=>V.int (k:Int)):=by
 generalize List.range n=l
 induction l with
 |nil=>exact .nil|cons k l Y=>exact .cons (.int _) Y
set_option tactic.hygienic true in
def a7h(hr:Bh 8 X.A)(hg:Gl X n)(hm:X.mg n=none)(hv:bootBuiltins n\(.type "tuple"))(hn:n≠"__name__")(Uk:(n==("__debug__": Str))=false)(F:Gl X Z)(J:X.mg Z=none)(D:bootBuiltins Z\(.type "range"))(Xw:Z≠"__name__")(G:(Z==("__debug__": Str))=false)(ha:PA X [a] (tEs nm W X.K (.cons a' .nil)))(he:starEach [.Call (.Name Z p') [a] [] Y] X.env=(false,eval (.Call (.Name Z p') [a] [] Y) X.env)::starEach [] X.env)(Kq:(backTo q1 (starEach [] X.env)).any (·.1)=false)(U:starEach [a] X.env=(false,eval a X.env)::starEach [] X.env)(y:(backTo Y (starEach [] X.env)).any (·.1)=false) :
 PE X (.Call (.Name n p) [.Call (.Name Z p') [a] [] Y] [] q1) (tE nm W X.K (.aib a')):=by
 intro T s P H Q I hh;symm
 let(ι,ρ,M,d,M',S,R,e,q):=hh;rw[MW.aqc]at e;let(x,M1,e1,e):=ik e;apply _k;split at e<;>try cases e
 rename_i i;split at e<;>cases e;rename_i hi;refine jn (Eg I hg hm hv ?_ hn Uk);refine j0 (Q:=EP X T P Q) ?_ he Kq;rw[he];show wpAny _ _ (spliced ((false,eval (.Call (.Name Z p') [a] [] Y) X.env)::backTo q1 (starEach [] X.env))) _ _ s;refine mz ?_;refine jn (Eg I F J D ?_ Xw G);refine j0 (Ko (ha Y T s P H (λvs O=>∃B,vs=[.int i]/\Le ι H B O/\o4 nm X.K B O M') I (ι,ρ,M,[.int i],M',S,R,by simp[e1,Res.bind],λB O vs le S1 r=>?_)) λus N (vs,O,I1,r1,B,C,X6,S1)=>?_) U y
 .let(v,C,rv):=K8 r rfl
  cases rv;exact(B,C,le,S1)
 subst C;symm
 let(u,rfl,ru):=Wk r1;let(t,rfl):=ru;apply _k;refine call_range_1 ?_;show wpAny _ _ (spliced []) _ _ _;refine uh ?_;have keep:∀b o,N.heap.get? b\o->(N.heap.push { cls:=.type "range",data:=.fields #[.int 0 N.toks,.int i t,.int 1 (N.toks+1)] }).get? b\o:=λb o e=>au _ e
 refine Wm (n:=i.toNat) hr.hd (dg _ rfl) (small_one (by lia) (by lia) (by lia) (by omega)) (by rw[rangeSize_one];split<;>lia) (by lia) λL tk E hk Gx=>?_
 have I2:Inv X T P O { N with heap:=L,toks:=tk }:=I1.kept λb o e=>hk b o (keep b o e)
 have hz:((List.range i.toNat).map λ(k:Nat)=>V.int (k:Int)).length<=sizeLine:=by simp[ue];omega
 have hf:O L.objs.size=none:=I2.Bv.fresh (bz _);have I3:Inv X T P (upd O L.objs.size (.tup ((List.range i.toNat).map λ(k:Nat)=>V.int (k:Int)))) { N with heap:=L.push { cls:=.type "tuple",data:=.seq E },toks:=tk }:=
  I2.laid (a:=L.objs.size) (t':=tk) (λb o e=>au _ e) (bz _) (show Ci X.prog X.w _ _ _ (.tup _)from(hz,E.toList,Zx Gx,by simpa using L2.aaw.new _ _))
 let(S2,Bq,r2):=Rr (X:=X) S1 hf (Zy i.toNat);exact(.ref L.objs.size,_,I3,rfl,q B _ _ (X6.trans Bq) S2 r2)
end Sm
namespace EnT
open PySem PySem.Spec
open AutoSeq1 (wpAny_loadPart')
def ata(a:s.heap.IsTupleIter it t i)(b:s.heap.IsTuple t U)(e:U[i]?\x)(q:∀Z,Z.IsTupleIter it t (i+1)->Heap.SameBut it s.heap Z->Q x { s with heap:=Z }):wpAny (model prog w) A (Builtin.SmallTypes.nextOf (.ref it)) Q E s:=by let(o,T,G,Y):=id a;let(O,J,C,N,B):=b;unfold Builtin.SmallTypes.nextOf;refine aa (m8 (name:=Str.ofString "__next__") a.typeIs wk (jt wk a.typeIs F.entry_tuple_iterator_next ?_ (F.args_tuple_iterator_next_1 _)));show wpAny _ _ (field (.ref it) 0>>=_) _ _ s;refine aa (jx T Y (x:=.ref t) rfl ?_);show wpAny _ _ (if(Value.ref t==Value.none)=true then _ else field (.ref it) 1>>=_) _ _ s;rw[cz (show ¬((Value.ref t==Value.none)=true)by exact zr)];refine aa (jx T Y (x:=.int i 0) rfl (aa (ur J B ?_)));simp only[wz,e];refine aa (wpAny_setField T Y (by simp) (aj (x,rfl,aj (q _ (_,ph _ T (Obj.isFreed_of_fields (Obj.data_mapFields Y _)),(Obj.cls_mapFields ..).trans G,?_) (jz ..)))));rw[Obj.data_mapFields Y];simp[rawInt]
def azd(G:A.handled=none)(a:s.heap.IsTupleIter it t i)(b:s.heap.IsTuple t U)(e:U[i]?=none)(q:∀Z x,Heap.ExtBut it s.heap Z->(∃o,Z.get? x\o/\o.cls=.type "StopIteration")->E (.ref x) { s with heap:=Z }):wpAny (model prog w) A (Builtin.SmallTypes.nextOf (.ref it)) Q E s:=by let(o,Y,N,T):=id a;let(O,J,C,L,B):=b;unfold Builtin.SmallTypes.nextOf;refine aa (m8 (name:=Str.ofString "__next__") a.typeIs wk (jt wk a.typeIs F.entry_tuple_iterator_next ?_ (F.args_tuple_iterator_next_1 _)));show wpAny _ _ (field (.ref it) 0>>=_) _ _ s;refine aa (jx Y T (x:=.ref t) rfl ?_);show wpAny _ _ (if(Value.ref t==Value.none)=true then _ else field (.ref it) 1>>=_) _ _ s;rw[cz (show ¬((Value.ref t==Value.none)=true)by exact zr)];refine aa (jx Y T (x:=.int i 0) rfl (aa (ur J B ?_)));simp only[wz,e];refine aa (o6 (aa (wpAny_setField Y T (by simp) ?_)));show wpAny _ _ (newExc (.type "StopIteration") []>>=raiseNew) _ _ _;exact Yd.aj4 G λZ x k e=>q Z x (λb o n z=>k b o ((jz ..).extBut b o n z)) e
def ItB(b:Bool)(h:Heap)(it a:Addr)(i:Nat):Prop:=cond b (h.IsTupleIter it a i) (h.IsListIter it a i)
def SqB(b:Bool)(h:Heap)(a:Addr)(Y:U1):Prop:=cond b (h.IsTuple a Y) (h.IsList a Y)
def ItB.at(x:ItB b h it a i)(k:∀o,h.get? it\o->Z.get? it\o):ItB b Z it a i:=by
 cases b with
 |true=>let(o,e,r):=x;exact(o,k o e,r)
 |false=>let(o,e,r):=x;exact(o,k o e,r)
def ItB.obj(x:ItB b h it a i):∃o,h.get? it\o/\∀v,o.data≠.cell v:=by
 cases b with
 |true=>let(o,e,c,d):=x;exact(o,e,λv z=>by rw[d]at z;cases z)
 |false=>let(o,e,c,d):=x;exact(o,e,λv z=>by rw[d]at z;cases z)
def agy(a:ItB b s.heap it t i)(c:SqB b s.heap t U)(e:U[i]?\x)(q:∀Z,ItB b Z it t (i+1)->Heap.SameBut it s.heap Z->Q x { s with heap:=Z }):wpAny (model prog w) A (Builtin.SmallTypes.nextOf (.ref it)) Q E s:=by
 cases b with
 |true=>exact ata a c e q|false=>exact wpAny_nextOf_list_item a c e q
def ak7(Y:A.handled=none)(a:ItB b s.heap it t i)(c:SqB b s.heap t U)(e:U[i]?=none)(q:∀Z x,Heap.ExtBut it s.heap Z->(∃o,Z.get? x\o/\o.cls=.type "StopIteration")->E (.ref x) { s with heap:=Z }):wpAny (model prog w) A (Builtin.SmallTypes.nextOf (.ref it)) Q E s:=by
 cases b with
 |true=>exact azd Y a c e q|false=>exact wpAny_nextOf_list_end Y a c e q
def aze{i:Nat}{Q:Y1}(S:IsEnum s.heap e it i old)(a:ItB b s.heap it t i)(c:SqB b s.heap t xs)(l:xs[i]?\x)(F:e≠it)(q:∀Z,IsEnumOut Z e it ((i:Int)+1) x s.heap.objs.size->ItB b Z it t (i+1)->Z.get? s.heap.objs.size=some { cls:=.type "tuple",data:=.seq #[.int i s.toks,x] }->Z.objs.size=s.heap.objs.size+1 ->
 (∀y o,y≠e->y≠it->s.heap.get? y\o->Z.get? y\o)->Q (.ref s.heap.objs.size) { s with heap:=Z,toks:=s.toks+1 }) :
 wpAny (model prog w) A (Builtin.«enumerate.__next__» ([.ref e],[])) (λfin U=>∃v,fin=.done (.ret v)/\Q v U) E s:=by
 let(T,g,d,L,X):=s;show wpAny _ _ (field (.ref e) 2>>=_) _ _ _;refine aa (jx S rfl (x:=.ref it) rfl (aa (agy a c l λh1 k J=>?_)));have J:Heap.SameBut it T h1:=J;have V:IsEnum h1 e it i old:=(J.2 e F).trans S;refine aa (jx V rfl (x:=rawInt i) rfl (aa (jx V rfl (x:=.none) rfl (aa (wpAny_mkInt ?_)))));show wpAny _ _ (setField (.ref e) 3 (rawInt ((i:Int)+1))>>=_) _ _ (h1,g,d,L+1,X);refine aa (jr V (by simp) λh2 D P=>?_);have P:Heap.SameBut e h1 h2:=P;have D:IsEnum h2 e it ((i:Int)+1) old:=D;refine aa (jr D (by simp) λh3 R O=>?_);have O:Heap.SameBut e h2 h3:=O;have R:IsEnum h3 e it ((i:Int)+1) old:=R;refine aa (wpAny_newTuple ?_);have I:h3.objs.size=T.objs.size:=by rw[O.1,P.1,J.1]
 obtain⟨Y,B⟩:∃Y,Y=h3.push { cls:=.type "tuple",data:=.seq #[.int i L,x] }:=(_,rfl);have W:IsEnum Y e it ((i:Int)+1) old:=by rw[B];exact au _ R
 have p:Y.get? T.objs.size=some { cls:=.type "tuple",data:=.seq #[.int i L,x] }:=by rw[B,<-I];exact dg _ rfl
 have r:Y.objs.size=T.objs.size+1:=by rw[B,jm,I]
 have k3:∀y o,y≠e->h1.get? y\o->Y.get? y\o:=λy o G z=>by rw[B];exact au _ (O.extBut y o G (P.extBut y o G z))
 have j:ItB b Y it t (i+1):=k.at λo z=>k3 it o (lg F) z
 have lt:e<T.objs.size:=cj S
 show wpAny _ _ (Builtin.SmallTypes.ownedTupleIsFree (.ref e)>>=_) _ _ (h3.push _,g,d,L+1,X);rw[I,<-B];refine aa ?_;unfold Builtin.SmallTypes.ownedTupleIsFree;refine aa (jx W rfl (x:=.none) rfl (aj ?_));simp only[mq];refine aa (o6 (aa (jx W rfl (x:=old) rfl (aa (jr W (by simp) λh5 H C=>?_)))));have C:Heap.SameBut e Y h5:=C;have H:IsEnum h5 e it ((i:Int)+1) x:=H;refine aa ?_;unfold Builtin.SmallTypes.ownedTupleHandOut;refine aa (jr H (by simp) λh6 K N=>?_);have N:Heap.SameBut e h5 h6:=N;have K:IsEnumOut h6 e it ((i:Int)+1) x T.objs.size:=K;refine jr K (by simp) λh7 f s7=>?_
 have s7:Heap.SameBut e h6 h7:=s7;have M:∀y o,y≠e->Y.get? y\o->h7.get? y\o:=λy o G z=>s7.extBut y o G (N.extBut y o G (C.extBut y o G z))
 exact aa (wpAny_letGo (aj (_,rfl,q h7 f (j.at λo z=>M it o (lg F) z) (M _ _ (xr lt) p) (by rw[s7.1,N.1,C.1,r]) λy o u m z=>M y o u (k3 y o u (J.extBut y o m z)))))
def azf{i:Nat}(Y:IsEnum s.heap e it i old)(a:ItB b s.heap it t i)(c:SqB b s.heap t U)(G:U[i]?\x)(J:e≠it)(q:∀Z,IsEnumOut Z e it ((i:Int)+1) x s.heap.objs.size->ItB b Z it t (i+1)->Z.get? s.heap.objs.size=some { cls:=.type "tuple",data:=.seq #[.int i s.toks,x] }->Z.objs.size=s.heap.objs.size+1 ->
 (∀y o,y≠e->y≠it->s.heap.get? y\o->Z.get? y\o)->Q (some (.ref s.heap.objs.size)) { s with heap:=Z,toks:=s.toks+1 }):wpAny (model prog w) A (pyNext (.ref e)) Q E s:=by
 have T:s.TypeIs (.ref e) "enumerate":= (_,Y,rfl);unfold pyNext;refine aa (xf (m8 (name:=Str.ofString "__next__") T za (jt za T F.entry_enumerate_next ?_ (F.args_enumerate_next_1 _))));exact aze Y a c G J λZ N L C B O=>aj (q Z N L C B O)
def azg{i:Nat}(O:A.handled=none)(Y:IsEnum s.heap e it i old)(a:ItB b s.heap it t i)(c:SqB b s.heap t U)(J:U[i]?=none)(q:∀Z,Heap.ExtBut it s.heap Z->Q none { s with heap:=Z }):wpAny (model prog w) A (pyNext (.ref e)) Q E s:=by have G:s.TypeIs (.ref e) "enumerate":= (_,Y,rfl);unfold pyNext;refine aa (xf (m8 (name:=Str.ofString "__next__") G za (jt za G F.entry_enumerate_next ?_ (F.args_enumerate_next_1 _))));show wpAny _ _ (field (.ref e) 2>>=_) _ _ _;refine aa (jx Y rfl (x:=.ref it) rfl (aa (ak7 O a c J λZ z k z_=>?_)));let(o,B,C):=z_;exact aa (o7 (T :="StopIteration") (b:=true) (o,B,C) isSubtype_stop (aj (q _ k)))
set_option tactic.hygienic true in
def azh(t:Addr)(xs:U1)(n:Nat)(B:Option Addr)(Q:Array (Option Value)) :
 Meets (Builtin.«enumerate.__new__» ([.type "enumerate",.ref t],[])) (λ_ R s=>s.heap.get? t=some { cls:=.type "tuple",dict:=B,data:=.seq xs n,slots:=Q } /\
  R (.ok (.ret (.ref (s.heap.push { cls:=.type "tuple_iterator",data:=.fields #[.ref t,.int 0 0] }).objs.size)))
   { s with heap:=(s.heap.push { cls:=.type "tuple_iterator",data:=.fields #[.ref t,.int 0 0] }).push { cls:=.type "enumerate",data:=.fields #[.none,.bool false,.ref s.heap.objs.size,rawInt 0,.none,.none] } }):=
 .of_wp λprog w A R s h=>by
  let(N,g,d,E,P):=s;let(T,h):=h;have L:=sub_enumerate;have O:Heap.IsTuple (Shared.heap (N,g,d,E,P)) t xs:=(_,T,rfl,n,rfl)
  wp_walk using wpAny_loadPart' T
  refine wpAny_stack_any λst=>aj ?_
  split
  .rename_i c _ _ _ _ _
   cases(c==Value.type "enumerate")<;>(wp_walk using wpAny_loadPart' T,wpAny_pyIter_tuple O)<;>exact(_,rfl,h)
  .wp_walk using wpAny_loadPart' T,wpAny_pyIter_tuple O
   exact(_,rfl,h)
def atb(c:s.heap.IsTuple t U)(q:∀Z,IsEnum Z (s.heap.objs.size+1) s.heap.objs.size 0 .none->Z.IsTupleIter s.heap.objs.size t 0->Z.objs.size=s.heap.objs.size+2 ->
 (∀y o,s.heap.get? y\o->Z.get? y\o)->Q (.ref (s.heap.objs.size+1)) { s with heap:=Z }):wpAny (model prog w) A (call (.type "enumerate") [.ref t]) Q E s:=by
 let((N,J,O,L),C,G,n,T):=c;have G:N=.type "tuple":= G;have T:O=.seq U n:=T;subst G T;have Y:(s.heap.push { cls:=.type "tuple_iterator",data:=.fields #[.ref t,.int 0 0] }).objs.size=s.heap.objs.size+1:=jm ..;refine callType_new F.called_enumerate ⋯ (F.typeCall_enumerate_1 _) (F.newCall_enumerate_1 _) (λobj=>F.args_object_init_2 obj _) F.entry_enumerate_new (azh t U n J L) (C,?_);show _/\_;rw[Y];have B:IsEnum ((s.heap.push { cls:=.type "tuple_iterator",data:=.fields #[.ref t,.int 0 0] }).push { cls:=.type "enumerate",data:=.fields #[.none,.bool false,.ref s.heap.objs.size,rawInt 0,.none,.none] }) (s.heap.objs.size+1) s.heap.objs.size 0 .none:=by rw[<-Y];exact dg _ rfl
 exact((_,B,rfl),q _ B (_,au _ (dg _ rfl),rfl,rfl) (by rw[jm,Y]) λy o z=>au _ (au _ z))
end EnT
namespace L2
open PySem PySem.Spec EnT
def Inv.ab7{ch:X9}(I:Inv X pins σ H s)(T:∀b∈ch,Xp X pins H b)(k:∀b o,b∉ch->s.heap.get? b\o->U.get? b\o)(O:s.heap.objs.size<=n)(new:Ci X.prog X.w (upd H n (.tup Z)) U n (.tup Z)):Inv X pins σ (upd H n (.tup Z)) { s with heap:=U,toks:=t' }:=by
 have fr:H n=none:=I.Bv.fresh O;have G:∀b u,H b\u->b∉ch:=λb u e z=>by rw[(T b z).1]at e;cases e
 have B:∀b o,s.heap.get? b\o->b≠n:=λb o e=>gn (iu (cj e) O)
 refine I.step (g':=s.gens) (d':=s.drawn) (ch:=ch) (λb J=>((T b J).2.2.2.1,(T b J).2.1,(T b J).2.2.2.2.1,(T b J).2.2.2.2.2)) (λb o _ _ Y e _=>k b o Y e) (λb o _ _ Y e _=>(o.slots,k b o Y e)) (λb o _ e L=>by rw[qm (B b o e)];exact L)
  (λb o Y e=>(o,k b o Y e)) (λb N e=>by rw[qm (qt e fr)];exact e) (λb o u e=>by rw[qm (qt e fr)];exact e) (λm E=>?_) (λb u e=>?_) I.bare
 .let(o,C,R,P,r):=E
  exact(o,C,R,k _ o (λz=>(T _ z).2.1 rfl) P,r)
 .by_cases z:b=n
  .subst z;rw[yr]at e;cases e;exact new
  .rw[qm z]at e
   refine(I.Bv b u e).stay (λc v Y q=>k c v ?_ q) (λc q=>by rw[qm (qt q fr)];exact q) λc N q=>by rw[qm (qt q fr)];exact q
   rcases Y with y|y
   .rw[y];exact G b u e
   .exact G c _ y
def Inv.ak8{ch:X9}(I:Inv X pins σ H s)(T:∀b∈ch,Xp X pins H b)(k:∀b o,b∉ch->s.heap.get? b\o->Z.get? b\o):Inv X pins σ H { s with heap:=Z,toks:=t' }:=by
 have G:∀b u,H b\u->b∉ch:=λb u e z=>by rw[(T b z).1]at e;cases e
 refine I.step (g':=s.gens) (d':=s.drawn) (ch:=ch) (λb J=>((T b J).2.2.2.1,(T b J).2.1,(T b J).2.2.2.2.1,(T b J).2.2.2.2.2)) (λb o _ _ Y e _=>k b o Y e) (λb o _ _ Y e _=>(o.slots,k b o Y e)) (λb o _ e O=>O)
  (λb o Y e=>(o,k b o Y e)) (λb E e=>e) (λb o u e=>e) (λm C=>?_) (λb u e=>?_) I.bare
 .let(o,B,L,N,r):=C
  exact(o,B,L,k _ o (λz=>(T _ z).2.1 rfl) N,r)
 .refine(I.Bv b u e).stay (λc v Y q=>k c v ?_ q) (λ_ q=>q) λ_ _ q=>q
  rcases Y with y|y
  .rw[y];exact G b u e
  .exact G c _ y
def SqX(b:Bool)(K:Fg)(H:Hp)(a:Addr)(Y:List V):Prop:=cond b (O9 K H a Y) (Kc K H a Y)
def Inv.anv(I:Inv X pins σ H s)(h:SqX b X.K H a U):∃Z,Vals U Z/\SqB b s.heap a Z.toArray:=by
 cases b with
 |true=>let(Z,Y,p,T):=I.tuple h;exact(Z,Y,show s.heap.IsTuple a Z.toArray from p)
 |false=>let(Z,Y,p,T):=I.list h;exact(Z,Y,p.isList)
def Inv.ag0(I:Inv X pins σ H s)(h:SqX b X.K H a Z)(g:SqX b X.K H a ys):Z=ys:=by
 cases b with
 |true=>exact I.abl h g|false=>exact I.af3 h g
def Ien(b:Bool)(K:Fg)(a:Addr):It:=
 (λi H=>∃Y x,SqX b K H a Y/\Y[i]?\x,λi H v T=>∃p x,v=.ref p/\H p=none/\T=upd H p (.tup [.int (i:Nat),x])/\∀Y,SqX b K H a Y->Y[i]?\x,λi H=>∃Y,SqX b K H a Y/\Y.length<=i)
theorem azi(a e it:Addr)(F:e≠it):Turn P w K (.Tuple ts k0 pt) (Ien b K a) [e,it] e (λi h=>(∃Z,IsEnum h e it ((i:Nat):Int) Z)/\ItB b h it a i)where
 mem:=by simp
 obj:=λi h st c Y=>by
  let((Z,T),G):=st;rcases dh.mp Y with z|z
  .subst z;exact(_,T,λv z=>by cases z)
  .have z:c=it:=by simpa using z
   subst z;exact G.obj
 keep:=λi h h' st k=>by let((Z,T),G):=st;exact((Z,k e (by simp) _ T),G.at λo z=>k it (by simp) o z)
 item:=by
  intro X W Q L Y i J s σ H E I O st V;subst W Q L;symm
  let(xs,x,C,N):=V;let(yt,R,p):=I.anv C;let(u,hu,ru):=R.get N;let((Z,T),G):=st;have lt:e<s.heap.objs.size:=cj T
  apply _k;refine azf T G p (x:=u) (by simpa using hu) F λD o1 a1 t1 n1 k1=>(_,rfl,?_)
  refine wpAny_letOwnedTupleGo_enum o1 λh2 o2 B=>?_
  have B:Heap.SameBut e D h2:=B;have t2:h2.get? s.heap.objs.size=some { cls:=.type "tuple",data:=.seq #[.int i s.toks,u] }:=(B.2 _ (xr lt)).trans t1;refine(.ref s.heap.objs.size,upd H s.heap.objs.size (.tup [.int (i:Nat),x]),I.ab7 (t':=s.toks+1) O (λc o Y z=>?_) (bz _) (by show 2<=sizeLine;decide,[.int i s.toks,u],.cons (s.toks,rfl) (.cons ru .nil),(_,t2,rfl,_,rfl,rfl)),rfl,
   (_,x,rfl,I.Bv.fresh (bz _),rfl,λys hy=>by rw[I.ag0 hy C];exact N),((u,?_),a1.at λo z=>B.extBut it o (lg F) z),λc Y=>?_)
  .have M:c≠e:=λz=>Y (by simp[z])
   have U:c≠it:=λz=>Y (by simp[z])
   exact B.extBut c o M (k1 c o M U z)
  .have q:((i+1:Nat):Int)=(i:Int)+1:=by push_cast;rfl
   rw[q];exact o2
  .have S:c<s.heap.objs.size:=by
    rcases dh.mp Y with z|z
    .rw[z];exact lt
    .have z:c=it:=by simpa using z
     let(o,z2,_):=G.obj;rw[z];exact cj z2
   rw[qm (gn S)];exact(O c Y).1
 done:=by
  intro X W Q L Y i J s σ H E I O st V;subst W Q L;symm
  let(xs,C,N):=V;let(yt,R,p):=I.anv C;let((Z,T),G):=st;have A:=R.length;apply _k;refine azg (I.ok.hd Y) T G p (by simp;exact a_ (g_ A) N) λh' eb=>(rfl,I.ak8 (t':=s.toks) O λc o Y z=>eb c o (λy=>Y (by simp[y])) z)
 self:=λ_ _ _ _ _ st h=>by let((Z,T),G):=st;exact wpAny_pyIter_enum T h
def bdr(W:Gl X "enumerate")(E:X.mg "enumerate"= none)(S:PA X [a] ta)(L:starEach [a] X.env=[(false,eval a X.env)]) :
 PI X (.Tuple ts k0 pt) (.Call (.Name "enumerate" p) [a] [] pos) (λU H R=>ta U H λvs Z=>∃b q,vs=[.ref q]/\(∃xs,SqX b X.K Z q xs)/\R (Ien b X.K q) Z):=by
 intro G s U H R I h;refine PyProof.Rows.Call_ (Eg I W E (show bootBuiltins "enumerate"\(.type "enumerate")by decide+kernel) (j0 (Ko (S pos G s U H _ I h) λM Y (vs,Z,I1,r1,q1)=>?_) L rfl));symm
 let(b,q,rfl,(xs,Q),P):=q1;apply _k;cases r1 with
 |cons r N =>
  cases N;cases r;let(D,F,p):=I1.anv Q;have fin:∀T,IsEnum T (Y.heap.objs.size+1) Y.heap.objs.size 0 .none->ItB b T Y.heap.objs.size q 0->(∀y o,Y.heap.get? y\o->T.get? y\o) ->
   wpAny (model X.prog X.w) X.A (pyIter (.ref (Y.heap.objs.size+1))) (PIE X G U (.Tuple ts k0 pt) R) X.xe { Y with heap:=T }:=λT J O B=>by
   refine wpAny_pyIter_enum J ?_;refine(Y.heap.objs.size+1,[Y.heap.objs.size+1,Y.heap.objs.size],_,_,Z,rfl,I1.kept (t':=Y.toks) B,azi (b:=b) q _ _ (Nat.succ_ne_self _),((.none,J),O),λc V=>?_,P);have C:Y.heap.objs.size<=c:=by
    rcases dh.mp V with z|z
    .rw[z];exact v9 _
    .have z:c=Y.heap.objs.size:=by simpa using z
     rw[z];exact bz _
   exact I1.ark C (I1.Bv.fresh C)
  cases b with
  |true=>exact atb p λT J O _ B=>fin T J O B
  |false=>exact call_enumerate_list p λT J O _ B=>fin T J O B
end L2
namespace EnT
open PySem PySem.Spec
noncomputable def tpN(Y:Zl):Obj:={ cls:=.type "tuple",data:=.seq Y.toArray }
structure ZN(b:Nat->Bool)(h0:Heap)(n:Nat)(ls:Y3)(f0:Value)(ov:Zl)(k d:Nat)(g:Heap):Prop where
 z:IsZip g (n+ls.length+2) (n+ls.length) (n+ls.length+1) f0
 o:g.get? (n+ls.length+1)\(tpN ov)
 a:∀(j:Nat) l,ls[j]?\l->ItB (b l) g (n+j) l (if j<d then k+1 else k)
 low:∀c o,(c<n\/c=n+ls.length\/n+ls.length+2<c)->h0.get? c\o->g.get? c\o
def SqB.lt(x:SqB b h a Z):a<h.objs.size:=by
 cases b with
 |true=>let(o,c,_):=x;exact cj c
 |false=>let(o,c,_):=x;exact cj c
def SqB.at(x:SqB b h a xs)(e:∀o,h.get? a\o->Z.get? a\o):SqB b Z a xs:=by
 cases b with
 |true=>let(o,c,d):=x;exact(o,e o c,d)
 |false=>let(o,c,d):=x;exact(o,e o c,d)
def ag2{Y:Y3}{j:Nat}(h:Y[j]?\l):j<Y.length:=(ao.mp h).1
def ZN.sz(H:ZN b h0 n ls f0 Z k d g)(e:Heap.ExtBut (n+ls.length+2) g g')(z:IsZip g' (n+ls.length+2) (n+ls.length) (n+ls.length+1) f1):ZN b h0 n ls f1 Z k d g':=
 (z,e _ _ (by lia) H.o,λj l h=>(H.a j l h).at λo=>e _ o (by have:=ag2 h;lia),λc o Y z=>e _ _ (by lia) (H.low c o Y z))
def ZN.so(H:ZN b h0 n ls f0 Z k d g)(e:Heap.ExtBut (n+ls.length+1) g g')(z:g'.get? (n+ls.length+1)\(tpN ow)):ZN b h0 n ls f0 ow k d g':=
 (e _ _ (by lia) H.z,z,λj l h=>(H.a j l h).at λo=>e _ o (by have:=ag2 h;lia),λc o Y z=>e _ _ (by lia) (H.low c o Y z))
def ZN.sa(H:ZN b h0 n ls f0 Z k d g)(T:d<ls.length)(e:Heap.ExtBut (n+d) g g')(z:∀l,ls[d]?\l->ItB (b l) g' (n+d) l (k+1)):ZN b h0 n ls f0 Z k (d+1) g':=
 (e _ _ (by lia) H.z,e _ _ (by lia) H.o,λj l h=>by
  by_cases c:j=d
  .subst c;rw[dm (by lia)];exact z l h
  .have:=H.a j l h
   have i:(if j<d+1 then k+1 else k)=if j<d then k+1 else k:=by
    by_cases q:j<d
    .rw[dm q,dm (by lia)]
    .rw[cz q,cz (by lia)]
   rw[i];exact this.at λo=>e _ o (by lia),λc o Y z=>e _ _ (by lia) (H.low c o Y z))
def ZN.up(H:ZN b h0 n ls f0 Z k d g)(e:∀c o,g.get? c\o->g'.get? c\o):ZN b h0 n ls f0 Z k d g':=
 (e _ _ H.z,e _ _ H.o,λj l h=>(H.a j l h).at (e _),λc o Y z=>e _ _ (H.low c o Y z))
def ZN.nx(H:ZN b h0 n ls f0 Z k ls.length g):ZN b h0 n ls f0 Z (k+1) 0 g:=
 (H.z,H.o,λj l h=>by have:=H.a j l h;rw[dm (ag2 h)]at this;exact this,H.low)
def azj{T:Addr}{Q:Unit->Shared->Prop}(Y:U.length<=3)(G:s.heap.get? T\(tpN U))(h:∀Z,Z.get? T\(tpN (U.set k x))->Heap.ExtBut T s.heap Z->Z.objs.size=s.heap.objs.size->Q () { s with heap:=Z }) :
 wpAny (model prog w) A (updateSeq T (·.setIfInBounds k x)) Q E s:=by
 have J:Heap.SameBut T s.heap (s.heap.update T (Obj.mapSeq (·.setIfInBounds k x))):=jz ..;refine wpAny_updateSeq G rfl (h _ ?_ J.extBut J.1) (hz:=gh (by simpa using Y) (show 3<=sizeLine by decide)) (_hz':=gh (by simpa using Y) (show 3<=sizeLine+1 by decide));rw[ph _ G rfl];simp[Obj.mapSeq,tpN]
noncomputable def Hc(n m:Nat):List Value:=(List.range m).map λj=>.ref (n+j)
def ak9(n m:Nat):(Hc n m).zipIdx=(List.range' 0 m).map λj=>(Value.ref (n+j),j):=by
 apply q9;intro i;rw[Aa]
 by_cases h:i<m
 .simp[Hc,h]
 .simp[Hc,h]
def At(b:Nat->Bool)(h:Heap)(T:Y3)(k:Nat)(Y:Zl):Prop:=Y.length=T.length/\∀(j:Nat) l,T[j]?\l->∃G x,SqB (b l) h l G/\G[k]?\x/\Y[j]?\x
def azk{n k:Nat}{Q:Y1}(Xv:ls≠[])(h3:ls.length<=3)(H:ZN b s.heap n ls .none Z k 0 s.heap)(ho:Z.length=ls.length)(B:s.heap.get? (n+ls.length)\(tpN (Hc n ls.length)))(hl:∀l∈ls,l<n)(ha:At b s.heap ls k vs)
 (hq:∀h',ZN b s.heap n ls (rawInt s.heap.objs.size) vs (k+1) 0 h'->h'.get? s.heap.objs.size\(tpN vs)->Q (.ref s.heap.objs.size) { s with heap:=h' }) :
 wpAny (model prog w) A (Builtin.«zip.__next__» ([.ref (n+ls.length+2)],[])) (λfin U=>∃v,fin=.done (.ret v)/\Q v U) E s:=by
 have J:=H.z;have ne:(Hc n ls.length).toArray.isEmpty=false:=by cases ls with|nil=>exact absurd rfl Xv|cons a l=>simp[Hc]
 show wpAny _ _ (field (.ref (n+ls.length+2)) 2>>=_) _ _ _;refine aa (jx J rfl (x:=.bool false) rfl (aa (jx J rfl (x:=.ref (n+ls.length)) rfl (aa (ur B rfl ?_)))));simp only[ne,dq,jq];unfold Builtin.SmallTypes.ownedTupleIsFree;refine aa (aa (jx J rfl (x:=.none) rfl (aj ?_)));simp only[mq];refine aa (o6 (aa (jx J rfl (x:=.ref (n+ls.length+1)) rfl (aa (jr J (by simp) λg1 z1 s1=>?_)))));have H1:=H.sz s1.extBut (f1:=.ellipsis) z1;refine aa (qw _ (λT M U=>M=(none,())/\∃d Z g,T=((List.range' d (ls.length-d)).map λj=>(Value.ref (n+j),j))/\d<=ls.length/\U={ s with heap:=g }/\ZN b s.heap n ls .ellipsis Z k d g/\Z.length=ls.length/\(∀i,i<d->Z[i]?=vs[i]?)/\g.objs.size=s.heap.objs.size) _ (λx T M U B=>?_) (λM U B=>?_) _ _ (rfl,0,Z,g1,?_,jd _,rfl,H1,ho,λi I=>absurd I (su _),s1.1))
 .symm
  let(rfl,d,Z,g,e,Y,rfl,G,W,F,V):=B;have Y:d<ls.length:=by
   rcases Ax d ls.length with h|h
   .exact h
   .rw[Nat.sub_eq_zero_of_le h]at e;cases e
  obtain⟨c,K⟩:∃c,ls.length-d=c+1:=(ls.length-d-1,by lia);rw[K,List.range'_succ,f9]at e;injection e with e1 e2
  subst e1 e2;obtain⟨l,P⟩:∃l,ls[d]?\l:=(ls[d],by simp[Y]);let(xs,x,t1,t2,t3):=ha.2 d l P;have i0:=G.a d l P;rw[cz (o8 _)]at i0;have ll:=hl l (bf P);apply _k;refine aa (wpAny_onRaise (aa (agy (s:={ s with heap:=g }) i0 (t1.at λo=>G.low _ o (by lia)) t2 λg2 i2 s2=>aj ?_)));have R:=G.sa Y s2.extBut λl' h=>by rw[P]at h;cases h;exact i2
  refine aa (ur R.o rfl (aa (azj (by rw[W];exact h3) R.o λg3 o3 s3 n3=>?_)));have H4:=R.so s3 o3;refine aa (wpAny_letGo (aj (rfl,d+1,Z.set d x,g3,by rw[show ls.length-(d+1)=c by lia],Y,rfl,H4,by rw[List.length_set,W],λi I=>?_,by rw[n3,show g2.objs.size=g.objs.size from s2.1,V])))
  by_cases z:i=d
  .subst z
   rw[Az (by lia),t3]
  .rw[v8 (lg z)];exact F i (by lia)
 .symm
  let(rfl,d,Z,g,e,Y,rfl,G,W,F,V):=B;have Y:d=ls.length:=by
   rcases Ax d ls.length with h|h
   .obtain⟨c,K⟩:∃c,ls.length-d=c+1:=(ls.length-d-1,by lia)
    rw[K,List.range'_succ]at e;cases e
   .exact Nat.le_antisymm Y h
  subst Y;apply _k;obtain rfl:Z=vs:=by
   apply q9;intro i;rcases Ax i ls.length with h|h
   .exact F i h
   .rw[my (by lia),my (by rw[ha.1];exact h)]
  refine aa (ur G.o rfl (aa (wpAny_newTuple ?_)));have D:=G.nx.up (g':=g.push (tpN Z)) λc o e=>au _ e
  refine aa ?_;unfold Builtin.SmallTypes.ownedTupleHandOut;refine aa (jr D.z (by simp) λg9 z9 X=>?_);have H9:=D.sz X.extBut (f1:=rawInt g.objs.size) z9;refine jr H9.z (by simp) λN S L=>?_
  have O:=H9.sz L.extBut (f1:=rawInt g.objs.size) S;have zl:n+ls.length+2<g.objs.size:=cj G.z
  have C:N.get? g.objs.size\(tpN Z):=L.extBut _ _ (xr zl) (X.extBut _ _ (xr zl) (dg _ rfl));refine aj (_,rfl,?_);show Q (.ref g.objs.size) _;rw[V]at O C⊢;exact hq N O C
 .show(Hc n ls.length).zipIdx=_
  rw[ak9];rfl
def a7i{n k:Nat}{Y:Y3}(U:A.handled=none)(S:Y[0]?\l)(H:ZN b s.heap n Y .none ov k 0 s.heap)(K:s.heap.get? (n+Y.length)\(tpN (Hc n Y.length)))(hl:l<n)(c1:SqB (b l) s.heap l xs)(X:xs[k]?=none)
 (F:∀Z e,(∀c o,(c<n\/n+Y.length+2<c)->s.heap.get? c\o->Z.get? c\o)->(∃o,Z.get? e\o/\o.cls=.type "StopIteration")->E (.ref e) { s with heap:=Z }) :
 wpAny (model prog w) A (Builtin.«zip.__next__» ([.ref (n+Y.length+2)],[])) Q E s:=by
 have T:=H.z;obtain⟨c,R⟩:∃c,Y.length=c+1:=(Y.length-1,by have:=ag2 S;lia);have B:(Hc n Y.length).toArray.isEmpty=false:=by rw[R];simp[Hc]
 show wpAny _ _ (field (.ref (n+Y.length+2)) 2>>=_) _ _ _;refine aa (jx T rfl (x:=.bool false) rfl (aa (jx T rfl (x:=.ref (n+Y.length)) rfl (aa (ur K rfl ?_)))));simp only[B,dq,jq];unfold Builtin.SmallTypes.ownedTupleIsFree;refine aa (aa (jx T rfl (x:=.none) rfl (aj ?_)));simp only[mq];refine aa (o6 (aa (jx T rfl (x:=.ref (n+Y.length+1)) rfl (aa (jr T (by simp) λL D P=>?_)))));have G:=H.sz P.extBut (f1:=.ellipsis) D;have M:ItB (b l) L n l k:=G.a 0 l S;have er:(Hc n Y.length).zipIdx=(Value.ref n,0)::(List.range' 1 c).map λj=>(Value.ref (n+j),j):=by rw[ak9,R];rfl
 rw[er,List.forIn_cons];refine aa (aa (aa (wpAny_onRaise (aa (ak7 (s:={ s with heap:=L }) U M (c1.at λo=>G.low _ o (by lia)) X λW x V z_=>?_)))));let(o,J,N):=z_;have C:IsZip W (n+Y.length+2) (n+Y.length) (n+Y.length+1) .ellipsis:=V _ _ (by lia) G.z;have B:x≠n+Y.length+2:=λy=>by subst y;rw[C]at J;cases J;simp at N
 exact jr C (by simp) λI _ O=>F I x (λc o y1 e=>O.extBut _ _ (by lia) (V _ _ (by lia) (P.extBut _ _ (by lia) e))) (o,O.extBut _ _ B J,N)
noncomputable def zI(b:Bool)(a:Addr):Obj:={ cls:=.type (cond b "tuple_iterator" "list_iterator"),data:=.fields #[.ref a,.int 0 0] }
def pI(b:Nat->Bool)(h:Heap)(Y:Y3):Heap:=Y.foldl (λh l=>h.push (zI (b l) l)) h
theorem aei:∀(Y:Y3)(h:Heap),(pI b h Y).objs.size=h.objs.size+Y.length
 |[],h=>rfl
 |l::Y,h=>by
  have:=aei (b:=b) Y (h.push (zI (b l) l));rw[jm]at this;rw[ie,<-Nat.add_assoc,Nat.add_right_comm];exact this
theorem ala:∀{ls:Y3}{h:Heap},h.get? c\o->(pI b h ls).get? c\o
 |[],_,e=>e|x::ls,h,e=>ala (ls:=ls) (h:=h.push (zI (b x) x)) (au _ e)
theorem atc:∀{ls:Y3}{h:Heap}{j:Nat},ls[j]?\l->(pI b h ls).get? (h.objs.size+j)\(zI (b l) l)
 |x::ls,h,0,e=>by cases e;exact ala (ls:=ls) (h:=h.push (zI (b l) l)) (dg _ rfl)
 |x::ls,h,j+1,e=>by
  have:=atc (b:=b) (h:=h.push (zI (b x) x)) (ls:=ls) (j:=j) e;rw[jm]at this;rw[<-Nat.add_assoc,Nat.add_right_comm];exact this
def bds(h:g.get? i\(zI b l)):ItB b g i l 0:=by
 cases b with
 |true=>exact(_,h,rfl,rfl)|false=>exact(_,h,rfl,rfl)
def a7j{Q:Y1}(h:SqB b s.heap a Z)(q:Q (.ref s.heap.objs.size) { s with heap:=s.heap.push (zI b a) }):wpAny (model prog w) A (pyIter (.ref a)) Q E s:=by
 cases b with
 |true=>exact wpAny_pyIter_tuple h q|false=>exact yu h q
def azl{Q:List Value->Shared->Prop}(C:∀l∈ls,∃Z,SqB (b l) s.heap l Z)(q:Q (Hc s.heap.objs.size ls.length) { s with heap:=pI b s.heap ls }):wpAny (model prog w) A (Builtin.SmallTypes.iterAll (ls.map .ref)) Q E s:=by
 unfold Builtin.SmallTypes.iterAll;refine aa (qw _ (λT N G=>∃d,d<=ls.length/\T=(ls.drop d).map .ref/\N=(Hc s.heap.objs.size d).toArray/\G={ s with heap:=pI b s.heap (ls.take d) }) _ (λx T B G J=>?_) (λB G J=>?_) _ _ (0,jd _,rfl,rfl,rfl))
 .let(d,Y,e,rfl,rfl):=J
  have Y:d<ls.length:=by
   rcases Ax d ls.length with h|h
   .exact h
   .rw[List.drop_of_length_le h]at e;cases e
  rw[zy Y,f9]at e;injection e with e1 e2
  subst e1 e2;let(Z,O):=C ls[d] (m5 Y);refine aa (ji (a7j (O.at λo e=>ala e) (aj (d+1,Y,rfl,?_,?_))))
  .rw[aei,List.length_take,Nat.min_eq_left (xq Y)]
   simp[Hc,qi]
  .have:pI b s.heap (ls.take (d+1))=(pI b s.heap (ls.take d)).push (zI (b ls[d]) ls[d]):=by
    rw[yp,bw Y,pI,List.foldl_append];rfl
   rw[this]
 .let(d,Y,e,rfl,rfl):=J
  have Y:d=ls.length:=by
   rcases Ax d ls.length with h|h
   .rw[zy h]at e;cases e
   .exact Nat.le_antisymm Y h
  subst Y;rw[yh];exact aj (by simpa using q)
def zB(b:Nat->Bool)(h:Heap)(Y:Y3):Heap:=(pI b h Y).push (tpN (Hc h.objs.size Y.length))
def zC(b:Nat->Bool)(h:Heap)(Y:Y3):Heap:=(zB b h Y).push (tpN ((Hc h.objs.size Y.length).map λ_=>.none))
def zD(b:Nat->Bool)(h:Heap)(Y:Y3):Heap:=(zC b h Y).push { cls:=.type "zip",data:=.fields #[.none,.bool false,.bool false,.ref (pI b h Y).objs.size,.ref (zB b h Y).objs.size] }
def atd(J:ls.length<=3) :
 Meets (Builtin.«zip.__new__» (.type "zip"::ls.map .ref,[])) (λ_ R s=>(∀l∈ls,∃Z,SqB (b l) s.heap l Z)/\R (.ok (.ret (.ref (zC b s.heap ls).objs.size))) { s with heap:=zD b s.heap ls }):=
 .of_wp λprog w A R s h=>by
  let(Y,g,d,G,T):=s;let(C,h):=h;have B:=sub_zip;have f1:∀{Q:List Value->Shared->Prop}{A E},Q (Hc Y.objs.size ls.length) (pI b Y ls,g,d,G,T)->wpAny (model prog w) A (Builtin.SmallTypes.iterAll (ls.map .ref)) Q E (Y,g,d,G,T):=λq=>azl C q
  have sz:∀(Z:Zl),Z.length<=3->Z.toArray.size<=sizeLine:=λZ h=>gh (by simpa using h) (show 3<=sizeLine by decide)
  have f2:∀{Q:Y1}{A E}{h:Heap},Q (.ref h.objs.size) (h.push (tpN (Hc Y.objs.size ls.length)),g,d,G,T)->wpAny (model prog w) A (newTuple (Hc Y.objs.size ls.length)) Q E (h,g,d,G,T):=λq=>wpAny_newTuple q (sz _ (by simpa[Hc]using J))
  have O:∀{Q:Y1}{A E}{h:Heap},Q (.ref h.objs.size) (h.push (tpN ((Hc Y.objs.size ls.length).map λ_=>.none)),g,d,G,T)->wpAny (model prog w) A (newTuple ((Hc Y.objs.size ls.length).map λ_=>.none)) Q E (h,g,d,G,T):=λq=>wpAny_newTuple q (sz _ (by simpa[Hc]using J))
  wp_walk using f1,f2,O
  exact(_,rfl,h)
def azm{n:Nat}(L:ls.length<=3)(Y:s.heap.objs.size=n)(P:checkTypeCall "zip" (ls.map .ref,[])=pure ())(N:checkBuiltinCall "zip.__new__" (.type "zip"::ls.map .ref,[])=pure ())(R:∀obj,argsOk "object.__init__" (obj::ls.map .ref,[]))(S:∀l∈ls,∃U,SqB (b l) s.heap l U)
 (h:∀Z,ZN b Z n ls .none ((Hc n ls.length).map λ_=>.none) 0 0 Z->Z.get? (n+ls.length)\(tpN (Hc n ls.length))->(∀c o,s.heap.get? c\o->Z.get? c\o)->Q (.ref (n+ls.length+2)) { s with heap:=Z }):wpAny (model prog w) A (call (.type "zip") (ls.map .ref)) Q E s:=by
 refine callType_new F.called_zip ⋯ P N R F.entry_zip_new (atd L) (S,?_);have G:(pI b s.heap ls).objs.size=n+ls.length:=by rw[aei,Y]
 have J:(zB b s.heap ls).objs.size=n+ls.length+1:=by unfold zB;rw[jm,G]
 have C:(zC b s.heap ls).objs.size=n+ls.length+2:=by unfold zC;rw[jm,J]
 have up:∀{h:Heap}{H:Obj}{c:Addr}{o:Obj},h.get? c\o->(h.push H).get? c\o:=λe=>au _ e
 have T:(zD b s.heap ls).get? (zC b s.heap ls).objs.size\_:=dg _ rfl;have B:(zD b s.heap ls).get? (zB b s.heap ls).objs.size\_:=up (dg _ rfl);have O:(zD b s.heap ls).get? (pI b s.heap ls).objs.size\_:=up (up (dg _ rfl));rw[G,J,C]at T;rw[J,Y]at B;rw[G,Y]at O;show _/\_;rw[C];exact((_,T,rfl),h _ (T,B,λj l e=>bds (up (up (up (by rw[<-Y];exact atc e)))),λ_ _ _ e=>e) O λc o e=>up (up (up (ala e))))
def Zz(a b c:Value):checkTypeCall "zip" ([a,b,c],[])=pure ():=by kernel_rfl
def aa4(a b c:Value):checkBuiltinCall "zip.__new__" ([.type "zip",a,b,c],[])=pure ():=by kernel_rfl
def ag3(a b c d:Value):argsOk "object.__init__" ([a,b,c,d],[]):=by unfold argsOk;rw[signature?_of (id :="object.__init__") (n :="__tini__".toList) (o :="tcejbo".toList) (by kernel_rfl) F.owner_object];kernel_rfl
theorem anw:∀Z:List Value,Z.length=2\/Z.length=3->checkTypeCall "zip" (Z,[])=pure ()/\checkBuiltinCall "zip.__new__" (.type "zip"::Z,[])=pure ()/\∀obj,argsOk "object.__init__" (obj::Z,[])
 |[a,b,c],_=>(Zz _ _ _,aa4 _ _ _,λobj=>ag3 obj _ _ _)
 |[a,b],_=>(F.typeCall_zip_2 _ _,F.newCall_zip_2 _ _,λobj=>F.args_object_init_3 obj _ _)
end EnT
namespace L2
open PySem PySem.Spec EnT
def IzN(b:Nat->Bool)(K:Fg)(as:X9):It:=
 (λi H=>∃T:List V,T.length=as.length/\∀(j:Nat) a,as[j]?\a->∃Y x,SqX (b a) K H a Y/\Y[i]?\x/\T[j]?\x,
  λi H v G=>∃p T,v=.ref p/\H p=none/\G=upd H p (.tup T)/\T.length=as.length/\∀(j:Nat) a Y,as[j]?\a->SqX (b a) K H a Y->T[j]?=Y[i]?,
  λi H=>∃a Y,as[0]?\a/\SqX (b a) K H a Y/\Y.length<=i)
def TN(b:Nat->Bool)(n:Nat)(as:X9)(i:Nat)(h:Heap):Prop:=(∃Y,ZN b h n as .none Y i 0 h/\Y.length=as.length)/\h.get? (n+as.length)\(tpN (Hc n as.length))
noncomputable def FN(n m:Nat):List Addr:=List.range' n (m+3)
def FN.mem{n m c:Nat}:c∈FN n m↔n<=c/\c<n+m+3:=List.mem_range'_1
theorem at_of(I:Inv X pins σ H s):∀{as:X9}{vs:List V},vs.length=as.length->(∀(j:Nat) a,as[j]?\a->∃U x,SqX (b a) X.K H a U/\U[i]?\x/\vs[j]?\x)->∃Z,Vals vs Z/\At b s.heap as i Z
 |[],[],_,_=>([],.nil,rfl,λj l h=>by simp at h)
 |a::as,v::vs,l,h=>by
  symm
  let(Z,r,e,q):=at_of I (as:=as) (vs:=vs) (by simpa using l) (λj a e=>h (j+1) a e);let(U,x,N,G,E):=h 0 a rfl;cases E;let(O,L,C):=I.anv N;let(T,B,J):=L.get G;apply _k;refine(T::Z,.cons J r,by simp[e],λj l Y=>?_);cases j with
  |zero=>cases Y;exact(O.toArray,T,C,by simpa using B,rfl)|succ j=>exact q j l Y
theorem azn{n:Nat}(h3:as.length<=3)(Xv:as≠[])(hl:∀a∈as,a<n):Turn P w K (.Tuple ts k0 pt) (IzN b K as) (FN n as.length) (n+as.length+2) (TN b n as)where
 mem:=FN.mem.mpr (by lia)
 obj:=λi h st e Y=>by
  let((O,H,_),G):=st;let(c1,c2):=FN.mem.mp Y
  by_cases z:e<n+as.length
  .have q:e-n<as.length:=by lia
   have z:=(H.a (e-n) as[e-n] (by simp[q])).obj;rw[show n+(e-n)=e by lia]at z;exact z
  .rcases(show e=n+as.length\/e=n+as.length+1\/e=n+as.length+2 by lia)with rfl|rfl|rfl
   .exact(_,G,λv z=>by cases z)
   .exact(_,H.o,λv z=>by cases z)
   .exact(_,H.z,λv z=>by cases z)
 keep:=λi h h' st k=>by
  let((O,H,l),G):=st;have R:∀d o,n<=d->d<n+as.length+3->h.get? d\o->h'.get? d\o:=λd o V h2=>k d (FN.mem.mpr (V,h2)) o
  exact((O,(R _ _ (by lia) (by lia) H.z,R _ _ (by lia) (by lia) H.o,λj l h=>(H.a j l h).at λo=>R _ o (by lia) (by have:=ag2 h;lia),λ_ _ _ e=>e),l),R _ _ (by lia) (by lia) G)
 item:=by
  intro X D M Q Y i N s σ H E I L st J;subst D M Q;symm
  let((O,Z,lo),G):=st;have lt:n+as.length+2<s.heap.objs.size:=cj Z.z
  let(vs,lv,J):=J;let(U,r,ha):=at_of I lv J;have C:s.TypeIs (.ref (n+as.length+2)) "zip":= (_,Z.z,rfl);apply _k;unfold pyNext;refine aa (xf (m8 (name:=Str.ofString "__next__") C F.slot_zip_next (jt F.slot_zip_next C F.entry_zip_next ?_ (F.args_zip_next_1 _))));refine azk Xv h3 Z lo G hl ha λV Z1 t1=>aj (_,rfl,?_)
  refine wpAny_letOwnedTupleGo_zip Z1.z λh2 z2 S=>?_
  have S:Heap.SameBut (n+as.length+2) V h2:=S;have B:=Z1.sz S.extBut (f1:=.none) z2;have t2:h2.get? s.heap.objs.size\(tpN U):=S.extBut _ _ (xr lt) t1;refine(.ref s.heap.objs.size,upd H s.heap.objs.size (.tup vs),I.ab7 (t':=s.toks) L (λc o Y A=>B.low c o (by rw[FN.mem]at Y;lia) A) (bz _) (by rw[lv];exact gh h3 (show 3<=sizeLine by decide),U,r,(_,t2,rfl,_,rfl,rfl)),rfl,
   (_,vs,rfl,I.Bv.fresh (bz _),rfl,lv,λj a ys ja hy=>?_),((U,(B.z,B.o,B.a,λ_ _ _ e=>e),ha.1),B.low _ _ (by lia) G),λc Y=>?_)
  .let(xs,x,W,q2,q3):=J j a ja
   rw[I.ag0 hy W,q2,q3]
  .rw[FN.mem]at Y
   rw[qm (by lia)];exact(L c (FN.mem.mpr Y)).1
 done:=by
  intro X D M Q Y i N s σ H E I L st J;subst D M Q;symm
  let((O,Z,lo),G):=st;let(a,xs,a0,W,x1):=J;let(i1,r1,p1):=I.anv W;have qq:=r1.length;have C:s.TypeIs (.ref (n+as.length+2)) "zip":= (_,Z.z,rfl);apply _k;unfold pyNext;refine aa (xf (m8 (name:=Str.ofString "__next__") C F.slot_zip_next (jt F.slot_zip_next C F.entry_zip_next ?_ (F.args_zip_next_1 _))));refine a7i (I.ok.hd Y) a0 Z G (hl a (bf a0)) (xs:=i1.toArray) p1 (by simp;lia) λh' e k z_=>?_
  let(o,o1,o2):=z_;exact aa (o7 (T :="StopIteration") (b:=true) (o,o1,o2) isSubtype_stop (aj (rfl,I.ak8 (t':=s.toks) L λc o Y A=>k c o (by rw[FN.mem]at Y;lia) A)))
 self:=λ_ _ _ _ _ st h=>by let((O,Z,_),_):=st;exact wpAny_pyIter_zip Z.z h
theorem ab8:∀{as:X9}{Y:Zl},Vals (as.map V.ref) Y->Y=as.map Value.ref
 |[],_,h=>by cases h;rfl|_::_,_,h=>by cases h with|cons r t=>cases r;rw[ab8 t];rfl
def bdt(W:Gl X "zip")(E:X.mg "zip"= none)(S:PA X (a::es) ta)(N:starEach (a::es) X.env=(false,eval a X.env)::starEach es X.env)(D:(backTo pos (starEach es X.env)).any (·.1)=false) :
 PI X (.Tuple ts k0 pt) (.Call (.Name "zip" p) (a::es) [] pos) (fun σ H R=>ta σ H λvs U=>∃(b:Nat->Bool)(as:X9),vs=as.map V.ref/\(as.length=2\/as.length=3)/\(∀q∈as,∃xs,SqX (b q) X.K U q xs)/\R (IzN b X.K as) U):=by
 intro Y s σ H R I h;refine PyProof.Rows.Call_ (Eg I W E (show bootBuiltins "zip"\(.type "zip")by decide+kernel) (j0 (Ko (S pos Y s σ H _ I h) λus G z=>?_) N D));symm
 let(vs,U,I1,M,b,as,rfl,l,A,P):=z;apply _k;cases ab8 M;let(c1,O,L):=anw (as.map Value.ref) (by simpa using l);have B:as.length<=3:=by lia
 have tp:∀q∈as,∃xs,SqB (b q) G.heap q xs:=λq J=>by let(xs,hx):=A q J;let(i1,_,p1):=I1.anv hx;exact(_,p1)
 refine azm B rfl c1 O L tp λh' Z C F=>wpAny_pyIter_zip Z.z ?_
 refine(G.heap.objs.size+as.length+2,_,_,_,U,rfl,I1.kept (t':=G.toks) F,azn B (λz=>by subst z;simp at l) λq J=>by let(xs,e):=tp q J;exact e.lt,((_,Z,by simp[Hc]),C),λc Q=>?_,P);have T:=(FN.mem.mp Q).1;exact I1.ark T (I1.Bv.fresh T)
end L2
namespace Sm
open PySem L2
open MW (Ex Gm OEx Sq Dg p7 Lv Tg Res fc MO Kg Cp Op2 Blt Bm Kx Src)
def anx{i:Nat}(h:(MW.Mg ds 0)[i]?\d):∃z,ds[i]?\z/\d=.tup [.int (i:Nat),z]:=by
 unfold MW.Mg at h;rw[ir,Aa]at h;cases e:ds[i]? with
 |none=>rw[e]at h;simp at h|some z=>rw[e]at h;simp at h;exact(z,rfl,h.symm)
def azo{X:Cx}(r:qz X.K ι H ds vs)(Y:∀Z U,LeX ι H Z U->SqX bb X.K U q vs):ayu nm X.K ι H (.con (MW.Mg ds 0)) (Ien bb X.K q):=λZ U S le C=>by
 refine(λi d R N=>?_,λ_=>(vs,Y Z U le,?_))
 .symm
  let(z,B,rfl):=anx (show(MW.Mg ds 0)[i]?\d from N);let(v,T,L):=(r.Pa le).get B;apply _k;refine((vs,v,Y Z U le,T),λu P (p,x,e2,e3,e4,e5)=>?_);have G:x=v:=by have:=e5 vs (Y Z U le);rw[T]at this;cases this;rfl
  subst G e2 e4;let(J,E,O):=Rr (X:=X) C e3 (.cons (.int _) (.cons L .nil));exact(E,J,O)
 .show vs.length<=(MW.Mg ds 0).length
  rw[<-r.length];simp[MW.Mg]
def bdu(hg:Gl X "enumerate")(F:X.mg "enumerate"= none)(A:PE X a (tE nm W X.K U))(G:noStar a=true):PI X (.Tuple ts Z pt) (.Call (.Name "enumerate" pr) [a] [] pos) (tI nm W X.K (.enm U)):=by
 intro T s0 N H C I E;symm
 let(ι,ρ,M,s,M',S,R,e,q):=E;rw[MW.aj8]at e;let(x,B,D,e):=ik e;apply _k;refine PI.weak (bdr (ts:=ts) (k0:=Z) (pt:=pt) (p:=pr) (pos:=pos) hg F (Q8 A Xe (pq G _ _)) (pq G _ _)) (wi':=λY L O=>Y=N/\L=H/\O=C) (λY L O (z1,z2,z3)=>?_) T s0 N H C I (rfl,rfl,rfl);subst z1 z2 z3;refine aa2 (es':=.cons U .nil) (ds:=[x]) (M1:=B) S R (by rw[MW.Jd,D];simp) λJ V vs le S1 R1 r=>?_
 cases r with
 |cons r1 Q =>
  cases Q;cases r1 with
  |@tup p ds us h1 rr =>
   cases e;exact(true,p,rfl,(us,O9.of h1),q J V _ le S1 (azo rr λqq H2 P=>O9.of (P.tup _ _ h1)))
  |_=>cases e
def azp{G:Nm}{W:Kg}{X:Cx}{o:Expr}{I:Ex}{pos Y:Pos}{k f:Nat}{fa C:Addr}{fd:FuncData}{D:Yf}{m:Str}{B ci:Nat}{cl:MW.Cl}{pl:Sem Bool}(ho:PE X o (tE G W X.K I))(c0:Cls X.K C)(V:Meth X.K C m fa)(F:Ii X.prog X.w X.K X.mg X.base CX0 k fa fd D (spF G W X.K 1 f))(hr:Bh k X.A)(hb:Binds X.K fd D [])
 (O:∀c' Z,W.cls[c']?\Z->∀g,Z.meths.lookup B\g->G.cls c'\C/\g=f) (L:∀i,G.fld i≠m)
 (ht:eval (.Call (.Attribute o m Y) [] [] pos) X.env=(do
  let U<-eval o X.env
  standAt Y.atName
  let (f,first) <-holding [U] (getMethod U m pl)
  callWith pos f first (backTo pos (starEach [] X.env)) (backToKw pos (keywordEach [] X.env)))) :
 PE X (.Call (.Attribute o m Y) [] [] pos) (tE G W X.K (.meth I B)):=
 PE.of (arw (E:=E0) ho c0 V F hr hb .nil asi ht) fun σ H Q ι ρ M d M' S R e q=>by
  rw[MW.Mh]at e;let(x,T,e1,e):=ik e;refine one S R e1 λJ H1 v le S1 R1 r=>?_
  obtain⟨j,hx⟩:∃j,x=.ref j:=by cases x<;>first|exact(_,rfl)|cases e
  subst hx;obtain⟨p,rfl,hp⟩:∃p,v=.ref p/\J.l[j]?\p:=by cases r with|ref z=>exact(_,rfl,z)
  have e:(match T[j]? with
   | some (.ins c _)=>(match(W.cls[c]?).bind λC=>C.meths.lookup B with
    | some f=>W.call f [.ref j] T|none=>.bad)
   | _=>.bad)=Res.ok d M':=e
  cases hM:T[j]? with
  |none=>rw[hM]at e;cases e
  |some ob =>
   rw[hM]at e;cases ob with
   |ins ci fs =>
    have e:(match(W.cls[ci]?).bind λC=>C.meths.lookup B with|some f=>W.call f [.ref j] T|none=>.bad)=Res.ok d M':=e;cases hL:(W.cls[ci]?).bind λC=>C.meths.lookup B with
    |none=>rw[hL]at e;cases e
    |some g =>
     rw[hL]at e;symm
     have e:W.call g [.ref j] T=.ok d M':=e;let(Z,h1,h2):=iw.mp hL;let(h3,rfl):=O ci Z h1 g h2;let(C',dx,l,g1,g2,g3):=S1.obj j _ p hM hp;rw[h3]at g1;cases g1;apply _k;exact(p,dx,l,rfl,g2,asu L g3,J,T,[.ref j],d,M',S1,.cons r .nil,rfl,e,λN H' v P S' r'=>q N H' v (le.trans P) S' r')
   |_=>cases e
def azq:PS X st (tS nm W X.K .raise):=λY s J H D I G=>by let(N,B,M,C,T,O,S,R,e,q):=G;rw[MW.aqd]at e;cases e
def a2o(h:PE X a t):PE X (.BoolOp op [a] pos) t:=λY s T H Q I q=>PyProof.Rows.BoolOp_one (h Y s T H Q I q)
noncomputable def bt(H:Hp)(a:Addr):Bool:=match H a with|some (.tup _)=>true|_=>false
inductive ZpL(K:Fg)(ι:Io)(H:Hp):List (List Dv)->List Addr->Prop
 |nil:ZpL K ι H [] []
 |cons {a:Addr} {l:List Dv} {us:List V} {ls:List (List Dv)} {as:X9} (r:qz K ι H l us) (st:∀ι1 H1,LeX ι H ι1 H1->SqX (bt H a) K H1 a us) (t:ZpL K ι H ls as):ZpL K ι H (l::ls) (a::as)
def ZpL.len(z:ZpL K Z H ls as):ls.length=as.length:=by
 induction z with
 |nil=>rfl|cons _ _ _ Y=>rw[ie,ie,Y]
def ZpL.sq(z:ZpL K Z H ls as):∀q∈as,∃xs,SqX (bt H q) K H q xs:=by
 induction z with
 |nil=>intro q h;cases h
 |cons r st t Y =>
  intro q h;rcases dh.mp h with rfl|h
  .exact(_,st _ _ (Le.refl Z H).toX)
  .exact Y q h
def ZpL.item{i:Nat}(z:ZpL K ι H ls as)(G:∀l∈ls,i<l.length)(le:LeX ι H Z U):∃vs,vs.length=as.length/\(∀(j:Nat) a,as[j]?\a->∃xs x,SqX (bt H a) K U a xs/\xs[i]?\x/\vs[j]?\x)/\qz K Z U (ls.map λl=>l.getD i .non) vs:=by
 induction z with
 |nil=>exact([],rfl,λj a h=>by simp at h,.nil)
 |@cons a l us ls as r st t ih =>
  symm
  let(vs,O,B,J):=ih λl h=>G l (bu _ h)
  have Y:=G l dw;let(u,N,C):=(r.Pa le).get (bw Y);have e:l.getD i .non=l[i]:=by simp[Y]
  apply _k;refine(u::vs,by rw[ie,ie,O],λj b T=>?_,.cons (by show Rep K Z U (l.getD i .non) u;rw[e];exact C) J);cases j with
  |zero=>cases T;exact(us,u,st _ _ le,N,rfl)|succ j=>exact B j b T
def ate(h:MW.amm d\l)(r:Rep K ι H d v):∃p us,v=.ref p/\qz K ι H l us/\∀Z U,LeX ι H Z U->SqX (bt H p) K U p us:=by
 cases r with
 |tup e r=>cases h;exact(_,_,rfl,r,λZ U le=>by simp only[bt,e];exact O9.of (le.tup _ _ e))
 |vl e n r=>cases h;exact(_,_,rfl,r,λZ U le=>by simp only[bt,e];exact Kc.of (le.lst _ _ n.1 e))
 |_=>cases h
def ZpL.of{T:List Dv}{Y:List (List Dv)}{G:List V}(r:qz K Z H T G)(e:T.map MW.amm=Y.map some):∃as:List Addr,G=as.map V.ref/\ZpL K Z H Y as:=by
 induction T generalizing Y G with
 |nil=>cases r;cases Y with
  |nil=>exact([],rfl,.nil)|cons _ _=>cases e
 |cons d T C=>cases Y with
  |nil=>cases e
  |cons l Y =>
   injection e with e1 e2
   cases r with
   |cons L B =>
    symm
    let(p,E,rfl,N,O):=ate e1 L;let(as,rfl,J):=C B e2;apply _k;exact(p::as,rfl,.cons N O J)
def anz:∀{Y:List Dv}{T:List (List Dv)},MW.Ys Y\T->Y.map MW.amm=T.map some:=fun{Y T} h=>by
 induction Y generalizing T with
 |nil=>cases h;rfl
 |cons d r J =>
  unfold MW.Ys at h;cases e1:MW.amm d with
  |none=>rw[e1]at h;cases h
  |some l=>cases e2:MW.Ys r with
   |none=>rw[e1,e2]at h;cases h
   |some G =>
    rw[e1,e2]at h;cases h;rw[f9,f9,e1,J e2]
def azr(e:MW.aau ds M=.ok s U):U=M/\∃Z,∃n:Nat,ds.map MW.amm=Z.map some/\(Z.length=2\/Z.length=3)/\(∀l∈Z,l.length=n)/\s=.con (MW.Eu Z n):=by
 unfold MW.aau at e;cases h:MW.Ys ds with
 |none=>rw[h]at e;cases e
 |some Z =>
  rw[h]at e;let((Y,T),e):=aef e;cases e;exact(rfl,Z,_,anz h,Y,T,rfl)
def bdv(hg:Gl X "zip")(hm:X.mg "zip"= none)(ha:PA X (a::Z) (tEs nm W X.K U))(hs:starEach (a::Z) X.env=(false,eval a X.env)::starEach Z X.env)(Kq:(backTo pos (starEach Z X.env)).any (·.1)=false) :
 PI X (.Tuple ts k0 pt) (.Call (.Name "zip" pr) (a::Z) [] pos) (tI nm W X.K (.zip U)):=by
 intro G s0 V H Q I hh;let(ι,ρ,M,s,M',S,R,e,q):=hh;rw[MW.aw4]at e;let(ds,N1,e1,e):=ik e;let(rfl,ls,n,h1,C,L,rfl):=azr e;refine PI.weak (bdt (ts:=ts) (k0:=k0) (pt:=pt) (p:=pr) (pos:=pos) hg hm ha hs Kq) (wi':=λY A P=>Y=V/\A=H/\P=Q) (λY A P z=>?_) G s0 V H Q I (rfl,rfl,rfl);let(rfl,rfl,rfl):=z;refine aa2 S R e1 λB E vs le S1 R1 rr=>?_
 let(as,rfl,z):=ZpL.of rr h1;refine(bt E,as,rfl,by rw[<-z.len];exact C,z.sq,q B E _ le S1 λqq H2 M2 N D=>(λi d J T=>?_,λ_=>?_))
 .have T:(MW.Eu ls n)[i]?\d:=T
  have J:i<n:=by simpa[MW.Eu]using(ao.mp T).1
  rw[MW.Eu,ir,u9 J]at T;cases T;let(vs,l1,F,l3):=z.item (λl h=>by rw[L l h];exact J) N;refine((vs,l1,F),λu' H3 y=>?_);let(t,ws,rfl,e6,rfl,e8,e9):=y;have:ws=vs:=by
   apply q9;intro j
   by_cases h:j<as.length
   .let(xs,x,k1,k2,k3):=F j as[j] (bw h)
    rw[e9 j as[j] xs (bw h) k1,k2,k3]
   .rw[my (by lia),my (by lia)]
  subst this;let(S3,O,r3):=Rr (X:=X) D e6 l3;exact(O,S3,r3)
 .cases z with
  |nil=>simp at C
  | cons r st t=>exact(_,_,rfl,st _ _ N,by
   show _<=(MW.Eu _ n).length
   rw[<-r.length,L _ dw];simp[MW.Eu])
def atf{Y:List Dv}{b:Bool}(e:MW.allB Y\b):∃bs:List Bool,Y=bs.map MW.D.bl/\b=bs.all id:=by
 induction Y generalizing b with
 |nil=>cases e;exact([],rfl,rfl)
 |cons x r G =>
  cases x with
  |bl k =>
   symm
   let(c,T,rfl):=dj.mp (show(MW.allB r).map (k&&·)\b from e);let(bs,rfl,rfl):=G T;apply _k;exact(k::bs,rfl,by simp)
  |_=>cases e
theorem ab9{O:Io}{H:Hp}{K:Fg}:∀{bs:List Bool}{Y:List V}{is:Zl},qz K O H (bs.map MW.D.bl) Y->Vals Y is->is=bs.map Value.bool
 |[],_,_,r,h=>by cases r;cases h;rfl
 |k::bs,_,_,r,h=>by
  cases r with
  |cons B T =>
   cases h with
   |cons J G =>
    cases B;cases J;rw[ab9 T G];rfl
def bdw(hc:X.calm=true):Dp X (.builtin "all") (rB nm X.K .all):=λP s σ H vs us Q I Z V=>by
 symm
 let(ι,M,L,d,M',S,r,e,q):=V;obtain⟨x,rfl,e⟩:∃x,L=[x]/\Res.wy (((MW.gr M x).bind MW.allB).map MW.D.bl) M=.ok d M':=by
  cases L with
  |nil=>cases e
  |cons x l=>cases l with
   |nil=>exact(x,rfl,e)|cons _ _=>cases e
 let(e1,rfl):=zb e;let(b,e2,rfl):=dj.mp e1;let(xs,F,e4):=iw.mp e2;let(bs,rfl,rfl):=atf e4;let(v,rfl,R):=K8 r rfl;let(u,rfl,ru):=Wk Z;let(p,ws,rfl,hp,rl):=uy S R F;cases ru;let(is,B,O,_):=I.list (Kc.of hp);have Y:=ab9 rl B;apply _k;have W:p<s.heap.objs.size:=by let(_,e,_):=O.isList;exact cj e
 refine call_all_walk (yu O.isList ?_);refine(_,_,_,_,_,_,λi=>bs.getD i true,rfl,Walks.list (A:=X.A.in1) (I.ok.hd hc) s.heap.objs.size p (gn W) is.toArray,((_,dg _ rfl,rfl,rfl),O.isList.push _),λi v s Q E hP J=>?_,λh' tk T=>?_)
 .have N:is[i]?\v:=by simpa using hP
  rw[Y,ir]at N;let(k,T,rfl):=dj.mp N;refine nq ?_;have J:Q (bs.getD i true) s:=J;rw[bx,T]at J;exact J
 .have U:(List.range is.toArray.size).all (λi=>bs.getD i true)=bs.all id:=by
   rw[Y];simp only[gw,du];rw[Cq,jg,jg];constructor
   .intro h k T
    let(i,G,rfl):=qg T;have:=h i (jh.mpr G);simpa[bx,G]using this
   .intro h i G
    have C:=jh.mp G;have:=h bs[i] (m5 C);simpa[bx,C]using this
  rw[U];exact(.bl _,H,I.kept (t':=tk) (old_kept T),rfl,q ι H _ (Le.refl _ _) S (.bl _))
def azs(hT:PySem.W.kitAny X.K (.type "tuple") [.type "tuple",.type "list"]\true)(qv:PySem.W.kitAny X.K (.type "list") [.type "tuple",.type "list"]\true)(N:PySem.W.kitAny X.K (.type "int") [.type "tuple",.type "list"]\false)(hg:Gl X n)(hm:X.mg n=none)(hv:bootBuiltins n\(.builtin "isinstance"))(hn:n≠"__name__")(Uk:(n==("__debug__": Str))=false)(qk:Gl X "tuple")(A:X.mg "tuple"= none)(V:Gl X "list")(qq:X.mg "list"= none)(ha:PE X a (tE nm W X.K a'))(he:starEach [a,.Tuple [.Name "tuple" U,.Name "list" Z] k pt] X.env=(false,eval a X.env)::starEach [.Tuple [.Name "tuple" U,.Name "list" Z] k pt] X.env)(Kq:(backTo pos (starEach [.Tuple [.Name "tuple" U,.Name "list" Z] k pt] X.env)).any (·.1)=false):PE X (.Call (.Name n p) [a,.Tuple [.Name "tuple" U,.Name "list" Z] k pt] [] pos) (tE nm W X.K (.blt .isSeq (.cons a' .nil))):=by
 intro T s P H Q I hh;symm
 let(ι,ρ,M,d,M',S,R,e,q):=hh;rw[MW.Nk]at e;let(ds,F,L,e):=ik e;rw[MW.Jd]at L;let(x,M2,e2,L):=ik L;rw[MW.Uw]at L;cases L;apply _k;refine jn (Eg I hg hm hv ?_ hn Uk);refine xu (Q:=EP X T P Q) ?_ he Kq;rw[he];show wpAny _ _ (spliced ((false,eval a X.env)::backTo pos (starEach [.Tuple [.Name "tuple" U,.Name "list" Z] k pt] X.env))) _ _ s;refine mz (R9 (ha T s P H (λv G=>∃Y,Le ι H Y G/\o4 nm X.K Y G F/\Rep X.K Y G x v) I (ι,ρ,M,x,F,S,R,e2,λY G v le S1 r=>(Y,le,S1,r))) λu J v G I1 E z_=>?_);let(Y,le,S1,r):=z_;show wpAny _ _ (spliced ((false,eval (.Tuple [.Name "tuple" U,.Name "list" Z] k pt) X.env)::backTo pos (starEach [] X.env))) _ _ J;refine mz (wpAny_Tuple ?_);show wpAny _ _ (spliced ((false,eval (.Name "tuple" U) X.env)::backTo pt (starEach [.Name "list" Z] X.env))) _ _ J;refine mz (Eg I1 qk A (show bootBuiltins "tuple"\(.type "tuple")by decide+kernel) ?_ ∅ ∅);show wpAny _ _ (spliced ((false,eval (.Name "list" Z) X.env)::backTo pt (starEach [] X.env))) _ _ J;refine mz (Eg I1 V qq (show bootBuiltins "list"\(.type "list")by decide+kernel) ?_ ∅ ∅);refine uh (by show 2<=sizeLine;decide,?_);refine uh ?_;symm
 have I2:Inv X T P G { J with heap:=J.heap.push { cls:=.type "tuple",data:=.seq #[.type "tuple",.type "list"] } }:=I1.kept (t':=J.toks) λb u e=>au _ e
 have B:(J.heap.push { cls:=.type "tuple",data:=.seq #[.type "tuple",.type "list"] }).get? J.heap.objs.size=some { cls:=.type "tuple",data:=.seq #[.type "tuple",.type "list"] }:=dg _ rfl;have e:Res.wy ((MW.isX (some true) (some true) (some false) x).map MW.D.bl) F=.ok d M':=e;let(e4,e5):=zb e;subst e5;let(b,C,rfl):=dj.mp e4;have fin:∀tk,EP X T P Q (.bool b) { J with heap:=J.heap.push { cls:=.type "tuple",data:=.seq #[.type "tuple",.type "list"] },toks:=tk }:=λtk=>(.bl b,G,I2.tok _,rfl,q Y G _ le S1 (.bl b))
 apply _k;cases r with
 |int i=>cases C;let(t,q):=(show ∃t,u=Value.int i t from E);cases q;exact PySem.W.kia_tup PySem.W.kitx_int I2.kIn True.intro B N (λz=>nomatch z) fin
 |sy h=>cases C;let(t,q):=(show ∃t,u=Value.int _ t from E);cases q;exact PySem.W.kia_tup PySem.W.kitx_int I2.kIn True.intro B N (λz=>nomatch z) fin
 |@tup p ds us O rr =>
  cases C;cases(show u=Value.ref p from E);symm
  let(_,_,_,O):=(show Ci X.prog X.w G _ p (.tup us)from I2.Bv p _ O);let(o,g1,g2,_):=O;apply _k;exact PySem.W.kia_tup PySem.W.kitx_tuple I2.kIn (o,g1,g2) B hT (λz=>nomatch z) fin
 |@vl p ds us O _ rr =>
  cases C;cases(show u=Value.ref p from E);let(_,_,n,_,g):=(show Ci X.prog X.w G _ p (.lst us)from I2.Bv p _ O);exact PySem.W.kia_tup PySem.W.kitx_list I2.kIn (_,g,rfl) B qv (λz=>nomatch z) fin
 |_=>cases C
def azt(e:MW.Lb .get x ds M=.ok d M'):∃n k U,x=.ref n/\ds=[k,U]/\M'=M/\((∃Z q,M[n]?\(.dK Z)/\MW.Yq k\q/\d=(MW.Ag Z q).getD U)\/∃Z q,M[n]?\(.dT Z)/\MW.Ry k\q/\d=(MW.Ag Z q).getD U):=by
 match ds,e with
 |[k,U],e =>
  let(O,B):=zb (show Res.wy ((MW.ap7 x k M).map (·.getD U)) M=.ok d M' from e);let(z,Y,J):=dj.mp O;cases x with
  |ref n =>
   refine(n,k,U,rfl,rfl,B,?_);simp only[MW.ap7]at Y;cases hM:M[n]? with
   |none=>rw[hM]at Y;cases Y
   |some o=>cases o with
    |dK Z =>
     rw[hM]at Y;let(q,G,T):=dj.mp Y;exact .inl (Z,q,rfl,G,by rw[T];exact J.symm)
    |dT Z =>
     rw[hM]at Y;let(q,G,T):=dj.mp Y;exact .inr (Z,q,rfl,G,by rw[T];exact J.symm)
    |_=>rw[hM]at Y;cases Y
  |_=>cases Y
 |[],e1=>cases e1|[_],e1=>cases e1|_::_::_::_,e1=>cases e1
def ty_dict{X:Cx}(S:o4 nm X.K Z H M)(r:Rep X.K Z H x v)(h:MW.Pq .get x M=true):tyV X.K "dict" v H:=by
 cases r with
 |@ref n p hp =>
  have h:(match M[n]? with|some (.dK _)=>true|some (.dT _)=>true|_=>false)=true:=h;split at h
  .rename_i Y
   let(l,T,_):=S.obj n _ p Y hp;exact .inr (.inr (rfl,.inl (_,T)))
  .rename_i Y
   let(l,T,_):=S.obj n _ p Y hp;exact .inr (.inr (rfl,.inr (_,T)))
  .cases h
 |_=>cases h
def bdx(Z:X.A.units+1<cLine):MtR X "dict.get" (rM nm X.K .get):=λqq s σ H v vs u us Q I ru Xi hh=>by
 let(ι,M,x,ds,d,M',S,r,rs,e,q):=hh;let(n,k,d0,rfl,rfl,rfl,e):=azt e;cases rs with
 |cons F L =>
  cases L with
  |cons U L =>
   cases L;cases Xi with
   |cons J G =>
    cases G with
    |cons B G =>
     cases G;cases r with
     |ref D =>
      cases ru;rcases e with⟨E,Y,R,V,rfl⟩|⟨E,Y,R,V,rfl⟩
      .let(l,C,O):=S.obj n _ _ R D
       have hy:=ad9 F V;subst hy;refine ar9 Z I (Sd.k C) J B λw' s' P T=>(_,H,P,T,q ι H _ (Le.refl _ _) S ?_)
       cases hl:MW.Ag E Y with
       |none=>rw[(O.look (k:=Y)).2 hl];exact U|some d=>let(z,N,W):=(O.look (k:=Y)).1 d hl;rw[N];exact W
      .let(l,C,O):=S.obj n _ _ R D
       let(bb,rfl,hb):=Zm F V;refine ar9 Z I (Sd.t C hb) J B λw' s' P T=>(_,H,P,T,q ι H _ (Le.refl _ _) S ?_)
       cases hl:MW.Ag E Y with
       |none=>rw[(O.look (k:=Y)).2 hl];exact U|some d=>let(z,N,W):=(O.look (k:=Y)).1 d hl;rw[N];exact W
set_option tactic.hygienic true in
def a7k(hr:Bh 8 X.A)(hg:Gl X n)(hm:X.mg n=none)(hv:bootBuiltins n\(.type "list"))(hn:n≠"__name__")(Uk:(n==("__debug__": Str))=false)(D:Gl X Z)(U:X.mg Z=none)(G:bootBuiltins Z\(.type "range"))(Xw:Z≠"__name__")(J:(Z==("__debug__": Str))=false)(ha:PA X [a] (tEs nm W X.K (.cons a' .nil)))(he:starEach [.Call (.Name Z p') [a] [] Y] X.env=(false,eval (.Call (.Name Z p') [a] [] Y) X.env)::starEach [] X.env)(Kq:(backTo q1 (starEach [] X.env)).any (·.1)=false)(y:starEach [a] X.env=(false,eval a X.env)::starEach [] X.env)(qq:(backTo Y (starEach [] X.env)).any (·.1)=false) :
 PE X (.Call (.Name n p) [.Call (.Name Z p') [a] [] Y] [] q1) (tE nm W X.K (.aas a')):=by
 intro B s P H Q I hh;symm
 let(ι,ρ,M,d,M',S,R,e,q):=hh;rw[MW.Yt]at e;let(x,M1,e1,e):=ik e;apply _k;split at e<;>try cases e
 rename_i i;split at e<;>cases e;rename_i hi;refine jn (Eg I hg hm hv ?_ hn Uk);refine j0 (Q:=EP X B P Q) ?_ he Kq;rw[he];show wpAny _ _ (spliced ((false,eval (.Call (.Name Z p') [a] [] Y) X.env)::backTo q1 (starEach [] X.env))) _ _ s;refine mz ?_;refine jn (Eg I D U G ?_ Xw J);refine j0 (Ko (ha Y B s P H (λvs N=>∃O,vs=[.int i]/\Le ι H O N/\o4 nm X.K O N M1) I (ι,ρ,M,[.int i],M1,S,R,by simp[e1,Res.bind],λO N vs le S1 r=>?_)) λus T (vs,N,I1,r1,O,ev,X6,S1)=>?_) y qq
 .let(v,ev,rv):=K8 r rfl
  cases rv;exact(O,ev,le,S1)
 subst ev;symm
 let(u,rfl,ru):=Wk r1;let(t,rfl):=ru;apply _k;refine call_range_1 ?_;show wpAny _ _ (spliced []) _ _ _;refine uh ?_;have keep:∀b o,T.heap.get? b\o->(T.heap.push { cls:=.type "range",data:=.fields #[.int 0 T.toks,.int i t,.int 1 (T.toks+1)] }).get? b\o:=λb o e=>au _ e
 refine call_list_range (n:=i.toNat) hr.hd (dg _ rfl) (small_one (by lia) (by lia) (by lia) (by omega)) (by rw[rangeSize_one];split<;>lia) (by lia) λh' tk L c' hk F Gx=>?_
 have C:(T.heap.push { cls:=.type "range",data:=.fields #[.int 0 T.toks,.int i t,.int 1 (T.toks+1)] }).objs.size=T.heap.objs.size+1:=jm ..;have F:h'.get? (T.heap.push { cls:=.type "range",data:=.fields #[.int 0 T.toks,.int i t,.int 1 (T.toks+1)] }).objs.size=some { cls:=.type "list",dict:=none,data:=.seq L c',slots:=#[] }:=F;show EP X B P Q (.ref (T.heap.push { cls:=.type "range",data:=.fields #[.int 0 T.toks,.int i t,.int 1 (T.toks+1)] }).objs.size) _;rw[C]at F⊢;have hz:((List.range i.toNat).map λ(k:Nat)=>V.int (k:Int)).length<=sizeLine:=by simp[ue];omega
 have E:T.heap.objs.size<=T.heap.objs.size+1:=v9 _
 have hf:N (T.heap.objs.size+1)=none:=I1.Bv.fresh E;have I3:Inv X B P (upd N (T.heap.objs.size+1) (.lst ((List.range i.toNat).map λ(k:Nat)=>V.int (k:Int)))) { T with heap:=h',toks:=tk }:=
  I1.laid (a:=T.heap.objs.size+1) (t':=tk) (λb o e=>hk b o (keep b o e)) E (show Ci X.prog X.w _ _ _ (.lst _)from(hz,L.toList,c',Zx Gx,by simpa using F))
 let(S2,Bq,r2):=ad7 (X:=X) S1 hf (Zy i.toNat);exact(.ref (T.heap.objs.size+1),_,I3,rfl,q _ _ _ (X6.trans Bq) S2 r2)
end Sm
namespace Sm
open PySem L2
open MW (Ex Gm OEx Sq Dg p7 Lv Tg Res fc MO Kg Cp Op2 Blt Bm Kx Src)
theorem ag4{O:Io}{H:Hp}{K:Fg}:∀{G:List Dv}{T:List V}{is:Zl}{Y:Xs},qz K O H G T->Vals T is->MW.Xx G\Y->PyProof.Rows.IntsAre is Y
 |_,_,_,_,.nil,.nil,h=>by cases h;exact .nil
 |_,_,_,_,.cons r t,.cons rv tv,h=>by
  cases r<;>simp only[MW.Xx]at h<;>try cases h
  symm
  let(C,J,B):=dj.mp h;subst B;let(N,rfl):=rv;apply _k;exact .cons _ _ (ag4 t tv J)
theorem ag5:∀{is:Zl}{Y:Xs},PyProof.Rows.IntsAre is Y->Vals (Y.map V.int) is
 |_,_,.nil=>.nil|_,_,.cons n t h=>.cons (t,rfl) (ag5 h)
theorem aca{Y:Io}{H:Hp}{K:Fg}:∀Z:List Int,qz K Y H (Z.map MW.D.int) (Z.map V.int)
 |[]=>.nil|n::Z=>.cons (.int n) (aca Z)
def ag6(e:MW.p8 .Kr ds M=.ok d M'):∃x U Z,ds=[x]/\MW.gr M x\U/\MW.Xx U\Z/\(MW.Bp Z).length<31/\d=.vl ((MW.sortI (MW.Bp Z)).map MW.D.int)/\M'=M:=by
 match ds,e with
 |[x],e =>
  symm
  have e:Res.wy (((MW.gr M x).bind MW.Xx).bind λis=>if(MW.Bp is).length<31 then some (MW.D.vl ((MW.sortI (MW.Bp is)).map MW.D.int))else none) M=.ok d M':=e;let(T,B):=zb e;let(Z,J,Y):=iw.mp T;let(U,C,O):=iw.mp J;apply _k;split at Y
  .rename_i G
   exact(x,U,Z,rfl,C,O,G,(mj Y).symm,B)
  .cases Y
 |[],e=>cases e|_::_::_,e=>cases e
def a7l(E:Bh 8 X.A)(I:Inv X pins σ H s)(S:o4 nm X.K ι H M)(J:Rep X.K ι H x v)(P:RelV v u)(N:MW.gr M x\xs)(T:MW.Xx xs\ns)(G:(MW.Bp ns).length<31)(h:∀Z tk U,(∀b o,s.heap.get? b\o->Z.get? b\o)->Yd.Ea X.w Z s.heap.objs.size (λk=>k∈ns) U->U<=(MW.Bp ns).length->Q (.ref s.heap.objs.size) { s with heap:=Z,toks:=tk }) :
 wpAny (model X.prog X.w) X.A (call (.type "set") [u]) Q X.xe s:=by
 symm
 let(p,R,rfl,L,C):=uy S J N;cases P;let(is,Y,B,_):=I.list (Kc.of L);apply _k;exact Yd.aml E.hd B.isList (by simpa using ag4 C Y T) (λk O=>(MW.Wa k ns).mpr O) G h
def an0(H:Bh 8 X.A)(I1:Inv X pins σ U s1)(y:o4 nm X.K qq U M')(C:Yd.Ea X.w h' a (λk=>k∈ns) n')(I:s1.heap.objs.size<=a)(keep:∀b o,s1.heap.get? b\o->h'.get? b\o)(N:n'<31)(q:∀Z H' v,Le qq U Z H'->o4 nm X.K Z H' M'->Rep X.K Z H' (.vl ((MW.sortI (MW.Bp ns)).map MW.D.int)) v->Q v H') :
 wpAny (model X.prog X.w) X.A (call (.builtin "sorted") [.ref a]) (EP X pins σ Q) X.xe { s1 with heap:=h',toks:=tk }:=by
 refine Yd.afd (s:={ s1 with heap:=h',toks:=tk }) H.hd C N λE Y p2 out p F O G so S mem z_=>?_
 let(c,g):=z_;have B:(MW.Bp ns).length<=n':=by
  symm
  let(m,o,d,r,t,X,W,rfl,_):=C;have:=Yd.ah4 (MW.ac8 ns) λk u=>(W k).mp ((MW.Wa k ns).mp u)
  rw[du]at this;apply _k;exact this
 obtain rfl:=MW.aka so S mem;symm
 let(l,_,_,_,z,_):=C.get;have T:s1.heap.objs.size<=p2:=gh (gh I (xq (cj z))) O
 have M:U p2=none:=I1.Bv.fresh T;have J:((MW.sortI (MW.Bp ns)).map V.int).length<=sizeLine:=by rw[du,(MW.Mj _).length_eq,ue];exact e_ (c_ B (b_ N ⋯))
 have j:Inv X pins σ (upd U p2 (.lst ((MW.sortI (MW.Bp ns)).map V.int))) { s1 with heap:=E,toks:=Y }:=
  I1.laid (a:=p2) (t':=Y) (λb o e=>F b o (keep b o e)) T (show Ci X.prog X.w _ _ _ (.lst _)from(J,out.toList,c,ag5 G,by simpa using g))
 let(L,P,R):=ad6 (X:=X) y M (aca _);apply _k;exact(.ref p2,_,j,rfl,q _ _ _ P L R)
def an1(g:Bh 8 X.A)(hg:Gl X n)(i:X.mg n=none)(o:bootBuiltins n\(.builtin "sorted"))(b:n≠"__name__")(Uk:(n==("__debug__": Str))=false)(B:Gl X Z)(N:X.mg Z=none)(O:bootBuiltins Z\(.type "set"))(c:Z≠"__name__")(C:(Z==("__debug__": Str))=false)(ha:PA X [a] (tEs nm W X.K (.cons a' .nil)))(y:starEach [.Call (.Name Z p') [a] [] U] X.env=(false,eval (.Call (.Name Z p') [a] [] U) X.env)::starEach [] X.env)(Kq:(backTo q1 (starEach [] X.env)).any (·.1)=false)(E:starEach [a] X.env=(false,eval a X.env)::starEach [] X.env)(P:(backTo U (starEach [] X.env)).any (·.1)=false) :
 PE X (.Call (.Name n p) [.Call (.Name Z p') [a] [] U] [] q1) (tE nm W X.K (.blt .Kr (.cons a' .nil))):=by
 intro T s j H Q I m;symm
 let(l,ρ,M,d,D,S,R,e,q):=m;rw[MW.Nk]at e;let(ds,M1,e1,e):=ik e;let(x,xs,ns,rfl,e2,f,F,rfl,rfl):=ag6 e;apply _k;refine jn (Eg I hg i o ?_ b Uk);refine xu (Q:=EP X T j Q) ?_ y Kq;rw[y];show wpAny _ _ (spliced ((false,eval (.Call (.Name Z p') [a] [] U) X.env)::backTo q1 (starEach [] X.env))) _ _ s;refine mz ?_;refine jn (Eg I B N O ?_ c C);refine j0 (Ko (ha U T s j H (λV G=>∃Y v,V=[v]/\Rep X.K Y G x v/\Le l H Y G/\o4 nm X.K Y G D) I (l,ρ,M,[x],D,S,R,e1,λY G V le J r=>?_)) λus s1 z=>?_) E P
 .let(v,ev,k):=K8 r rfl
  exact(Y,v,ev,k,le,J)
 symm
 let(V,G,I1,r1,Y,v,rfl,t,X6,J):=z;let(u,rfl,ru):=Wk r1;apply _k;refine a7l g I1 J t ru e2 f F λh' tk n' keep hS Rx=>?_
 show wpAny _ _ (spliced []) _ _ _;refine uh ?_;exact an0 g I1 J hS (bz _) keep (c_ Rx F) λL H' v le=>q L H' v (X6.trans le)
def bd1{X:Cx}:Ez X (compareOp .IsNot) (Zj nm X.K .isn):=λY s T H v u J C Q I B N O=>by
 let(E,M,x,y,b,S,G,L,e,q):=O;simp only[MW.Km]at e;cases L<;>try(cases e;done)
 refine ax2 Y s T H v _ J C Q I B N (rfl,?_);cases G<;>first|(cases e;done)|(cases e;exact q)
def ath(e:MW.Xx Z\is)(r:qz K ι H Z U):U=is.map V.int:=by
 induction Z generalizing is U with
 |nil=>cases e;cases r;rfl
 |cons d Z T =>
  cases r with
  |cons G r =>
   cases G<;>try(cases e;done)
   let(is,Y,rfl):=dj.mp (show(MW.Xx Z).map (_::·)\is from e);rw[T Y r];rfl
def ati(e:MW.aww d\c)(r:Rep K Z H d v):∃a,∃g:Nat->Int,v=.ref a/\H a\(.tup (((List.range c).map g).map V.int)):=by
 cases r with
 |@tup a ds vs h rl =>
  let(is,T,rfl):=dj.mp (show(MW.Xx ds).map (·.length)\c from e);refine(a,λj=>is.getD j 0,rfl,?_);rw[h,ath T rl]
  congr 3
  apply q9;intro j
  by_cases Y:j<is.length
  .simp[Y]
  .simp[Y]
 |_=>cases e
def an2(e:MW.Ur Z\ls)(r:qz K ι H Z U):∃g:Nat->Nat->Int,U.length=ls.length/\∀(k c:Nat),ls[k]?\c->∃b,U[k]?\(.ref b)/\H b\(.tup (((List.range c).map (g k)).map V.int)):=by
 induction Z generalizing ls U with
 |nil=>cases e;cases r;exact(λ_ _=>0,rfl,by simp)
 |cons d Z J =>
  cases r with
  |cons C r =>
   simp only[MW.Ur]at e;cases e1:MW.aww d with
   |none=>rw[e1]at e;cases e
   |some c =>
    cases e2:MW.Ur Z with
    |none=>rw[e1,e2]at e;cases e
    |some L =>
     rw[e1,e2]at e;cases e;symm
     let(g,O,G):=J e2 r;let(b,B,rfl,T):=ati e1 C;apply _k;refine⟨λk=>match k with|0=>B|k+1=>g k,by simp[O],λk N Y=>?_⟩;cases k with
     |zero=>cases Y;exact(b,rfl,T)|succ k=>exact G k N Y
def Tz(H:Hp)(T:Y3)(v:V)(g:Nat->Nat->Int):Prop:=∃a Y,v=.ref a/\H a\(.tup Y)/\Y.length=T.length/\∀(k c:Nat),T[k]?\c->∃b,Y[k]?\(.ref b)/\H b\(.tup (((List.range c).map (g k)).map V.int))
def atj(e:MW.aid d\ls)(r:Rep K Z H d v):∃g,Tz H ls v g:=by
 cases r with
 |@tup a ds vs h rl =>
  let(g,Y,T):=an2 (show MW.Ur ds\ls from e) rl;exact(g,a,vs,rfl,h,Y,T)
 |_=>cases e
def azu{X:Cx}{r:Xs}{us:Zl}(h:Vals (r.map V.int) us):ItemsAre (intKind X.prog X.w) r us:=by
 induction r generalizing us with
 |nil=>cases h;exact .nil
 |cons i r Y =>
  cases h with
  |cons T t =>
   let(G,rfl):=T;exact .cons (by simp[intKind,Value.isInt]) (Y t)
theorem Tz.at{X:Cx}(h:Tz H ls v g)(I:Inv X pins σ H s)(Q:ls≠[])(r:RelV v u):Sr.AtN X.prog X.w s.heap u:=by
 symm
 let(a,vs,rfl,N,C,E):=h;cases r;let(B,T,(o,D,Z,n,O),_):=I.tuple (O9.of N);have Y:B.length=ls.length:=T.length.symm.trans C;apply _k;refine(a,o,_,n,rfl,D,Z,O,by rw[gw,Y];exact List.length_pos_iff.mpr Q,λx M=>?_);let(k,J):=vg.mp (show x∈B from M);have kl:k<ls.length:=by rw[<-Y];exact(ao.mp J).1
 symm
 let(b,S,A):=E k _ (bw kl);let(x',G,V):=T.get S;rw[J]at G;cases G;cases V;let(U,K,(L,R,P,W,F),_):=I.tuple (O9.of A);apply _k;exact(b,_,rfl,L,_,W,R,P,F,azu K)
def Tz.rep(h:Tz H Z v g)(L:n < U.l.length)(P:U.s n e=g):Rep K U H (MW.syM n e Z) v:=by
 symm
 let(a,vs,rfl,E,N,C):=h;apply _k;refine .tup E ?_;have:∀(Y:Nat)(Z:Y3)(vs:List V),vs.length=Z.length->(∀(k c:Nat),Z[k]?\c->∃b,vs[k]?\(.ref b)/\H b\(.tup (((List.range c).map (g (Y+k))).map V.int)))->qz K U H ((Z.zipIdx Y).map λq=>MW.syR n e q.2 q.1) vs:=λY Z=>by
  induction Z generalizing Y with
  |nil=>intro vs T _;cases vs with
   |nil=>exact .nil|cons _ _=>cases T
  |cons c Z G =>
   intro vs T h;cases vs with
   |nil=>cases T
   |cons v vs =>
    let(b,O,B):=h 0 c rfl;cases O;refine .cons (.tup B ?_) (G (Y+1) vs (by simpa using T) λk c J=>by have:=h (k+1) c J;rwa [show Y+(k+1)=Y+1+k by lia]at this);clear B h G T
    induction List.range c with
    |nil=>exact .nil|cons j l G=>exact .cons (by show Rep K U H (.sy (.v n e Y j)) (.int (g Y j));rw[<-P];exact .sy (y:=.v n e Y j) L) G
 exact this 0 Z vs N λk c J=>by rw[u0];exact C k c J
def Tz.up(h:Tz H ls v g)(k:∀a Z,H a\(.tup Z)->U a\(.tup Z)):Tz U ls v g:=by
 symm
 let(a,Z,rfl,O,G,T):=h;apply _k;refine(a,Z,rfl,k _ _ O,G,λi c B=>?_);let(b,Y,J):=T i c B;exact(b,Y,k _ _ J)
def an3(e:MW.afi U M=.ok d M'):∃Z,d=.ref M.length/\M'=M++[.lst (MW.Yr M.length Z U.length)]/\(∀x∈U,MW.aid x\Z/\Z≠[])/\U.length<6000000:=by
 cases U with
 |nil=>cases e;exact([],rfl,rfl,by simp,by decide)
 |cons x U =>
  simp only[MW.afi]at e;cases e1:MW.aid x with
  |none=>rw[e1]at e;cases e
  |some Z =>
   rw[e1]at e;let((J,G,Y),e):=aef e;cases e;exact(Z,rfl,rfl,λx T=>(G x T,J),Y)
def atk{f:Nat->Dv}{g:Nat->V}{l:Y3}(h:∀i∈l,Rep K Z H (f i) (g i)):qz K Z H (l.map f) (l.map g):=by
 induction l with
 |nil=>exact .nil|cons i l T=>exact .cons (h i (by simp)) (T λi Y=>h i (bu _ Y))
def azv{f:Nat->V}{us:Zl}(h:∀(i:Nat) u,us[i]?\u->RelV (f i) u):Vals ((List.range us.length).map f) us:=by
 induction us generalizing f with
 |nil=>exact .nil
 |cons u us T =>
  rw[ie,List.range_succ_eq_map,f9,Aw];exact .cons (h 0 u rfl) (T λi u Y=>h (i+1) u Y)
def atl(hr:Bh 8 X.A):Dp X (.builtin "sorted") (rB nm X.K .sorted):=λqv s σ H vs us Q I Xi hh=>by
 symm
 let(F,M,ds,d,M',S,r,e,q):=hh;let(x,rfl,Z):=aee e;apply _k;cases hx:MW.gr M x with
 |none=>rw[hx]at Z;cases Z
 |some U =>
  rw[hx]at Z;symm
  let(E,rfl,rfl,hm,hl):=an3 Z;let(v,rfl,rv):=K8 r rfl;let(u,rfl,ru):=Wk Xi;let(p,ws,rfl,hp,rl):=uy S rv hx;cases ru;let(J,N,pl,_):=I.list (Kc.of hp);have l1:J.length=U.length:=by rw[<-N.length,<-rl.length]
  have P:∀u∈J,∃v g,RelV v u/\Tz H E v g/\E≠[]:=λu G=>by
   let(i,T):=vg.mp G;have Yc:i<U.length:=by rw[<-l1];exact(ao.mp T).1
   symm
   let(v,O,B):=rl.get (bw Yc);let(u',D,h4):=N.get O;rw[T]at D;cases D;let(h5,h6):=hm _ (m5 Yc);let(g,h7):=atj h5 B;apply _k;exact(v,g,h4,h7,h6)
  have G:X.A.in1.in1.units<cLine:=Nat.lt_of_succ_lt (aby hr.in1.in1)
  apply _k;refine Calls.call_function_entry PyProof.Rows.kind_sorted PyProof.Rows.plain_sorted PyProof.Rows.entry_sorted (PyProof.Rows.args_sorted1 _) ?_;unfold Builtin.«sorted»;refine aa (m:=checkCount "sorted" 1 1 _) (aj ?_);have z:J.length<=sizeLine:=by rw[l1];exact gh (xq hl) ⋯
  refine aa (PyProof.Rows.collect_list pl.isList ?_ (by simpa using z));generalize hh':(s.heap.push (PyProof.Rows.seqObj "list" #[] 0)).update s.heap.objs.size (Obj.mapSeq (·++J.toArray))=h';have L:s.heap.objs.size<=h'.objs.size:=by rw[<-hh',Heap.size_update,PyProof.Rows.size_push'];exact v9 _
  have kp:∀b o,s.heap.get? b\o->h'.get? b\o:=λb o q=>by
   have Il:b<s.heap.objs.size:=cj q
   rw[<-hh',Heap.get?_update_ne _ _ _ _ (gn Il),Heap.get?_push_ne _ _ _ (gn Il)];exact q
  clear hh';refine aa (wpAny_newList ?_ (by simpa using z));have W:(h'.push { cls:=.type "list",data:=.seq J.toArray }).get? h'.objs.size=some { cls:=.type "list",data:=.seq J.toArray }:=dg _ rfl;have Zv:∀b o,h'.get? b\o->(h'.push { cls:=.type "list",data:=.seq J.toArray }).get? b\o:=λb o e=>au _ e
  refine aa (ji (jt PyProof.Rows.slot_list_sort (_,W,rfl) PyProof.Rows.entry_list_sort (Sr.ame (n:=0) G W z (λu G=>?_) λqk c Y qq hD R hs=>(_,rfl,aj (_,rfl,?_))) (PyProof.Rows.args_list_sort _)))
  .let(v,g,O,B,D):=P u G
   exact(B.at I D O).keep λb o _ e=>Zv b o (kp b o e)
  .have ex:∀i:Nat,∃z:V×(Nat->Nat->Int),∀u,Y[i]?\u->RelV z.1 u/\Tz H E z.1 z.2:=λi=>by
    cases T:Y[i]? with
    |none=>exact((.non,λ_ _=>0),λu h=>by cases h)
    |some u =>
     let(v,g,O,B,_):=P u (hs u (bf T));exact((v,g),λu' h=>by cases h;exact(O,B))
   let(f,hf):=Classical.axiomOfChoice ex;have C:=I.Bv.fresh L;have ho:∀le:Le F H (F.adds h'.objs.size λe=>(f e).2) (upd H h'.objs.size (.lst ((List.range Y.length).map λi=>(f i).1))),qz X.K (F.adds h'.objs.size λe=>(f e).2) (upd H h'.objs.size (.lst ((List.range Y.length).map λi=>(f i).1))) (MW.Yr M.length E U.length) ((List.range Y.length).map λi=>(f i).1):=λle=>by
    rw[MW.Yr,<-l1,<-R];refine atk λi T=>?_
    have T:=jh.mp T;refine((hf i _ (bw T)).2.up le.tup).rep ?_ ?_
    .show M.length<(F.l++[h'.objs.size]).length
     rw[jw,S.len];exact jy _
    .exact congrFun (dm S.len.symm) i
   let(S2,Bq):=S.news (p:=h'.objs.size) (H':=upd H h'.objs.size (.lst ((List.range Y.length).map λi=>(f i).1))) (o:=.lst (MW.Yr M.length E U.length)) (λe=>(f e).2) C (λa u e=>by rw[qm (qt e C)];exact e) λle=>(_,yr,ho le)
   refine(.ref h'.objs.size,_,I.laid (t':=s.toks) (λb o e=>qq b o (gn (cj (kp b o e))) (Zv b o (kp b o e))) L (show Ci X.prog X.w _ qk _ (.lst _)from(by rw[du,Bo,R];exact z,Y,c,azv λi u G=>(hf i u G).1,hD)),rfl,q _ _ _ Bq S2 (.ref ?_));show(F.l++[h'.objs.size])[M.length]?=_;rw[<-S.len];simp
end Sm
namespace Ck
open PySem L2 Sm
open MW (Ex Gm OEx Sq Dg p7 Lv Tg Res fc MO Kg Cp Op2 Blt Bm Kx Src)
structure Tab where
 fns:List (Option (Str×Nat))
 cls:List (Option (Str×Nat))
 mts:List (Str×Nat)
 Ud:List Str
 azw:List (Str×Int)
noncomputable def Rb:List Str:=["len","tuple","list","dict","max","min","isinstance","range","enumerate","set","zip","all","bool","int","sum","sorted"]
structure atm(T:Tab)(nm:Nm)(W:Kg)(k:Nat)(P:Program)(w:World)(K:Fg)(mg:Zs)(base:Heap):Prop where
 fn:∀f x n,T.fns[f]?\(some (x,n))->∃fa fd ps,Ii P w K mg base CX0 k fa fd ps (spF nm W K n f)/\mg x\(.ref fa)/\PySem.W.keepIn K (.ref fa)=true/\Binds K fd ps []
 cl:∀c x n,T.cls[c]?\(some (x,n))->∃C fa fd ps cl,Mk K C fa/\Ii P w K mg base CX0 k fa fd ps (spF nm W K (n+1) cl.init)/\mg x\(.ref C)/\Binds K fd ps []/\W.cls[c]?\cl/\nm.cls c\C
 mt:∀m x n,T.mts[m]?\(x,n)->∃C fa fd ps f,Cls K C/\Meth K C x fa/\Ii P w K mg base CX0 k fa fd ps (spF nm W K (n+1) f)/\Binds K fd ps [] /\
  (∀c' cl',W.cls[c']?\cl'->∀g,cl'.meths.lookup m\g->nm.cls c'\C/\g=f)/\∀i,nm.fld i≠x
 fl:∀f x,T.Ud[f]?\x->x=nm.fld f/\∀c C,nm.cls c\C->Cls K C/\Lx K C x
 cs:∀x i,(x,i)∈T.azw->∃t,mg x\(.int i t)
 bt:∀x∈Rb,mg x=none
structure Ctx where
 N:List Str
 sc:List (Str×NameKind)
 fn:Bool
 own:List Str
structure Gr(T:Tab)(nm:Nm)(W:Kg)(k:Nat)(c:Ctx)(X:Cx):Prop where
 N:X.N=c.N
 nd:c.N.Nodup
 sc:X.env.scope.names=c.sc
 kd:X.env.scope.kind=.function
 calm:X.calm=true
 room:Bh (k+16) X.A
 fnl:c.fn=true->(∀n,X.fn n=true)/\PassesOwn (model X.prog X.w) X.A X.env X.xe
 tab:atm T nm W k X.prog X.w X.K X.mg X.base
 ow:∀n,c.own.contains n=true->X.fn n=true
def Rc{Y U:String}(K:Fg)(h:(if(Value.type Y==Value.type U)=true then some true else if PySem.W.kitMeta U=true then(fastBuiltinMro Y).map (·.contains (.type U))else none)\b):PySem.W.kitOne K (.type Y) (.type U)\b:=h
def Z0(Y:PySem.W.kitOne K (.type Ty) (.type "tuple")\a)(T:PySem.W.kitOne K (.type Ty) (.type "list")\b):PySem.W.kitAny K (.type Ty) [.type "tuple",.type "list"]\(a||b):=by cases a<;>cases b<;>simp[PySem.W.kitAny,Y,T]
noncomputable def Z3(n:Str):Bool:=!(n==("__debug__": Str))&&(!(n==("__classdict__": Str))&&!(n==("__name__": Str)))
noncomputable def an4(c:Ctx)(n:Str):Bool:=match c.sc.lookup n with|some .local=>true|some .cell=>true|some .free=>true|_=>false
noncomputable def a7m(c:Ctx)(n:Str):Bool:=match c.sc.lookup n with|some .local=>true|some .cell=>c.fn||c.own.contains n|_=>false
def Vn(c:Ctx)(n:Str):Bool:=Z3 n&&(match c.sc.lookup n with|some .globalImplicit=>true|_=>false)
noncomputable def alb(c:Ctx)(i:Nat)(n:Str):Bool:=match c.N[i]? with|some m=>m==n|none=>false
def Cm:List Expr->Bool
 |[]=>true|e::r=>noStar e&&Cm r
noncomputable def Z4:Expr->Bool
 |.Name ..=>true|.Attribute ..=>true|.Subscript ..=>true|.Call (.Attribute ..) ..=>true|_=>false
def uv(h:Z3 n=true):(n==("__debug__": Str))=false/\(n==("__classdict__": Str))=false/\n≠"__name__":= by simp only[Z3,az,Bool.not_eq_true']at h;exact(h.1,h.2.1,λz=>by have:=h.2.2;rw[z]at this;simp at this)
set_option tactic.hygienic true in
def a7n(h:Gr T nm W k c X)(B:an4 c n=true):Vis X.env.scope n:=by unfold Vis;rw[h.sc];unfold an4 at B;split at B<;>rename_i e<;>first|exact .inl e|exact .inr (.inl e)|exact .inr (.inr e)|cases B
def a7o(h:Gr T nm W k c X)(Y:a7m c n=true):L2.Loc X.env.scope n/\(X.fn n=true\/X.env.scope.names.lookup n\.local):=by
 unfold L2.Loc;rw[h.sc];unfold a7m at Y;split at Y
 .rename_i e;exact(.inl e,.inr e)
 .rename_i e;rcases(Bool.or_eq_true _ _).mp Y with z|z
  .exact(.inr e,.inl ((h.fnl z).1 n))
  .exact(.inr e,.inl (h.ow n z))
 .cases Y
def Gi(h:Gr T nm W k c X)(Y:Vn c n=true):Gl X n/\Z3 n=true:=by
 unfold Vn at Y;rw[az]at Y;refine(?_,Y.1);have Y:=Y.2;unfold Gl Env.kindOf;rw[h.sc];split at Y
 .rename_i e;exact e
 .cases Y
set_option tactic.hygienic true in
def slot_of(h:Gr T nm W k c X)(B:alb c i n=true):X.N[i]?\n:=by
 rw[h.N];unfold alb at B;split at B
 .rename_i m e;rw[e,eq_of_beq B]
 .cases B
theorem Z5{Y:Env}:∀{T:Ya},Cm T=true->starEach T Y=T.map λe=>(false,eval e Y)
 |[],_=>rfl
 |e::r,h=>by
  simp only[Cm,az]at h;rw[pq h.1,Z5 h.2];rfl
def yo(h:Cm Z=true):(backTo pos (starEach Z env)).any (·.1)=false:=by rw[Z5 h];simp[backTo]
def ajd(h:Cm Z=true):(backTo pos (starEach Z env)).all (λx=>!x.1)=true:=by rw[Z5 h];simp[backTo]
set_option tactic.hygienic true in
def Iw(h:Z4 o=true):attributeBase o n env (eval o env)=eval o env:=by
 cases o<;>try first|rfl|(cases h;done)
 rename_i f as T p;cases f<;>first|rfl|(cases h)
def azx(h:Z4 o=true)(G:(apos.endLine==pos.line)=true) :
 eval (.Call (.Attribute o m apos) [] [] pos) env=(do
  let Z<-eval o env
  standAt apos.atName
  let (f,first) <-holding [Z] (getMethod Z m (do return (<-importBound o env).getD true))
  callWith pos f first (backTo pos (starEach [] env)) (backToKw pos (keywordEach [] env))):=by
 have Y:methodCallForm 0 (backTo pos (starEach [] env)) (backToKw pos (keywordEach [] env))=true:=rfl;show(do
  let Z<-attributeBase o m env (eval o env)
  standAt apos.atName
  methodCall o m apos pos env Z 0 (backTo pos (starEach [] env)) (backToKw pos (keywordEach [] env)))=_
 rw[Iw h];unfold methodCall;rw[Y];have T:methodCallPos true o env apos pos=pure pos:=by unfold methodCallPos;rw[G];rfl
 rw[T];simp only[calleeOf,mq,pure_bind]
noncomputable def Eo{Y:Type}(o:Option Y)(f:Y->Bool):Bool:=match o with|some x=>f x|none=>false
def j7(h:Eo o f=true):∃x,o\x/\f x=true:=by
 cases o with
 |none=>cases h|some x=>exact(x,rfl,h)
noncomputable def Ue{α:Type}(l:List α):Option α:=match l with|[x]=>some x|_=>none
def De(h:Ue l\x):l=[x]:=by
 cases l with
 |nil=>cases h
 |cons y r=>cases r with
  |nil=>cases h;rfl|cons _ _=>cases h
def car{Y:Type}{P:Y->Prop}{o:Option {x//P x}}{q:Y}(h:o.map Subtype.val\q):P q:=by
 cases o with
 |none=>cases h|some x=>cases h;exact x.2
noncomputable def Pb(a:Expr):Option Str:=Option.map Subtype.val (α:={q:Str//∃p,a=.Name q p}) (match a with|.Name n p=>some (n,p,rfl)|_=>none)
noncomputable def azy(a:Expr):Option Const:=Option.map Subtype.val (α:={q:Const//∃k p,a=.Constant q k p}) (match a with|.Constant n k p=>some (n,k,p,rfl)|_=>none)
noncomputable def bd2(a:Expr):Option (Expr×Operator×Expr):=Option.map Subtype.val (α:={q:Expr×Operator×Expr//∃p,a=.BinOp q.1 q.2.1 q.2.2 p}) (match a with|.BinOp l o r p=>some ((l,o,r),p,rfl)|_=>none)
noncomputable def dUn(a:Expr):Option (UnaryOp×Expr):=Option.map Subtype.val (α:={q:UnaryOp×Expr//∃p,a=.UnaryOp q.1 q.2 p}) (match a with|.UnaryOp o l p=>some ((o,l),p,rfl)|_=>none)
noncomputable def azz(a:Expr):Option (Expr×List CmpOp×List Expr):=Option.map Subtype.val (α:={q:Expr×List CmpOp×List Expr//∃p,a=.Compare q.1 q.2.1 q.2.2 p}) (match a with|.Compare l o r p=>some ((l,o,r),p,rfl)|_=>none)
noncomputable def a2p(a:Expr):Option (BoolOp×List Expr×Pos):=Option.map Subtype.val (α:={q:BoolOp×List Expr×Pos//a=.BoolOp q.1 q.2.1 q.2.2}) (match a with|.BoolOp o l p=>some ((o,l,p),rfl)|_=>none)
noncomputable def a7p(a:Expr):Option (Expr×Expr×Expr):=Option.map Subtype.val (α:={q:Expr×Expr×Expr//∃p,a=.IfExp q.1 q.2.1 q.2.2 p}) (match a with|.IfExp t l r p=>some ((t,l,r),p,rfl)|_=>none)
noncomputable def ag7(a:Expr):Option (List Expr):=Option.map Subtype.val (α:={q:List Expr//∃k p,a=.Tuple q k p}) (match a with|.Tuple l k p=>some (l,k,p,rfl)|_=>none)
noncomputable def a7q(a:Expr):Option (List Expr):=Option.map Subtype.val (α:={q:List Expr//∃p,a=.List q p}) (match a with|.List l p=>some (l,p,rfl)|_=>none)
noncomputable def a7r(a:Expr):Option (List (Option Expr)×List Expr):=Option.map Subtype.val (α:={q:List (Option Expr)×List Expr//∃p,a=.Dict q.1 q.2 p}) (match a with|.Dict k v p=>some ((k,v),p,rfl)|_=>none)
noncomputable def atn(a:Expr):Option (Expr×Expr):=Option.map Subtype.val (α:={q:Expr×Expr//∃p,a=.Subscript q.1 q.2 p}) (match a with|.Subscript l r p=>some ((l,r),p,rfl)|_=>none)
noncomputable def dSl(a:Expr):Option (Option Expr×Option Expr×Option Expr):=Option.map Subtype.val (α:={q:Option Expr×Option Expr×Option Expr//∃p,a=.Slice q.1 q.2.1 q.2.2 p}) (match a with|.Slice l r s p=>some ((l,r,s),p,rfl)|_=>none)
noncomputable def ato(a:Expr):Option (Expr×List Expr×List Keyword×Pos):=Option.map Subtype.val (α:={q:Expr×List Expr×List Keyword×Pos//a=.Call q.1 q.2.1 q.2.2.1 q.2.2.2}) (match a with|.Call f l k p=>some ((f,l,k,p),rfl)|_=>none)
noncomputable def atp(a:Expr):Option (Expr×Str×Pos):=Option.map Subtype.val (α:={q:Expr×Str×Pos//a=.Attribute q.1 q.2.1 q.2.2}) (match a with|.Attribute l n p=>some ((l,n,p),rfl)|_=>none)
noncomputable def ag8(a:Expr):Option (Expr×List Comprehension×Scope):=Option.map Subtype.val (α:={q:Expr×List Comprehension×Scope//∃p,a=.ListComp q.1 q.2.1 q.2.2 p}) (match a with|.ListComp e g s p=>some ((e,g,s),p,rfl)|_=>none)
def Hk(h:Pb a\n):∃p,a=.Name n p:=(car h :)
def aej(h:azy a\n):∃k p,a=.Constant n k p:=(car h :)
def az0(h:bd2 a\(l,o,r)):∃p,a=.BinOp l o r p:=(car h :)
def atq(h:dUn a\(o,l)):∃p,a=.UnaryOp o l p:=(car h :)
def aek(h:azz a\(l,o,r)):∃p,a=.Compare l o r p:=(car h :)
def atr(h:a2p a\(o,r,p)):a=.BoolOp o r p:=(car h :)
def az1(h:a7p a\(t,l,r)):∃p,a=.IfExp t l r p:=(car h :)
def Oe(h:ag7 a\l):∃k p,a=.Tuple l k p:=(car h :)
def alc(h:a7q a\l):∃p,a=.List l p:=(car h :)
def ald(h:a7r a\(k,l)):∃p,a=.Dict k l p:=(car h :)
def ael(h:atn a\(l,r)):∃p,a=.Subscript l r p:=(car h :)
def a7s(h:dSl a\(l,r,s)):∃p,a=.Slice l r s p:=(car h :)
def ag9(h:ato a\(f,l,k,p)):a=.Call f l k p:=(car h :)
def aem(h:atp a\(l,n,p)):a=.Attribute l n p:=(car h :)
def Vc(h:ag8 a\(e,g,s)):∃p,a=.ListComp e g s p:=(car h :)
def dCN(a:Expr):Option (Str×List Expr):=(ato a).bind λq=>if q.2.2.1.isEmpty then(Pb q.1).map λn=>(n,q.2.1)else none
def Ij(h:dCN a\(n,l)):∃p p',a=.Call (.Name n p) l [] p':=by
 let((f,C,k,p),J,T):=iw.mp h;split at T
 .rename_i Y
  let(O,G,B):=dj.mp T;let(p',e):=Hk G;have e:f=_:=e;have Y:k=[]:=uc.mp Y;cases B;exact(p',p,by rw[ag9 J,e,Y])
 .cases T
def dCA(a:Expr):Option (Expr×Str×Pos×List Expr×Pos):=(ato a).bind λq=>if q.2.2.1.isEmpty then(atp q.1).map λn=>(n.1,n.2.1,n.2.2,q.2.1,q.2.2.2)else none
def atu(h:dCA a\(o,n,ap,l,p)):a=.Call (.Attribute o n ap) l [] p:=by
 let((f,L,k,N),B,T):=iw.mp h;split at T
 .rename_i Y
  let((E,C,J),G,O):=dj.mp T;have e:f=_:=aem G;have Y:k=[]:=uc.mp Y;cases O;rw[ag9 B,e,Y]
 .cases T
noncomputable def bd3(l:Ya):List Str:=l.filterMap Pb
noncomputable def Gj(e:Expr):List Str:=match ag7 e with|some l=>bd3 l|none=>bd3 [e]
noncomputable def hid(i:Nat):Str:=⟨#[0,i]⟩
def an5(Y:Yf)(p:Str×Nat):Str:=if Y.contains p.1=true then hid p.2 else p.1
noncomputable def Xr(N Y:Yf):List Str:=N.zipIdx.map (an5 Y)++Y
noncomputable def az2(c:Ctx)(Y:X0):List (Str×NameKind):=Y.map λy=>if(y.2==NameKind.free&&c.sc.lookup y.1==some .cell)then(y.1,NameKind.cell)else(y.1,y.2)
def aha(c:Ctx)(Y:Scope)(T:Yf):Ctx:=(Xr c.N T,az2 c Y.names,false,(Y.names.filter λy=>y.2==NameKind.cell).map (·.1))
def a7t(c:Ctx)(Y:Scope)(T:Yf):Bool:=
 decide (Y.kind=.function)&&(Y.names.all (λy=>Y.names.lookup y.1==some y.2) &&
 (Y.names.all (λy=>!(y.2==NameKind.free)||(c.sc.lookup y.1==some .cell||c.sc.lookup y.1==some .free))&&(decide ((Xr c.N T).Nodup) &&
 c.N.zipIdx.all (λp=>!(an4 (aha c Y T) (an5 T p))||(an5 T p==p.1&&Y.names.lookup (an5 T p)==some .free)))))
noncomputable def bd4:Op2->Operator
 |.add=>.Add|.sub=>.Sub|.mul=>.Mult|.fdiv=>.FloorDiv|.mod=>.Mod|.pow=>.Pow
noncomputable def az3:Cp->Option CmpOp
 |.eq=>some .Eq|.ne=>some .NotEq|.lt=>some .Lt|.le=>some .LtE|.gt=>some .Gt|.ge=>some .GtE|.inn=>some .In|.Uq=>some .NotIn|.isn=>some .IsNot
noncomputable def a7u:Blt->Option Str
 |.len=>some "len"|.tuple=>some "tuple"|.list=>some "list"|.dict=>some "dict"|.max=>some "max"|.min=>some "min"
 |.all=>some "all"|.sorted=>some "sorted"
 |_=>none
noncomputable def bmN:Bm->Option Str
 |.append=>some "append"|.extend=>some "extend"|.index=>some "index"|.get=>some "get"
def a7v(T:Tab)(c:Ctx)(d:MW.D)(a:Expr):Bool:=
 match d with
 |.int i=>Eo (azy a) (λk=>decide (k=.int i))||Eo (Pb a) λn=>Vn c n&&T.azw.contains (n,i)
 |.bl i=>Eo (azy a) λk=>decide (k=.bool i)
 |.non=>Eo (azy a) λk=>decide (k=.none)
 |_=>false
def tg1(c:Ctx)(Y i:Nat)(e:Expr):Bool:=Eo (Pb e) λn=>alb c i n&&(a7m c n&&decide (Y<=i))
def an6(c:Ctx)(Y:Nat):List Nat->List Expr->Bool
 |[],[]=>true|i::is,e::ts=>tg1 c Y i e&&an6 c Y is ts|_,_=>false
def tgB(c:Ctx)(Y:Nat)(t:Tg)(e:Expr):Bool:=
 match t with
 |.name i=>tg1 c Y i e|.names is=>Eo (ag7 e) λT=>an6 c Y is T
def Vd(e:Expr):Bool:=(a7p e).isNone
noncomputable def fnB(l:List (Option (Str×Nat)))(f:Nat)(n:Str)(k:Nat):Bool:=decide (l[f]?\(some (n,k)))
noncomputable def mtB(l:List (Str×Nat))(f:Nat)(n:Str)(k:Nat):Bool:=decide (l[f]?\(n,k))
noncomputable def flB(l:Yf)(f:Nat)(n:Str):Bool:=decide (l[f]?\n)
def alf(c:Ctx)(k:Nat)(t:Tg)(g:Comprehension)(Y:Scope):Bool:=
 a7t c Y (Gj g.target)&&((k==(Gj g.target).length)&&(tgB (aha c Y (Gj g.target)) c.N.length t g.target&&(Im g.iter&&decide (g.is_async=0))))
def atv(o:BoolOp)(a:Expr)(x y:Expr->Bool):Bool:=
 Eo (a2p a) λq=>decide (q.1=o)&&(match q.2.1 with
  |l::r::rest=>(Vd l&&x l)&&(match rest with|[]=>Vd r&&y r|_::_=>y (.BoolOp o (r::rest) q.2.2))
  | _=>false)
def atw(c:Ctx)(T:Str)(a:Expr)(f:Expr->Bool):Bool:=Eo (dCN a) λq=>match q.2 with
 |[l,t]=>Eo (Pb t) λY=>(decide (q.1 ="isinstance")&&decide (Y=T))&&((Vn c q.1&&Vn c Y)&&(noStar l&&f l))
 |_=>false
def a7w(c:Ctx)(a:Expr)(f:Expr->Bool):Bool:=Eo (dCN a) λq=>match q.2 with
 |[l,t]=>Eo (ag7 t) λG=>match G with
  |[u,v]=>Eo (Pb u) λY=>Eo (Pb v) λT=>(decide (q.1 ="isinstance")&&(decide (Y ="tuple")&&decide (T ="list")))&&((Vn c q.1&&(Vn c Y&&Vn c T))&&(noStar l&&f l))
  |_=>false
 |_=>false
def az4(h:atw c ty a f=true):∃l p U Z,a=.Call (.Name "isinstance" p) [l,.Name ty U] [] Z/\Vn c "isinstance"= true/\Vn c ty=true/\noStar l=true/\f l=true:=by
 let((n,O),C,T):=j7 h;clear h;let(p,N,rfl):=Ij C;rcases O with _|⟨l,_|⟨t,_|⟨_,_⟩⟩⟩<;>try cases T
 let(Y,B,h):=j7 (f:=λY=>(decide (n ="isinstance")&&decide (Y=ty))&&((Vn c n&&Vn c Y)&&(noStar l&&f l))) T;let(Z,rfl):=Hk B;simp only[az,gf]at h;let((rfl,rfl),(G,L),E,J):=h;exact(l,p,Z,N,rfl,G,L,E,J)
def az5(h:a7w c a f=true):∃l p p1 U Z k p4,a=.Call (.Name "isinstance" p) [l,.Tuple [.Name "tuple" p1,.Name "list" U] k Z] [] p4/\Vn c "isinstance"= true/\Vn c "tuple"= true/\Vn c "list"= true/\noStar l=true/\f l=true:=by
 let((n,E),B,Y):=j7 h;clear h;let(p,S,rfl):=Ij B;rcases E with _|⟨l,_|⟨t,_|⟨_,_⟩⟩⟩<;>try cases Y
 let(T,J,h):=j7 (o:=ag7 t) Y;let(k,Z,rfl):=Oe J;rcases T with _|⟨u,_|⟨v,_|⟨_,_⟩⟩⟩<;>try cases h
 let(W,P,h):=j7 (o:=Pb u) h;let(V,L,h):=j7 (o:=Pb v) h;let(O,rfl):=Hk P;let(R,rfl):=Hk L;simp only[az,gf]at h;let((rfl,rfl,rfl),(C,Q,N),H,G):=h;exact(l,p,O,R,Z,k,S,rfl,C,Q,N,H,G)
def atx(c:Ctx)(Y T:Str)(a:Expr)(f:Expr->Bool):Bool:=Eo (dCN a) λq=>Eo (Ue q.2) λr=>Eo (dCN r) λu=>Eo (Ue u.2) λl=>((decide (q.1=Y)&&decide (u.1=T))&&(Vn c q.1&&Vn c u.1))&&(noStar l&&f l)
def aen(h:atx c ty U a f=true):∃l p p1 Z p3,a=.Call (.Name ty p) [.Call (.Name U p1) [l] [] Z] [] p3/\Vn c ty=true/\Vn c U=true/\noStar l=true/\f l=true:=by replace h:=j7 h;let((n,R),O,h):=h;let(p,C,rfl):=Ij O;replace h:=j7 h;let(r,B,h):=h;cases De B;replace h:=j7 h;let((m,P),T,h):=h;let(Z,Y,rfl):=Ij T;replace h:=j7 h;let(l,L,h):=h;cases De L;simp only[az,gf]at h;let(((rfl,rfl),E,J),N,G):=h;exact(l,p,Z,Y,C,rfl,E,J,N,G)
mutual
def Be(T:Tab):Ex->Ctx->Expr->Bool
 |.var i,c,a=>Eo (Pb a) λn=>alb c i n&&(an4 c n&&Z3 n)
 |.cst d,c,a=>a7v T c d a|.bin op x y,c,a=>Eo (bd2 a) λq=>decide (q.2.1=bd4 op)&&(Be T x c q.1&&Be T y c q.2.2)
 |.neg x,c,a=>Eo (dUn a) λq=>decide (q.1=.USub)&&Be T x c q.2
 |.cmp op x y,c,a=>Eo (azz a) λq=>Eo (Ue q.2.1) λo=>Eo (Ue q.2.2) λr=>decide (az3 op\o)&&(Im r&&(Be T x c q.1&&Be T y c r))
 |.chain o1 o2 x y z,c,a=>Eo (azz a) λq=>match q.2.1,q.2.2 with
  |[p1,p2],[r,s]=>(decide (az3 o1\p1)&&decide (az3 o2\p2))&&(Im s&&(Be T x c q.1&&(Be T y c r&&Be T z c s)))|_,_=>false
 |.and x y,c,a=>atv .And a (Be T x c) (Be T y c)|.or x y,c,a=>atv .Or a (Be T x c) (Be T y c)|.not x,c,a=>Eo (dUn a) λq=>decide (q.1=.Not)&&(Vd q.2&&Be T x c q.2)
 |.ite t x y,c,a=>Eo (a7p a) λq=>Vd q.1&&(Be T t c q.1&&(Be T x c q.2.1&&Be T y c q.2.2))
 |.tup es,c,a=>Eo (ag7 a) λl=>decide (Gm.len es<=1000)&&Pg T es c l
 |.lst es,c,a=>Eo (a7q a) λl=>decide (Gm.len es<=1000)&&Pg T es c l
 |.Kl es,c,a=>Eo (a7q a) λl=>decide (Gm.len es<=1000)&&Pg T es c l
 |.ah8,_,a=>Eo (a7r a) λq=>q.1.isEmpty&&q.2.isEmpty
 |.ah9,_,a=>Eo (a7r a) λq=>q.1.isEmpty&&q.2.isEmpty
 |.ix x y,c,a=>Eo (atn a) λq=>aea q.2&&(Be T x c q.1&&Be T y c q.2)
 |.cut x lo hi,c,a=>Eo (atn a) λq=>Eo (dSl q.2) λs=>s.2.2.isNone&&(Be T x c q.1&&(a7x T lo c s.1&&a7x T hi c s.2.1))
 |.call f es,c,a=>Eo (dCN a) λq=>(fnB T.fns f q.1 (Gm.len es)&&(Vn c q.1&&!q.2.isEmpty))&&Pg T es c q.2
 |.make f es,c,a=>Eo (dCN a) λq=>(fnB T.cls f q.1 (Gm.len es)&&(Vn c q.1&&!q.2.isEmpty))&&Pg T es c q.2
 |.meth o m,c,a=>Eo (dCA a) λq=>((mtB T.mts m q.2.1 0&&Z4 q.1)&&((q.2.2.1.endLine==q.2.2.2.2.line)&&q.2.2.2.1.isEmpty))&&Be T o c q.1
 |.fld o f,c,a=>Eo (atp a) λq=>(flB T.Ud f q.2.1&&Z4 q.1)&&Be T o c q.1
 |.blt .Kr (.cons x .nil),c,a=>atx c "sorted" "set" a (Be T x c)|.blt .isTuple (.cons x .nil),c,a=>atw c "tuple" a (Be T x c)|.blt .isList (.cons x .nil),c,a=>atw c "list" a (Be T x c)|.blt .isBool (.cons x .nil),c,a=>atw c "bool" a (Be T x c)|.blt .isSeq (.cons x .nil),c,a=>a7w c a (Be T x c)|.blt b es,c,a=>Eo (dCN a) λq=>(decide (a7u b\q.1)&&(Vn c q.1&&!q.2.isEmpty))&&Pg T es c q.2
 |.bm m o es,c,a=>Eo (dCA a) λq=>((decide (bmN m\q.2.1)&&Z4 q.1)&&(decide (q.2.2.2.1.length<29)&&((q.2.2.1.endLine==q.2.2.2.2.line)&&!q.2.2.2.1.isEmpty)))&&(Be T o c q.1&&Pg T es c q.2.2.2.1)
 |.comp v k t it e,c,a=>Eo (ag8 a) λq=>Eo (Ue q.2.1) λg=>(alf c k t g q.2.2&&g.ifs.isEmpty)&&(az6 T it c g.target g.iter&&Be T e (aha c q.2.2 (Gj g.target)) q.1)
 |.Ep v k t it i e,c,a=>Eo (ag8 a) λq=>Eo (Ue q.2.1) λg=>Eo (Ue g.ifs) λd=>(alf c k t g q.2.2&&Vd d)&&(az6 T it c g.target g.iter&&(Be T i (aha c q.2.2 (Gj g.target)) d&&Be T e (aha c q.2.2 (Gj g.target)) q.1))
 |.Yp x y,c,a=>Eo (azz a) λq=>Eo (Ue q.2.1) λo=>Eo (Ue q.2.2) λr=>Eo (dCN q.1) λu=>Eo (dCN r) λv=>Eo (Ue u.2) λl=>Eo (Ue v.2) λm =>
  ((decide (o=.NotEq)&&decide (u.1 ="set"))&&(decide (v.1 ="set")&&Vn c u.1))&&((noStar l&&noStar m)&&(Be T x c l&&Be T y c m))
 |.aib x,c,a=>atx c "tuple" "range" a (Be T x c)|.aas x,c,a=>atx c "list" "range" a (Be T x c)
def Pg(T:Tab):Gm->Ctx->List Expr->Bool
 |.nil,_,a=>a.isEmpty|.cons e es,c,a=>match a with|l::ls=>noStar l&&(Be T e c l&&Pg T es c ls)|_=>false
def a7x(T:Tab):OEx->Ctx->Option Expr->Bool
 |.none,_,a=>a.isNone|.some e,c,a=>Eo a (Be T e c)
def az6(T:Tab):Sq->Ctx->Expr->Expr->Bool
 |.val e,c,_,a=>Be T e c a|.Xn e,c,_,a=>Eo (dCN a) λq=>Eo (Ue q.2) λl=>(decide (q.1 ="range")&&Vn c q.1)&&(noStar l&&Be T e c l)
 |.enm e,c,tg,a=>Eo (dCN a) λq=>Eo (Ue q.2) λl=>((ag7 tg).isSome&&(decide (q.1 ="enumerate")&&Vn c q.1))&&(noStar l&&Be T e c l)
 |.zip es,c,tg,a=>Eo (dCN a) λq=>((ag7 tg).isSome&&(decide (q.1 ="zip")&&(Vn c q.1&&!q.2.isEmpty)))&&Pg T es c q.2
end
def T3(h:Gr T nm W k c X)(Y:Scope):(relabel Y X.env).names=az2 c Y.names:=by
 unfold relabel az2;refine yz λy _=>?_
 let(n,kd):=y;show(if(kd==NameKind.free&&X.env.scope.kind==.function&&X.env.kindOf n==some .cell)=true then _ else _)=_;have e:(kd==NameKind.free&&X.env.scope.kind==.function&&X.env.kindOf n==some .cell)=(kd==NameKind.free&&c.sc.lookup n==some .cell):=by unfold Env.kindOf;rw[h.kd,h.sc];simp
 rw[e]
def a7y(h:Gr T nm W k c X)(L:a7t c sc Z=true):Gu X (Xr c.N Z) sc/\∀C U s H,Gr T nm W k (aha c sc Z) (Pr X (Xr c.N Z) sc C U s H):=by
 simp only[a7t,az,gf,jg]at L;let(E,R,K,A,F):=L;have Y:∀x kd,(x,kd)∈sc.names->sc.names.lookup x\kd:=λx kd m=>by have:=R (x,kd) m;simpa using this
 refine((E,λy m e=>by rw[Y y.1 y.2 m,e],λy m e=>?_,Y,?_,λi x J G B=>?_),λC U s H=>(rfl,A,T3 h sc,E,h.calm,h.room,(λz=>by cases z),h.tab,λn m=>?_))
 .have:=K y m
  rw[e]at this;unfold Env.kindOf;rw[h.sc];simpa using this
 .rw[h.N];simp[Xr]
 .rw[h.N]at J
  have Q:i<(c.N.zipIdx.map (an5 Z)).length:=by simpa using J
  unfold Xr at G;rw[gq Q,ir,Aa]at G;obtain⟨n,O⟩:∃n,c.N[i]?\n:=(c.N[i],by simp[J]);rw[O]at G;have G:an5 Z (n,i)=x:=by simpa using G
  have m:(n,i)∈c.N.zipIdx:=by rw[vg];exact(i,by rw[Aa,O];simp)
  have q:=F (n,i) m;rw[G]at q;have v:an4 (aha c sc Z) x=true:=by unfold Vis at B;rw[T3 h]at B;unfold an4;show(match(az2 c sc.names).lookup x with|some .local=>true|some .cell=>true|some .free=>true|_=>false)=true;rcases B with e|e|e<;>rw[e]
  rw[v]at q;simp only[rm,Bool.false_or,az]at q;rw[h.N,O];have P:x=n:=eq_of_beq q.1;exact(by rw[P],by have:=q.2;simpa using this)
 .let(y,V,rfl):=bh.mp (List.contains_iff_mem.mp m)
  let(M,S):=je.mp V;show(sc.names.lookup y.1==some .cell)=true;rw[Y y.1 y.2 M,eq_of_beq S];rfl
def bd5(h:o=bd4 op):Ez X (binaryOp o) (rOp nm X.K (MW.Em op)):=by
 subst h;cases op with
 |add=>exact bcs|sub=>exact bco|mul=>exact bcr|fdiv=>exact a6s|mod=>exact bcp|pow=>exact bcq
def aty(Y:Bh 8 X.A)(h:az3 op\o):Ez X (compareOp o) (Zj nm X.K op):=by
 have T:Bh 6 X.A:=Y.mono ⋯;cases op with
 |eq=>cases h;exact biy T|ne=>cases h;exact biz T|lt=>cases h;exact bil|le=>cases h;exact bim|gt=>cases h;exact bio|ge=>cases h;exact bip|inn=>cases h;exact bi0 Y|Uq=>cases h;exact ayz Y|isn=>cases h;exact bd1
def aje(h:Gr T nm W k c X)(J:tg1 c lo i e=true):∃n p,e=.Name n p/\X.N[i]?\n/\L2.Loc X.env.scope n/\(X.fn n=true\/X.env.scope.names.lookup n\.local)/\lo<=i:=by let(n,B,Y):=j7 J;let(p,rfl):=Hk B;simp only[az,gf]at Y;let(O,G):=a7o h Y.2.1;exact(n,p,rfl,slot_of h Y.1,O,G,Y.2.2)
theorem atz{T:Tab}{J:Nm}{W:Kg}{k:Nat}{c:Ctx}{X:Cx}(h:Gr T J W k c X){G:Nat}:∀{is:Y3}{Y:Ya},an6 c G is Y=true->Od X Y is/\∀i∈is,G<=i
 |[],[],_=>(.nil,by simp)|[],_::_,e=>by cases e|_::_,[],e=>by cases e
 |i::is,a::Y,e=>by
  unfold an6 at e;rw[az]at e;let(n,p,rfl,B,L,O,C):=aje h e.1;let(P,E):=atz h e.2;refine(.cons B L O P,λj N=>?_);rcases dh.mp N with z|z
  .rw[z];exact C
  .exact E j z
def ahb(h:Gr T nm W k c X)(Y:tgB c lo t e=true):PG X e (tGt nm X.K t)/\∀i∈Dl t,lo<=i:=by
 have G:X.N.Nodup:=by rw[h.N];exact h.nd
 cases t with
 |name i =>
  let(n,p,rfl,J,E,B,O):=aje h Y;exact(a6x G J E B,λi C=>by rw[ig.mp C];exact O)
 |names is =>
  let(H,P,L):=j7 Y;let(Q,p,rfl):=Oe P;let(S,R):=atz h L;exact(ays h.calm G S,R)
structure Got(nm:Nm)(W:Kg)(X:Cx)(a:Expr)(e:Ex):Prop where
 v:PE X a (tE nm W X.K e)
 q:Vd a=true->PT X a (tQ nm W X.K e)
 w:∀op ls p,a=.BoolOp op ls p->PW X a (tQ nm W X.K e)
noncomputable def bd6:Expr->Bool
 |.BoolOp ..=>false|.UnaryOp .Not _ _=>false|.IfExp ..=>false|.Compare ..=>false|_=>true
set_option tactic.hygienic true in
def zc(h:PE X a (tE nm W X.K e))(B:bd6 a=true):Got nm W X a e:=by
 refine(h,λN=>bcu h λT=>?_,λO L p z=>by subst z;cases B);cases a<;>first|rfl|(cases B)|skip
 rename_i O x p;cases O<;>first|rfl|cases B
def a7z(h:Gr T nm W k c X)(Y:a7v T c d a=true):PE X a (tE nm W X.K (.cst d))/\bd6 a=true:=by
 cases d with
 |int i =>
  simp only[a7v,Bool.or_eq_true]at Y;rcases Y with Y|Y
  .let(k,J,G):=j7 Y
   let(j,p,rfl):=aej J;rw[km G];exact(bcl,rfl)
  .let(n,J,G):=j7 Y
   let(p,rfl):=Hk J;rw[az]at G;let(C,B):=Gi h G.1;let(t,O):=h.tab.cs _ _ (List.contains_iff_mem.mp G.2);exact(a6q C O (uv B).1,rfl)
 |bl i =>
  let(k,J,G):=j7 Y;let(j,p,rfl):=aej J;rw[km G];exact(bij,rfl)
 |non =>
  let(k,J,G):=j7 Y;let(j,p,rfl):=aej J;rw[km G];exact(bcm,rfl)
 |_=>cases Y
section
variable{T:Tab}{nm:Nm}{W:Kg}{k:Nat}
def Gr.r8(h:Gr T nm W k c X):Bh 8 X.A:=h.room.mono (by lia)
theorem Gr.mg(h:Gr T nm W k c X)(m:n∈Rb):X.mg n=none:=h.tab.bt n m
theorem Xj{c:Ctx}{J:Nat}:∀{is:Y3}{G:Ya},an6 c J is G=true->∀i∈is,J<=i
 |[],_,_=>by simp|_::_,[],e=>by cases e
 |i::is,a::G,e=>by
  unfold an6 at e;rw[az]at e;intro j B;rcases dh.mp B with z|z
  .let(n,O,Y):=j7 e.1
   simp only[az,gf]at Y;rw[z];exact Y.2.2
  .exact Xj e.2 j z
def ajf(h:tgB c lo t e=true):∀i∈Dl t,lo<=i:=by
 cases t with
 |name j =>
  let(n,G,Y):=j7 h;simp only[az,gf]at Y;intro i J;rw[ig.mp J];exact Y.2.2
 |names is =>
  let(B,G,Y):=j7 h;exact Xj Y
def at3:(Xr N Z).length-N.length=Z.length:=by simp[Xr]
def Ve(Y:Gr T nm W k c X)(h:alf c j t g sc=true) :
 Im g.iter=true/\g.is_async=0/\Gu X (Xr c.N (Gj g.target)) sc/\(∀C Z s H,Gr T nm W k (aha c sc (Gj g.target)) (Pr X (Xr c.N (Gj g.target)) sc C Z s H)) /\
 (∀C Z s H,PG (Pr X (Xr c.N (Gj g.target)) sc C Z s H) g.target (tGt nm X.K t))/\(Xr c.N (Gj g.target)).length-X.N.length=j/\∀i∈Dl t,X.N.length<=i:=by
 simp only[alf,az,gf]at h;let(P,O,G,R,L):=h;let(B,J):=a7y Y P;exact(R,L,B,J,λC Z s H=>(ahb (J C Z s H) G).1,by rw[Y.N,at3];exact(eq_of_beq O).symm,λi E=>by rw[Y.N];exact ajf G i E)
def alg(h:atv o a x y=true):(∃l r p,a=.BoolOp o [l,r] p/\Vd l=true/\x l=true/\Vd r=true/\y r=true) \/
 ∃l r s Z p,a=.BoolOp o (l::r::s::Z) p/\Vd l=true/\x l=true/\y (.BoolOp o (r::s::Z) p)=true:=by
 let((O,G,p),B,Y):=j7 h;cases atr B;rw[az]at Y;let(J,Y):=Y;cases km J;cases G with
 |nil=>cases Y
 |cons l G=>cases G with
  |nil=>cases Y
  |cons r Z =>
   cases Z with
   |nil =>
    have Y:((Vd l&&x l)&&(Vd r&&y r))=true:=Y;simp only[az]at Y;exact .inl (l,r,p,rfl,Y.1.1,Y.1.2,Y.2.1,Y.2.2)
   |cons s Z =>
    have Y:((Vd l&&x l)&&y (.BoolOp O (r::s::Z) p))=true:=Y;simp only[az]at Y;exact .inr (l,r,s,Z,p,rfl,Y.1.1,Y.1.2,Y.2)
def a70(N:Gr T nm W k c X)(Y:a7u b\n)(P:Vn c n=true)(G:PA X (l::ls) (tEs nm W X.K Z))(L:Cm (l::ls)=true):PE X (.Call (.Name n p) (l::ls) [] U) (tE nm W X.K (.blt b Z)):=by
 let(C,E):=Gi N P;let(O,R,J):=uv E;simp only[Cm,az]at L;have st:=pq L.1 ls X.env;have B:=yo (env:=X.env) (pos:=U) L.2;have mg:n∈Rb->X.mg n=none:=N.mg;cases b with
 |len=>cases Y;exact agq (id :="len") bdg C (mg ∅) ∅ G J O st B|max=>cases Y;exact agq (id :="max") (bdm N.calm) C (mg ∅) ∅ G J O st B|all=>cases Y;exact agq (id :="all") (bdw N.calm) C (mg ∅) ∅ G J O st B|sorted=>cases Y;exact agq (id :="sorted") (atl N.r8) C (mg ∅) ∅ G J O st B|min=>cases Y;exact agq (id :="min") (bdp N.calm) C (mg ∅) ∅ G J O st B|tuple=>cases Y;exact ai8 (T :="tuple") ayw C (mg ∅) ∅ G J O st B|list=>cases Y;exact ai8 (T :="list") a7e C (mg ∅) ∅ G J O st B|dict=>cases Y;exact ai8 (T :="dict") a7g C (mg ∅) ∅ G J O st B|_=>cases Y
def Z6{Y:Type}{l:List Y}(h:(!l.isEmpty)=true):∃x r,l=x::r:=by
 cases l with
 |nil=>cases h|cons x r=>exact(x,r,rfl)
set_option tactic.hygienic true in
mutual
theorem j5:∀(e:Ex){c:Ctx}{X:Cx}{a:Expr},Gr T nm W k c X->Be T e c a=true->Got nm W X a e
 |.var i,c,X,a,hc,h=>by
  replace h:=j7 h;let(n,Y,h):=h;let(p,rfl):=Hk Y;simp only[az]at h;exact zc (bck (slot_of hc h.1) (a7n hc h.2.1) (uv h.2.2).1 (uv h.2.2).2.1) rfl
 |.cst d,c,X,a,hc,h=>by
  let(Y,J):=a7z hc h;exact zc Y J
 |.bin op x y,c,X,a,hc,h=>by
  replace h:=j7 h;let((l,o,r),Y,h):=h;let(p,rfl):=az0 Y;simp only[az,gf]at h;exact zc (bcn (bd5 h.1) (j5 x hc h.2.1).v (j5 y hc h.2.2).v) rfl
 |.neg x,c,X,a,hc,h=>by
  replace h:=j7 h;let((o,l),Y,h):=h;let(p,rfl):=atq Y;simp only[az,gf]at h;let(rfl,h):=h;exact zc (bc4 (j5 x hc h).v) rfl
 |.cmp op x y,c,X,a,hc,h=>by
  replace h:=j7 h;let((l,o,r),Y,h):=h;let(p,rfl):=aek Y;replace h:=j7 h;let(o1,J,h):=h;replace h:=j7 h;let(r1,N,h):=h;cases De J;cases De N;simp only[az,gf]at h;have g:=aty (nm:=nm) hc.r8 h.1;have m:=Xf h.2.1 o1;exact(bcv g (j5 x hc h.2.2.1).v (j5 y hc h.2.2.2).v m,λ_=>bcw g (j5 x hc h.2.2.1).v (j5 y hc h.2.2.2).v m,λ_ _ _ z=>by cases z)
 |.chain o1 o2 x y z,c,X,a,hc,h=>by
  replace h:=j7 h;let((l,o,r),Y,h):=h;let(p,rfl):=aek Y;dsimp only at h;split at h
  .rename_i p1 A r s
   simp only[az,gf]at h;have O:=aty (nm:=nm) hc.r8 h.1.1;have G:=aty (nm:=nm) hc.r8 h.1.2;have m:lastMarks [p1,A] [r,s]=false:=Xf h.2.1 A;exact(ayq O G (j5 x hc h.2.2.1).v (j5 y hc h.2.2.2.1).v (j5 z hc h.2.2.2.2).v m,λ_=>ayr O G (j5 x hc h.2.2.1).v (j5 y hc h.2.2.2.1).v (j5 z hc h.2.2.2.2).v m,λ_ _ _ z=>by cases z)
  .cases h
 |.and x y,c,X,a,hc,h=>by
  rcases alg h with⟨l,r,p,rfl,Y,J,N,L⟩|⟨l,r,s,Z,p,rfl,Y,J,N⟩
  .have O:=j5 x hc J
   have G:=j5 y hc L;have w:=a2f (pos:=p) (rest:=[]) (O.q Y) (axu (G.q N));exact(a2e O.v (a2o G.v),λ_=>w.pt,λ_ _ _ _=>w)
  .have O:=j5 x hc J
   have G:=j5 y hc N;have w:=a2f (O.q Y) (G.w _ _ _ rfl);exact(a2e O.v G.v,λ_=>w.pt,λ_ _ _ _=>w)
 |.or x y,c,X,a,hc,h=>by
  rcases alg h with⟨l,r,p,rfl,Y,J,N,L⟩|⟨l,r,s,Z,p,rfl,Y,J,N⟩
  .have O:=j5 x hc J
   have G:=j5 y hc L;have w:=bcz (pos:=p) (rest:=[]) (O.q Y) (a5c (G.q N));exact(bcx O.v (a2o G.v),λ_=>w.pt,λ_ _ _ _=>w)
  .have O:=j5 x hc J
   have G:=j5 y hc N;have w:=bcz (O.q Y) (G.w _ _ _ rfl);exact(bcx O.v G.v,λ_=>w.pt,λ_ _ _ _=>w)
 |.not x,c,X,a,hc,h=>by
  replace h:=j7 h;let((o,l),Y,h):=h;let(p,rfl):=atq Y;simp only[az,gf]at h;let(rfl,h):=h;have g:=j5 x hc h.2;exact(bcy g.v,λ_=>bc0 (g.q h.1),λ_ _ _ z=>by cases z)
 |.ite t x y,c,X,a,hc,h=>by
  replace h:=j7 h;let((t',l,r),Y,h):=h;let(p,rfl):=az1 Y;simp only[az]at h;exact(bc1 ((j5 t hc h.2.1).q h.1) (j5 x hc h.2.2.1).v (j5 y hc h.2.2.2).v,(λz=>by cases z),λ_ _ _ z=>by cases z)
 |.tup es,c,X,a,hc,h=>by
  replace h:=j7 h;let(l,Y,h):=h;let(k0,p,rfl):=Oe Y;simp only[az,gf]at h;exact zc (bc2 (Gk es hc h.2).1 h.1) rfl
 |.lst es,c,X,a,hc,h=>by
  replace h:=j7 h;let(l,Y,h):=h;let(p,rfl):=alc Y;simp only[az,gf]at h;exact zc (bc3 (Gk es hc h.2).1 h.1) rfl
 |.Kl es,c,X,a,hc,h=>by
  replace h:=j7 h;let(l,Y,h):=h;let(p,rfl):=alc Y;simp only[az,gf]at h;exact zc (a6u (Gk es hc h.2).1 h.1) rfl
 |.ah8,c,X,a,hc,h=>by
  replace h:=j7 h;let((q,l),Y,h):=h;let(p,rfl):=ald Y;simp only[az,uc]at h;let(rfl,rfl):=h;exact zc a7c rfl
 |.ah9,c,X,a,hc,h=>by
  replace h:=j7 h;let((q,l),Y,h):=h;let(p,rfl):=ald Y;simp only[az,uc]at h;let(rfl,rfl):=h;exact zc a7d rfl
 |.ix x y,c,X,a,hc,h=>by
  replace h:=j7 h;let((l,r),Y,h):=h;let(p,rfl):=ael Y;simp only[az]at h;exact zc (bir (aby hc.room) (j5 x hc h.2.1).v (j5 y hc h.2.2).v (asp h.1)) rfl
 |.cut x lo hi,c,X,a,hc,h=>by
  replace h:=j7 h;let((l,r),Y,h):=h;let(p,rfl):=ael Y;replace h:=j7 h;let((u,v,st),J,h):=h;let(A,e):=a7s J;have e:r=_:=e;subst e;simp only[az,Option.isNone_iff_eq_none]at h;let(rfl,h):=h;exact zc (bdn (j5 x hc h.1).v (alh lo hc h.2.1) (alh hi hc h.2.2)) rfl
 |.call f es,c,X,a,hc,h=>by
  replace h:=j7 h;let((n,D),Y,h):=h;let(p,p',rfl):=Ij Y;simp only[az]at h;let((J,N,L),E):=h;let(l,D,rfl):=Z6 L;let(fa,fd,ps,F,m,kp,b):=hc.tab.fn _ _ _ (km J);let(O,G):=Gi hc N;let(R,V):=Gk es hc E;simp only[Cm,az]at V;exact zc (s_call F (hc.room.mono x_) O m kp b rfl R (uv G).1 (pq V.1 _ _) (yo V.2)) rfl
 |.make f es,c,X,a,hc,h=>by
  replace h:=j7 h;let((n,D),Y,h):=h;let(p,p',rfl):=Ij Y;simp only[az]at h;let((J,N,L),E):=h;let(l,D,rfl):=Z6 L;let(C,fa,fd,ps,cl,M0,F,m,b,d1,d2):=hc.tab.cl _ _ _ (km J);let(O,G):=Gi hc N;let(R,V):=Gk es hc E;simp only[Cm,az]at V;exact zc (a7b M0 F (hc.room.mono (w_ ⋯)) O m b d1 rfl d2 rfl R (uv G).1 (pq V.1 _ _) (yo V.2)) rfl
 |.meth o m,c,X,a,hc,h=>by
  replace h:=j7 h;let((lo,n,ap,D,p),h0,h):=h;cases atu h0;simp only[az,uc]at h;let(((Y,J),L,rfl),E):=h;let(C,fa,fd,ps,f,C0,Me,F,b,u,nf):=hc.tab.mt _ _ _ (km Y);exact zc (azp (ci:=0) (cl:=(0,[])) (j5 o hc E).v C0 Me F (hc.room.mono x_) b u nf (azx J L)) rfl
 |.fld o f,c,X,a,hc,h=>by
  replace h:=j7 h;let((l,n,p),Y,h):=h;cases aem Y;simp only[az]at h;let(t1,t2):=hc.tab.fl _ _ (km h.1.1);exact zc (bc5 t1 t2 (j5 o hc h.2).v (Iw h.1.2)) rfl
 |.blt b es,c,X,a,hc,h=>by
  have gen:(Eo (dCN a) λq=>(decide (a7u b\q.1)&&(Vn c q.1&&!q.2.isEmpty))&&Pg T es c q.2)=true->Got nm W X a (.blt b es):=λhh=>by clear h;replace hh:=j7 hh;let((n,D),Y,h):=hh;let(p,p',rfl):=Ij Y;simp only[az]at h;let((J,N,L),E):=h;let(l,D,rfl):=Z6 L;let(R,V):=Gk es hc E;exact zc (a70 hc (km J) N R V) rfl
  have qk:∀{bb:Blt}{ty:Str}{T0:String}{x:Ex}{bt bv bi:Option Bool},(∀b,bt\b->PySem.W.kitOne X.K (.type "tuple") (.type T0)\b)->(∀b,bv\b->PySem.W.kitOne X.K (.type "list") (.type T0)\b)->(∀b,bi\b->PySem.W.kitOne X.K (.type "int") (.type T0)\b)->(∀d M,MW.p8 bb [d] M=MW.isR bt bv bi M d)->X.mg ty=none->bootBuiltins ty\(.type T0)->(∀l,Be T x c l=true->PE X l (tE nm W X.K x))->atw c ty a (Be T x c)=true->Got nm W X a (.blt bb (.cons x .nil)):=λk1 kl k2 k3 hm hv q7 hi=>by let(l,p,p1,A,rfl,N,L,E,P):=az4 hi;let(O,G):=Gi hc N;let(g3,I):=Gi hc L;exact zc (bdo k1 kl k2 k3 O (hc.mg ∅) ∅ (uv G).2.2 (uv G).1 g3 hm hv (uv I).2.2 (uv I).1 (q7 l P) (pq E _ _) (pq rfl _ _) (yo rfl)) rfl
  cases b<;>try exact gen h
  all_goals rcases es with _|⟨x,_|⟨_,_⟩⟩<;>try exact gen h
  .exact qk (T0 :="list") (bt:=some false) (bv:=some true) (bi:=none) (λ_ z=>by cases z;exact Rc _ ∅) (λ_ z=>by cases z;exact Vb _ _) (λ_ z=>by cases z) (λ_ _=>rfl) (hc.mg ∅) ∅ (λl q=>(j5 x hc q).v) h
  .exact qk (T0 :="tuple") (bt:=some true) (bv:=some false) (bi:=some false) (λ_ z=>by cases z;exact Vb _ _) (λ_ z=>by cases z;exact Rc _ ∅) (λ_ z=>by cases z;exact Rc _ ∅) (λ_ _=>rfl) (hc.mg ∅) ∅ (λl q=>(j5 x hc q).v) h
  .exact qk (T0 :="bool") (bt:=none) (bv:=none) (bi:=some false) (λ_ z=>by cases z) (λ_ z=>by cases z) (λ_ z=>by cases z;exact Rc _ ∅) (λ_ _=>rfl) (hc.mg ∅) ∅ (λl q=>(j5 x hc q).v) h
  .let(l,p,p1,A,p3,k0,p4,rfl,N,L,E,P,Q):=az5 (show a7w c a (Be T x c)=true from h)
   let(O,G):=Gi hc N;exact zc (azs (Z0 (Vb _ _) (b:=false) (Rc _ ∅)) (Z0 (a:=false) (Rc _ ∅) (Vb _ _)) (Z0 (a:=false) (b:=false) (Rc _ ∅) (Rc _ ∅)) O (hc.mg ∅) ∅ (uv G).2.2 (uv G).1 (Gi hc L).1 (hc.mg ∅) (Gi hc E).1 (hc.mg ∅) (j5 x hc Q).v (pq P _ _) (yo rfl)) rfl
  .let(l,p,p1,A,p3,rfl,E,P,Q,h8):=aen (show atx c "sorted" "set" a (Be T x c)=true from h)
   let(O,G):=Gi hc E;let(g3,I):=Gi hc P;exact zc (an1 hc.r8 O (hc.mg ∅) ∅ (uv G).2.2 (uv G).1 g3 (hc.mg ∅) ∅ (uv I).2.2 (uv I).1
    (Q8 (j5 x hc h8).v Xe (pq Q _ _)) (pq rfl _ _) (yo rfl) (pq Q _ _) (yo rfl)) rfl
 |.bm m o es,c,X,a,hc,h=>by
  replace h:=j7 h;let((lo,n,ap,D,p),h0,h):=h;cases atu h0;simp only[az,gf]at h;let(((Y,J),N,L,zq),E,P):=h;let(l,D,rfl):=Z6 zq;let(R,V):=Gk es hc P;have U:=V;simp only[Cm,az]at U;have qq:((backTo p (starEach (l::D) X.env)).all (λx=>!x.1)&&(backToKw p (keywordEach [] X.env)).all (λx=>x.1.isSome)&&decide ((l::D).length+([]:List Keyword).length+(if([]:List Keyword).isEmpty then 0 else 1)<30))=true:=by rw[ajd V];simp[keywordEach,backToKw];simp at N;exact b_ N ⋯
  have g:=j5 o hc E;cases m with
  |append=>cases Y;exact zc (ay4 (T :="list") (id :="list.append") (fun ι H M x v S r t=>ty_list S r t) PySem.F.plainAttrs_list PySem.F.slot_list_append PySem.F.type_list_append as3 g.v R (Iw J) qq L (pq U.1 _ _) (yo U.2)) rfl
  |extend=>cases Y;exact zc (ay4 (T :="list") (id :="list.extend") (fun ι H M x v S r t=>ty_list S r t) PySem.F.plainAttrs_list PySem.F.slot_list_extend PySem.F.type_list_extend as4 g.v R (Iw J) qq L (pq U.1 _ _) (yo U.2)) rfl
  |index=>cases Y;exact zc (ay4 (T :="list") (id :="list.index") (fun ι H M x v S r t=>ty_list S r t) PySem.F.plainAttrs_list PySem.F.slot_list_index PySem.F.type_list_index (ay6 hc.r8) g.v R (Iw J) qq L (pq U.1 _ _) (yo U.2)) rfl
  |get=>cases Y;exact zc (ay4 (T :="dict") (id :="dict.get") (fun ι H M x v S r t=>ty_dict S r t) PySem.F.plainAttrs_dict PySem.F.slot_dict_get PySem.F.type_dict_get (bdx (aby hc.room)) g.v R (Iw J) qq L (pq U.1 _ _) (yo U.2)) rfl
 |.comp v j t it e,c,X,a,hc,h=>by
  replace h:=j7 h;let((q5,gs,sc),Y,h):=h;let(p,rfl):=Vc Y;replace h:=j7 h;let((tg,q0,q8,as),J,h):=h;cases De J;simp only[az,uc]at h;let((N,rfl),L,E):=h;let(q1,q2,B,hB,hg,q3,q4):=Ve hc N;cases q2;exact zc (a7a B hc.calm (Vf it hc L) hg (λC fp s H=>(j5 e (hB C fp s H) E).v) q1 q3 q4) rfl
 |.Ep v j t it i e,c,X,a,hc,h=>by
  replace h:=j7 h;let((q5,gs,sc),Y,h):=h;let(p,rfl):=Vc Y;replace h:=j7 h;let((tg,q0,q8,as),J,h):=h;cases De J;replace h:=j7 h;let(d,P,h):=h;cases De P;simp only[az]at h;let((N,Q),L,h8,E):=h;let(q1,q2,B,hB,hg,q3,q4):=Ve hc N;cases q2;exact zc (ass B hc.calm (Vf it hc L) hg (λC fp s H=>(j5 i (hB C fp s H) h8).q Q) (λC fp s H=>(j5 e (hB C fp s H) E).v) q1 q3 q4) rfl
 |.Yp x y,c,X,a,hc,h=>by
  replace h:=j7 h;let((l0,o,r0),Y,h):=h;let(p,rfl):=aek Y;replace h:=j7 h;let(o1,J,h):=h;replace h:=j7 h;let(r1,N,h):=h;cases De J;cases De N;replace h:=j7 h;let((n,D),L,h):=h;replace h:=j7 h;let((m,ms),E,h):=h;replace h:=j7 h;let(l,P,h):=h;replace h:=j7 h;let(r,Q,h):=h;cases De P;cases De Q;let(p1,q1,R):=Ij L;let(A,q2,V):=Ij E;have R:l0=_:=R;subst R V;simp only[az,gf]at h;let(((rfl,rfl),rfl,h8),(h9,qv),q6,zz):=h;let(O,G):=Gi hc h8;have z:=ay1 (nm:=nm) (W:=W) (p1:=p1) (p2:=A) (q1:=q1) (q2:=q2) hc.r8 O (hc.mg ∅) ∅ (uv G).2.2 (uv G).1 (Q8 (j5 x hc q6).v Xe (pq h9 _ _)) (Q8 (j5 y hc zz).v Xe (pq qv _ _)) (pq h9 _ _) (pq qv _ _) (yo rfl) (yo rfl);exact(a4z z,λ_=>ayp (a5a z) λ_ _ _ q=>q,λ_ _ _ z=>by cases z)
 |.aib x,c,X,a,hc,h=>by
  let(l,p,p1,A,p3,rfl,E,P,Q,h8):=aen h;let(O,G):=Gi hc E;let(g3,I):=Gi hc P;exact zc (a7h hc.r8 O (hc.mg ∅) ∅ (uv G).2.2 (uv G).1 g3 (hc.mg ∅) ∅ (uv I).2.2 (uv I).1
   (Q8 (j5 x hc h8).v Xe (pq Q _ _)) (pq rfl _ _) (yo rfl) (pq Q _ _) (yo rfl)) rfl
 |.aas x,c,X,a,hc,h=>by
  let(l,p,p1,A,p3,rfl,E,P,Q,h8):=aen h;let(O,G):=Gi hc E;let(g3,I):=Gi hc P;exact zc (a7k hc.r8 O (hc.mg ∅) ∅ (uv G).2.2 (uv G).1 g3 (hc.mg ∅) ∅ (uv I).2.2 (uv I).1
   (Q8 (j5 x hc h8).v Xe (pq Q _ _)) (pq rfl _ _) (yo rfl) (pq Q _ _) (yo rfl)) rfl
theorem Gk:∀(Y:Gm){c:Ctx}{X:Cx}{a:Ya},Gr T nm W k c X->Pg T Y c a=true->PA X a (tEs nm W X.K Y)/\Cm a=true
 |.nil,c,X,a,hc,h=>by
  cases uc.mp h;exact(Xe,rfl)
 |.cons e Y,c,X,a,hc,h=>by
  cases a with
  |nil=>cases h
  |cons l B =>
   replace h:(noStar l&&(Be T e c l&&Pg T Y c B))=true:=h;simp only[az]at h;let(J,G):=Gk Y hc h.2.2;exact(Q8 (j5 e hc h.2.1).v J (pq h.1 _ _),by simp only[Cm,az];exact(h.1,G))
theorem alh:∀(e:OEx){c:Ctx}{X:Cx}{a:Option Expr},Gr T nm W k c X->a7x T e c a=true->PO X a (tO nm W X.K e)
 |.none,c,X,a,hc,h=>by
  cases Option.isNone_iff_eq_none.mp h;exact ay9
 |.some e,c,X,a,hc,h=>by
  replace h:=j7 h;let(l,rfl,h):=h;exact aza (j5 e hc h).v
theorem Vf:∀(it:Sq){c:Ctx}{X:Cx}{Y a:Expr},Gr T nm W k c X->az6 T it c Y a=true->PI X Y a (tI nm W X.K it)
 |.val e,c,X,Y,a,hc,h=>bdd (j5 e hc h).v
 |.Xn e,c,X,Y,a,hc,h=>by
  replace h:=j7 h;let((n,N),J,h):=h;let(p,R,rfl):=Ij J;replace h:=j7 h;let(l,C,h):=h;cases De C;simp only[az,gf]at h;let((rfl,G),B,E):=h;exact bde (Gi hc G).1 (hc.mg ∅) (j5 e hc E).v B
 |.enm e,c,X,Y,a,hc,h=>by
  replace h:=j7 h;let((n,N),J,h):=h;let(p,R,rfl):=Ij J;replace h:=j7 h;let(l,C,h):=h;cases De C;simp only[az,gf]at h;let((O,rfl,G),B,E):=h;let(H,L):=qx.mp O;let(Q,pt,rfl):=Oe L;exact bdu (Gi hc G).1 (hc.mg ∅) (j5 e hc E).v B
 |.zip es,c,X,Y,a,hc,h=>by
  replace h:=j7 h;let((n,N),J,h):=h;let(p,R,rfl):=Ij J;simp only[az,gf]at h;let((O,rfl,G,B),L):=h;let(l,N,rfl):=Z6 B;let(S,P):=Gk es hc L;let(H,V):=qx.mp O;let(Q,pt,rfl):=Oe V;simp only[Cm,az]at P;let(f1,f2):=P;exact bdv (Gi hc G).1 (hc.mg ∅) S (pq f1 _ _) (yo f2)
end
end
noncomputable def bd7(e:Ex):Option {b:Bool//(∃v j t it x,e=.comp v j t it x)\/∃v j t it i x,e=.Ep v j t it i x}:=match e with|.comp ..=>some (true,.inl (_,_,_,_,_,rfl))|.Ep ..=>some (true,.inr (_,_,_,_,_,_,rfl))|_=>none
def a71(T:Tab)(c:Ctx)(l:Lv)(e:Ex)(Y v:Expr):Bool:=
 match l with
 |.tg t=>(tgB c 0 t Y&&((Wj v&&((Pb Y).isSome||a2g v))||(ag8 v).isSome&&(match t with|.name _=>(bd7 e).isSome|_=>true)))&&Be T e c v
 |.sub o i=>Eo (atn Y) λq=>aea q.2&&(Be T e c v&&(Be T o c q.1&&Be T i c q.2))
 |.fld o f=>Eo (atp Y) λq=>(Wj v&&flB T.Ud f q.2.1)&&(Be T e c v&&Be T o c q.1)
noncomputable def bd8(a:Stmt):Option (List Expr×Expr):=Option.map Subtype.val (α:={q:List Expr×Expr//∃p,a=.Assign q.1 q.2 p}) (match a with|.Assign t v p=>some ((t,v),p,rfl)|_=>none)
noncomputable def bd9(a:Stmt):Option Expr:=Option.map Subtype.val (α:={q:Expr//∃p,a=.Expr q p}) (match a with|.Expr v p=>some (v,p,rfl)|_=>none)
noncomputable def bea(a:Stmt):Option (Expr×List Stmt×List Stmt):=Option.map Subtype.val (α:={q:Expr×List Stmt×List Stmt//∃p,a=.If q.1 q.2.1 q.2.2 p}) (match a with|.If t l r p=>some ((t,l,r),p,rfl)|_=>none)
noncomputable def beb(a:Stmt):Option (Expr×List Stmt×List Stmt):=Option.map Subtype.val (α:={q:Expr×List Stmt×List Stmt//∃p,a=.While q.1 q.2.1 q.2.2 p}) (match a with|.While t l r p=>some ((t,l,r),p,rfl)|_=>none)
noncomputable def bec(a:Stmt):Option (Expr×Expr×List Stmt×List Stmt):=Option.map Subtype.val (α:={q:Expr×Expr×List Stmt×List Stmt//∃p,a=.For q.1 q.2.1 q.2.2.1 q.2.2.2 p}) (match a with|.For t i l r p=>some ((t,i,l,r),p,rfl)|_=>none)
noncomputable def bed(a:Stmt):Option (Option Expr):=Option.map Subtype.val (α:={q:Option Expr//∃p,a=.Return q p}) (match a with|.Return v p=>some (v,p,rfl)|_=>none)
noncomputable def a72(a:Stmt):Option Nat:=Option.map Subtype.val (α:={n:Nat//(n=0/\∃p,a=.Break p)\/(n=1/\∃p,a=.Continue p)\/(n=2/\∃p,a=.Pass p)}) (match a with|.Break p=>some (0,.inl (rfl,p,rfl))|.Continue p=>some (1,.inr (.inl (rfl,p,rfl)))|.Pass p=>some (2,.inr (.inr (rfl,p,rfl)))|_=>none)
def az7(h:bd8 a\(t,v)):∃p,a=.Assign t v p:=(car h :)
def az8(h:bd9 a\v):∃p,a=.Expr v p:=(car h :)
def az9(h:bea a\(t,l,r)):∃p,a=.If t l r p:=(car h :)
def a0a(h:beb a\(t,l,r)):∃p,a=.While t l r p:=(car h :)
def a0b(h:bec a\(t,i,l,r)):∃p,a=.For t i l r p:=(car h :)
def a0c(h:bed a\v):∃p,a=.Return v p:=(car h :)
def ali(h:a72 a\n):(n=0/\∃p,a=.Break p)\/(n=1/\∃p,a=.Continue p)\/(n=2/\∃p,a=.Pass p):=(car h :)
mutual
def a73(T:Tab):Dg->Ctx->Stmt->Bool
 |.asg l e,c,a=>Eo (bd8 a) λq=>Eo (Ue q.1) λt=>a71 T c l e t q.2
 |.expr e,c,a=>Eo (bd9 a) λv=>Wj v&&Be T e c v
 |.iff t x y,c,a=>Eo (bea a) λq=>Vd q.1&&(Be T t c q.1&&(Xk T x c q.2.1&&Xk T y c q.2.2))
 |.whl t x,c,a=>Eo (beb a) λq=>(Vd q.1&&q.2.2.isEmpty)&&(Be T t c q.1&&Xk T x c q.2.1)
 |.for_ t it x,c,a=>Eo (bec a) λq=>(tgB c 0 t q.1&&(Im q.2.1&&q.2.2.2.isEmpty))&&(az6 T it c q.1 q.2.1&&Xk T x c q.2.2.1)
 |.ret e,c,a=>Eo (bed a) λv=>Eo v (Be T e c)
 |.brk,_,a=>decide (a72 a\0)|.cont,_,a=>decide (a72 a\1)|.raise,_,_=>true
def Xk(T:Tab):p7->Ctx->List Stmt->Bool
 |.nil,_,a=>a.isEmpty|.cons s r,c,a=>match a with|st::rest=>a73 T s c st&&Xk T r c rest|_=>false
end
def swB(c:Ctx)(t:Str)(pt Y:Pos)(T:Scope):Bool:=(c.sc.lookup t==some NameKind.local&&pt.line==Y.line)&&!(T.names.any λy=>y.1==t&&(y.2==.local||y.2==.cell))
def ajg(Y:Gr T nm W k c X):swapsWith (.ListComp elt gs sc vp) (some (.Name t pt)) l X.env=pure (swB c t pt vp sc):=by
 have b:X.env.blockKind=.function:=by unfold Env.blockKind;rw[Y.kd];rfl
 show(pure (X.env.blockKind==.function&&X.env.kindOf t==some .local&&pt.line==vp.line&&!(sc.names.any λ(n,k)=>n==t&&(k==.local||k==.cell))):Sem Bool)=_;rw[b];unfold Env.kindOf;rw[Y.sc];simp[swB]
def at4(Y:Gr T nm W k c X)(ht:tgB c 0 (.name i) Z=true)(hv:(ag8 v).isSome=true)(hw:(bd7 e).isSome=true)(h:Be T e c v=true):PS X (.Assign [Z] v p) (tS nm W X.K (.asg (.tg (.name i)) e)):=by
 have nd:X.N.Nodup:=by rw[Y.N];exact Y.nd
 symm
 let((G,gs,U),hq):=qx.mp hv;let(y,py,rfl,hy,_):=aje (nm:=nm) (W:=W) (k:=k) (T:=T) Y ht;let((_,co),_):=qx.mp hw;let(V,rfl):=Vc hq;have L:=λl=>ajg (T:=T) (nm:=nm) (W:=W) (k:=k) Y (elt:=G) (gs:=gs) (sc:=U) (vp:=V) (pt:=py) (t:=y) (l:=l)
 apply _k;cases hs:swB c y py V U with
 |false =>
  rw[hs]at L;exact ak1 (j5 e Y h).v (ahb Y ht).1 (L p.line) rfl rfl
 |true =>
  rw[hs]at L;simp only[swB,az]at hs;have hl:X.env.scope.names.lookup y\.local:=by rw[Y.sc];have:=hs.1.1;simpa using this
  rcases co with⟨v,j,t,it,x,rfl⟩|⟨v,j,t,it,i',x,rfl⟩
  .symm
   replace h:=j7 h;let((D,qk,qq),R,h):=h;cases R;replace h:=j7 h;let((Z,O,A,as),P,h):=h;apply _k;cases De P;simp only[az,uc]at h;symm
   let((F,rfl),h4,h5):=h;let(S,I,B,E,M,Q,q4):=Ve Y F;cases I;apply _k;exact ant B Y.calm (Vf it Y h4) M (λC J s H=>(j5 x (E C J s H) h5).v) S Q q4 nd hy hl (L p.line)
  .symm
   replace h:=j7 h;let((D,qk,qq),R,h):=h;cases R;replace h:=j7 h;let((Z,O,A,as),P,h):=h;apply _k;cases De P;replace h:=j7 h;let(d,h6,h):=h;cases De h6;simp only[az]at h;symm
   let((F,h7),h4,h8,h5):=h;let(S,I,B,E,M,Q,q4):=Ve Y F;cases I;apply _k;exact ago B Y.calm (Vf it Y h4) M (λC J s H=>(j5 i' (E C J s H) h8).q h7) (λC J s H=>(j5 x (E C J s H) h5).v) S Q q4 nd hy hl (L p.line)
section
variable{T:Tab}{nm:Nm}{W:Kg}{k:Nat}
def a0d(Y:Gr T nm W k c X)(h:a71 T c l e tg v=true):PS X (.Assign [tg] v p) (tS nm W X.K (.asg l e)):=by
 cases l with
 |tg t =>
  simp only[a71,az,Bool.or_eq_true]at h;let((B,N),J):=h;rcases N with⟨G,O⟩|G
  .have g:=ahb (nm:=nm) Y B
   have R:(∃n q,tg=.Name n q)\/∃C E q,tg=.Tuple C E q:=by
    cases t with
    |name i =>
     let(n,L,_):=j7 B;exact .inl (n,Hk L)
    |names is =>
     let(C,L,_):=j7 B;exact .inr (C,Oe L)
   rcases R with⟨n,q,rfl⟩|⟨C,E,q,rfl⟩
   .exact ak1 (j5 e Y J).v g.1 (Zq G _ _ _) rfl rfl
   .have w:a2g v=true:=by
     rcases O with O|O
     .cases O
     .exact O
    have S:swappedStores [.Tuple C E q] v X.env=pure none:=by cases v<;>first|rfl|(cases w;done)
    exact ak1 (j5 e Y J).v g.1 (Zq G _ _ _) S rfl
  .cases t with
   |name i=>exact at4 Y B G.1 G.2 J
   |names is =>
    let(C,L,_):=j7 B;let(E,q,rfl):=Oe L;let((_,_,_),Q):=qx.mp G.1;let(A,rfl):=Vc Q;exact ak1 (j5 e Y J).v (ahb (nm:=nm) Y B).1 rfl rfl rfl
 |sub o i =>
  replace h:=j7 (show Eo (atn tg) _=true from h);let((V,F),P,h):=h;let(H,rfl):=ael P;simp only[az]at h;let(N,J,G,O):=h;refine asw (aby Y.room) (j5 e Y J).v (j5 o Y G).v (j5 i Y O).v λv=>?_
  cases F<;>first|rfl|(cases N;done)
 |fld o f =>
  replace h:=j7 (show Eo (atp tg) _=true from h);let((V,n,H),P,h):=h;cases aem P;simp only[az]at h;let((B,N),J,G):=h;let(M,t2):=Y.tab.fl _ _ (km N);exact asx M t2 (j5 e Y J).v (j5 o Y G).v B
mutual
theorem a0e:∀(s:Dg){c:Ctx}{X:Cx}{a:Stmt},Gr T nm W k c X->c.fn=true->a73 T s c a=true->PS X a (tS nm W X.K s)
 |.asg l e,c,X,a,hc,hf,h=>by
  replace h:=j7 h;let((N,v),Y,h):=h;let(p,rfl):=az7 Y;replace h:=j7 h;let(t,G,h):=h;cases De G;exact a0d hc h
 |.expr e,c,X,a,hc,hf,h=>by
  replace h:=j7 h;let(v,Y,h):=h;let(p,rfl):=az8 Y;simp only[az]at h;exact a6z (j5 e hc h.2).v (Q9 h.1 _ _ _)
 |.iff t x y,c,X,a,hc,hf,h=>by
  replace h:=j7 h;let((q,l,r),Y,h):=h;let(p,rfl):=az9 Y;simp only[az]at h;exact bc8 ((j5 t hc h.2.1).q h.1) (Ng x hc hf h.2.2.1) (Ng y hc hf h.2.2.2)
 |.whl t x,c,X,a,hc,hf,h=>by
  replace h:=j7 h;let((q,l,r),Y,h):=h;let(p,rfl):=a0a Y;simp only[az,uc]at h;let((G,rfl),J,B):=h;exact bc9 (hc.fnl hf).2 ((j5 t hc J).q G) (Ng x hc hf B)
 |.for_ t it x,c,X,a,hc,hf,h=>by
  replace h:=j7 h;let((L,O,l,r),Y,h):=h;let(p,rfl):=a0b Y;simp only[az,uc]at h;let((G,J,rfl),B,C):=h;exact bdc (hc.fnl hf).2 hc.calm (Vf it hc B) (ahb hc G).1 (Ng x hc hf C) J
 |.ret e,c,X,a,hc,hf,h=>by
  replace h:=j7 h;let(v,Y,h):=h;let(p,rfl):=a0c Y;replace h:=j7 h;let(w,rfl,h):=h;exact bc6 (j5 e hc h).v
 |.brk,c,X,a,hc,hf,h=>by
  rcases ali (km h)with⟨_,p,rfl⟩|⟨z,_⟩|⟨z,_⟩
  .exact bc7
  .cases z
  .cases z
 |.cont,c,X,a,hc,hf,h=>by
  rcases ali (km h)with⟨z,_⟩|⟨_,p,rfl⟩|⟨z,_⟩
  .cases z
  .exact a65
  .cases z
 |.raise,c,X,a,hc,hf,h=>azq
theorem Ng:∀(s:p7){c:Ctx}{X:Cx}{a:List Stmt},Gr T nm W k c X->c.fn=true->Xk T s c a=true->U7 X a (tSs nm W X.K s)
 |.nil,c,X,a,hc,hf,h=>by
  cases uc.mp h;exact a66
 |.cons s r,c,X,a,hc,hf,h=>by
  cases a with
  |nil=>cases h
  |cons st Y =>
   replace h:(a73 T s c st&&Xk T r c Y)=true:=h;simp only[az]at h;exact ayt (a0e s hc hf h.1) (Ng r hc hf h.2)
end
end
structure Def where
 x:Str
 qual:Str
 N:List Str
 ps:List Str
noncomputable def scB(N T:Yf)(Y:Scope):Bool:=
 (decide (Y.kind=.function)&&(!Y.isCoroutine&&!Y.isGenerator))&&((decide N.Nodup&&decide (N.take T.length=T)) &&
 (T.all (λx=>Y.names.lookup x==some .local||Y.names.lookup x==some .cell)&&Y.names.all (λy=>!(y.2==NameKind.free))))
def a74(h:scB N ps sc=true):X5 N ps sc:=by simp only[scB,az,gf,Bool.not_eq_true',jg]at h;let((J,G,Y),(B,C),T,O):=h;exact(J,G,Y,B,C,λx m=>by have:=T x m;simpa using this,λy m=>by have:=O y m;simpa using this)
def an7(T:Tab)(d:Def)(F:MW.Fn)(st:Stmt):Bool:=
 (scB d.N d.ps (By st)&&(decide (F.np=d.ps.length)&&decide (F.ns=d.N.length)))&&Xk T F.body (d.N,(By st).names,true,[]) (Gf st)
def a0f{F:MW.Fn}(h:F.run W ds M=.ok d M'):ds.length=F.np/\∃U Z,F.body.den W (ds.map some++List.replicate (F.ns-F.np) none) M=.ok (U,Z) M'/\(U=.ret d\/(U=.next/\d=.non)):=by
 unfold MW.Fn.run at h;split at h
 .rename_i T
  let((U,Z),G,Y,e):=ik h;refine(T,U,Z,?_);cases U with
  |ret z=>cases e;exact(Y,.inl rfl)|next=>cases e;exact(Y,.inr (rfl,rfl))|brk=>cases e|cont=>cases e
 .cases h
def a75{Y:MW.Prog}(U:Fun K d.x d.qual st f fd)(hF:Y.fns[i]?\F)(h:an7 T d F st=true)(hT:atm T nm (Y.call n,Y.cls) k P w K mg base):Ii P w K mg base CX0 (k+17) f fd d.ps (spF nm (Y.call (n+1),Y.cls) K F.np i):=by
 simp only[an7,az,gf]at h;let((Z,I,h3),h4):=h;have S:=a74 Z;have go:∀J M B M',MW.Kg.call (Y.call (n+1),Y.cls) i J M=.ok B M'->F.run (Y.call n,Y.cls) J M=.ok B M':=λJ M B M' e=>by have e:Y.call (n+1) i J M=.ok B M':=e;unfold MW.Prog.call at e;rw[hF]at e;exact e
 refine U.ok (k:=k+16) S (λvs H Q E z_=>by let(W,M,J,B,M',_,r,l,e,_):=z_;rw[<-r.length,l,I]) (λL A G s H vs Q E hr z_=>?_);let(W,M,J,B,M',X,r,l,e,q):=z_;have hc:Gr T nm (Y.call n,Y.cls) k (d.N,(By st).names,true,[]) (ai0 CX0 P w K mg base d.N d.qual (By st) f L A G s H E).nox:=
  (rfl,S.nd,rfl,S.kind,rfl,hr,λ_=>(λ_=>rfl,PassesOwn.never),hT,λ_ z=>by cases z)
 refine(_,Ng F.body hc rfl h4,?_);let(hl,fl,C,e1,e2):=a0f (go _ _ _ _ e);refine(W,_,M,fl,C,M',X,?_,e1,λO R qq le V R'=>?_)
 .unfold L2.start
  exact(ym.a6p r).append (ym.a2d _ (by rw[ye,h3,<-r.length,l]))
 .rcases e2 with rfl|⟨rfl,rfl⟩
  .exact λv D=>q O R v le V D
  .exact q O R _ le V .non
theorem alj{nm:Nm}{P:Program}{w:World}{K:Fg}{mg:Zs}{base:Heap}{IR:MW.Prog}{T:Tab}{D:Nat->Def}{st:Nat->Stmt}{fa:Nat->Addr}{fd:Nat->FuncData}
 (U:∀i,i<IR.fns.length->Fun K (D i).x (D i).qual (st i) (fa i) (fd i)) (h:∀i F,IR.fns[i]?\F->an7 T (D i) F (st i)=true)
 (G:∀n,(∀i F,IR.fns[i]?\F->Ii P w K mg base CX0 (17*n) (fa i) (fd i) (D i).ps (spF nm (IR.call n,IR.cls) K F.np i))->atm T nm (IR.call n,IR.cls) (17*n) P w K mg base) :
 ∀n i F,IR.fns[i]?\F->Ii P w K mg base CX0 (17*n) (fa i) (fd i) (D i).ps (spF nm (IR.call n,IR.cls) K F.np i)
 |0,i,F,hF=>((λO H Q E z_=>by let(L,M,N,B,C,_,r,l,e,_):=z_;cases e),λA Y s H J V O Q E W S R I z_=>by let(L,M,N,B,C,_,r,l,e,_):=z_;cases e)
 |n+1,i,F,hF=>a75 (U i (ao.mp hF).1) hF (h i F hF) (G n (alj U h G n))
noncomputable def a76(s:Str):Bool:=s.cps[0]?==some 0
def at5(Y:Yf):Bool:=decide Y.Nodup&&Y.all λs=>!a76 s
noncomputable def ahc(Y:Yf)(i:Nat):Str:=match Y[i]? with|some s=>s|none=>⟨#[0,0,i]⟩
def at6(h:at5 Ud=true)(i j:Nat)(e:ahc Ud i=ahc Ud j):i=j:=by
 simp only[at5,az,gf,jg]at h;have Y:∀k,a76 ⟨#[0,0,k]⟩=true:=λk=>rfl
 unfold ahc at e;cases hi:Ud[i]? with
 |some a =>
  rw[hi]at e;cases hj:Ud[j]? with
  |some b =>
   rw[hj]at e;have e:a=b:=e;subst e;let(B,T):=ao.mp hi;let(J,G):=ao.mp hj;exact(List.getElem_inj h.1).mp (T.trans G.symm)
  |none =>
   rw[hj]at e;have e:a=⟨#[0,0,j]⟩:=e;have:=h.2 a (bf hi);rw[e,Y]at this;cases this
 |none =>
  rw[hi]at e;cases hj:Ud[j]? with
  |some b =>
   rw[hj]at e;have e:(⟨#[0,0,i]⟩:Str)=b:=e;have:=h.2 b (bf hj);rw[<-e,Y]at this;cases this
  |none =>
   rw[hj]at e;have e:(⟨#[0,0,i]⟩:Str)=⟨#[0,0,j]⟩:=e;simpa using e
def a77(Y:List (Option Addr))(T:Yf)(h:at5 T=true):Nm:=(λc=>(Y[c]?).join,ahc T,at6 h)
def at7(Y:Yf)(x:Str):Bool:=!(Y.contains x)&&!a76 x
def at8(h:at7 Ud x=true)(i:Nat):ahc Ud i≠x:=λe=>by
 simp only[at7,az,Bool.not_eq_true']at h;unfold ahc at e;cases hi:Ud[i]? with
 |some a =>
  rw[hi]at e;have e:a=x:=e;rw[<-e]at h;have:=List.contains_iff_mem.mpr (bf hi);rw[this]at h;cases h.1
 |none =>
  rw[hi]at e;have e:(⟨#[0,0,i]⟩:Str)=x:=e;rw[<-e]at h;cases h.2
def AllP{Y:Type}(P:Y->Prop):List Y->Prop
 |x::r=>P x/\AllP P r|[]=>True
def AllP.get(h:AllP P l)(m:x∈l):P x:=by
 induction l with
 |nil=>cases m
 |cons y r Y =>
  rcases dh.mp m with z|z
  .rw[z];exact h.1
  .exact Y h.2 z
section
variable(K:Fg)(mg:Zs)
def ahd:List Def->List Stmt->List Addr->List FuncData->Prop
 |d::ds,s::ss,a::as,f::fs=>(Fun K d.x d.qual s a f/\Binds K f d.ps [])/\ahd ds ss as fs|[],[],[],[]=>True|_,_,_,_=>False
def Z7:List (Option (Str×Nat))->List Addr->Prop
 |some p::r,a::as=>mg p.1\(.ref a)/\Z7 r as|none::r,_::as=>Z7 r as|_,_=>True
noncomputable abbrev a0g(C:Addr)(mts:List (Str×Nat))(Sh:X9):=AllP λ(q:Nat×Nat)=>∃p a,mts[q.1]?\p/\Sh[q.2]?\a/\Meth K C p.1 a
noncomputable abbrev at9(C:Addr):=AllP λx=>Lx K C x
structure ClF(T:Tab)(Sh:X9)(x:Str)(C:Addr)(cl:MW.Cl):Prop where
 mg:mg x\(.ref C)
 cs:Cls K C
 ini:∃f,Sh[cl.init]?\f/\Mk K C f
 me:a0g K C T.mts Sh cl.meths
 na:at9 K C T.Ud
def Ug(T:Tab)(Y:X9):List (Option (Str×Nat))->List (Option Addr)->List MW.Cl->Prop
 |some p::r,some C::cs,cl::cls=>ClF K mg T Y p.1 C cl/\Ug T Y r cs cls|none::r,none::cs,_::cls=>Ug T Y r cs cls|[],[],[]=>True|_,_,_=>False
noncomputable abbrev aua :=AllP λ(p:Str×Int)=>∃t,mg p.1\(.int p.2 t)
noncomputable abbrev AllB :=AllP λ(x:Str)=>mg x=none
end
def ahd.get{Y:List Def}{i:Nat}{d:Def}(h:ahd K Y Z as fs)(e:Y[i]?\d):∃s a f,Z[i]?\s/\as[i]?\a/\fs[i]?\f/\Fun K d.x d.qual s a f/\Binds K f d.ps []:=by
 induction Y generalizing Z as fs i with
 |nil=>simp at e
 |cons G Y T =>
  cases Z with
  |nil=>exact h.elim|cons s Z =>
  cases as with
  |nil=>exact h.elim|cons a as =>
  cases fs with
  |nil=>exact h.elim|cons f fs =>
  cases i with
  |zero=>cases e;exact(s,a,f,rfl,rfl,rfl,h.1)|succ i=>exact(T h.2 e :)
def Z7.get{l:List (Option (Str×Nat))}{as:X9}{i:Nat}{p:Str×Nat}{a:Addr}(h:Z7 mg l as)(e:l[i]?\(some p))(Y:as[i]?\a):mg p.1\(.ref a):=by
 induction l generalizing as i with
 |nil=>simp at e
 |cons q l T =>
  cases as with
  |nil=>simp at Y|cons b as =>
  cases i with
  |zero=>cases e;cases Y;exact h.1
  |succ i =>
   cases q with
   |none=>exact T h e Y|some q=>exact T h.2 e Y
def Ug.get{l:List (Option (Str×Nat))}{c:Nat}{p:Str×Nat}(h:Ug K mg T U l Z cls)(e:l[c]?\(some p)):∃C cl,Z[c]?\(some C)/\cls[c]?\cl/\ClF K mg T U p.1 C cl:=by
 induction l generalizing Z cls c with
 |nil=>simp at e
 |cons q l Y =>
  cases Z with
  |nil=>cases q<;>exact h.elim|cons C Z =>
  cases cls with
  |nil=>cases q<;>cases C<;>exact h.elim|cons cl cls =>
  cases q with
  |none =>
   cases C with
   |some C=>exact h.elim
   |none =>
    cases c with
    |zero=>cases e
    |succ c =>
     have h:Ug K mg T U l Z cls:=h;exact(Y h e :)
  |some q =>
   cases C with
   |none=>exact h.elim
   |some C =>
    cases c with
    |zero=>cases e;exact(C,cl,rfl,rfl,h.1)|succ c=>exact(Y h.2 e :)
theorem Ug.at{Y:List (Option Addr)}{c:Nat}{C:Addr}(h:Ug K mg T Z l Y cls)(e:Y[c]?\(some C)):Cls K C/\at9 K C T.Ud:=by
 induction l generalizing Y cls c with
 |nil =>
  cases Y with
  |nil=>simp at e|cons C Y=>cases cls<;>exact h.elim
 |cons q l G =>
  cases Y with
  |nil=>simp at e|cons C Y =>
  cases cls with
  |nil=>cases q<;>cases C<;>exact h.elim|cons cl cls =>
  cases q with
  |none =>
   cases C with
   |some C=>exact h.elim
   |none =>
    cases c with
    |zero=>cases e
    |succ c =>
     have h:Ug K mg T Z l Y cls:=h;exact(G h e :)
  |some q =>
   cases C with
   |none=>exact h.elim
   |some C =>
    cases c with
    |zero=>cases e;exact(h.1.cs,h.1.na)|succ c=>exact(G h.2 e :)
def a0h(T:Tab):List MW.Fn->List Def->List Stmt->Bool
 |F::Fs,d::ds,s::ss=>an7 T d F s&&a0h T Fs ds ss|[],[],[]=>true|_,_,_=>false
noncomputable def npB(Y:List MW.Fn)(f n:Nat):Bool:=match Y[f]? with|some F=>F.np==n|none=>false
def tfB(Y:List MW.Fn)(l:List (Option (Str×Nat))):Bool:=l.zipIdx.all λq=>match q.1 with|some p=>npB Y q.2 p.2|none=>true
def tcB(Y:MW.Prog)(l:List (Option (Str×Nat))):Bool:=l.zipIdx.all λq=>match q.1 with|some p=>(match Y.cls[q.2]? with|some cl=>npB Y.fns cl.init (p.2+1)|none=>false)|none=>true
noncomputable def bje(Y:List MW.Cl)(m c f:Nat):Bool:=Y.zipIdx.all λq=>match q.1.meths.lookup m with|none=>true|some g=>q.2==c&&g==f
def tmB(G:MW.Prog)(T:Tab)(mcs:List (Nat×Nat)):Bool:=T.mts.zipIdx.all λq=>match mcs[q.2]? with
 |some Y=>(bje G.cls q.2 Y.1 Y.2&&(npB G.fns Y.2 (q.1.2+1)&&at7 T.Ud q.1.1))&&((match T.cls[Y.1]? with|some (some _)=>true|_=>false)&&(match G.cls[Y.1]? with|some cl=>cl.meths.lookup q.2==some Y.2|none=>false))
 |none=>false
def Og{Y:Type}{l:List Y}{g:Y×Nat->Bool}(h:l.zipIdx.all g=true){x:Y}(e:l[i]?\x):g (x,i)=true:=by rw[jg]at h;exact h (x,i) (by rw[vg];exact(i,by rw[Aa,e];simp))
set_option tactic.hygienic true in
def ajh(h:npB fns f n=true):∃F,fns[f]?\F/\F.np=n:=by
 unfold npB at h;split at h
 .rename_i F e;exact(F,e,eq_of_beq h)
 .cases h
def ahe{Y:List MW.Fn}{i:Nat}{F:MW.Fn}(h:a0h T Y U Z=true)(e:Y[i]?\F):∃d s,U[i]?\d/\Z[i]?\s/\an7 T d F s=true:=by
 induction Y generalizing U Z i with
 |nil=>simp at e
 |cons J Y G =>
  cases U with
  |nil=>cases h|cons d U =>
  cases Z with
  |nil=>cases h|cons s Z =>
  replace h:=Bool.and_eq_true_iff.mp h;cases i with
  |zero=>cases e;exact(d,s,rfl,rfl,h.1)|succ i=>exact(G h.2 e :)
set_option tactic.hygienic true in
def a78(Q:at5 T.Ud=true)(hP:a0h T IR.fns Ds ss=true)(h1:tfB IR.fns T.fns=true)(h2:tcB IR T.cls=true)(h3:tmB IR T mcs=true)(aF:ahd K Ds ss Z fds)(aG:Z7 mg T.fns Z)(aC:Ug K mg T Z T.cls cas IR.cls)(aV:aua mg T.azw)(aB:AllB mg Rb)(hF:IR.fns[i]?\F) :
 ∃d a f,Ds[i]?\d/\Z[i]?\a/\fds[i]?\f/\Binds K f d.ps []/\Ii P w K mg base CX0 (17*n) a f d.ps (spF (a77 cas T.Ud Q) (IR.call n,IR.cls) K F.np i):=by
 let dd:Def:=(Str.empty,Str.empty,[],[])
 let sd:Stmt:=.Pass (0,0,0,0)
 let(d,s,Y,S,g3):=ahe hP hF;have all:∀(i:Nat)(F:MW.Fn),IR.fns[i]?\F->∃d s a f,Ds[i]?\d/\ss[i]?\s/\Z[i]?\a/\fds[i]?\f/\Fun K d.x d.qual s a f/\Binds K f d.ps []/\an7 T d F s=true:=λi F e=>by
  symm
  let(d,s,Y,S,g3):=ahe hP e;let(s',a,f,B,k2,k3,N,H):=aF.get Y;rw[S]at B;cases B;apply _k;exact(d,s,a,f,Y,S,k2,k3,N,H,g3)
 have df:∀{j:Nat}{a:Addr}{f:FuncData}{d:Def},Z[j]?\a->fds[j]?\f->Ds[j]?\d->(Z[j]?).getD 0=a/\Ds[j]?.getD dd=d:=λO L X=>(by rw[O];rfl,by rw[X];rfl)
 obtain⟨V,q4⟩:∃V:FuncData,True:=by let(s',a,f,_):=aF.get Y;exact(f,trivial)
 refine(λI=>?_) (alj (nm:=a77 cas T.Ud Q) (P:=P) (w:=w) (K:=K) (mg:=mg) (base:=base) (IR:=IR) (T:=T) (D:=λi=>Ds[i]?.getD dd) (st:=λi=>ss[i]?.getD sd) (fa:=λi=>(Z[i]?).getD 0) (fd:=λi=>(fds[i]?).getD V)
  (λi hi=>by
   symm
   let(d,s,a,f,B,k2,k3,N,H,M,J):=all i IR.fns[i] (by simp[hi]);apply _k;rw[B,k2,k3,N];exact H)
  (λi F e=>by
   symm
   let(d,s,a,f,B,k2,k3,N,H,M,J):=all i F e;apply _k;rw[B,k2];exact J)
  (λn G=>?_) n i F hF)
 .symm
  let(d',s',a,f,B,k2,k3,N,H,M,J):=all i F hF;apply _k;refine(d',a,f,B,k3,N,M,?_);have:=I;rw[B,k3,N]at this;exact this
 ·
  have R:∀{j:Nat}{F:MW.Fn}{a:Addr},IR.fns[j]?\F->Z[j]?\a->∃(f:FuncData)(d:Def),Binds K f d.ps []/\Ii P w K mg base CX0 (17*n) a f d.ps (spF (a77 cas T.Ud Q) (IR.call n,IR.cls) K F.np j)/\PySem.W.keepIn K (.ref a)=true:=fun{j F a} O L=>by
   symm
   let(d,s,a',f,B,k2,k3,N,H,M,J):=all j F O;rw[L]at k3;cases k3;have g:=G j F O;rw[B,L,N]at g;apply _k;exact(f,d,M,g,H.kp)
  have addr:∀{j:Nat}{F:MW.Fn},IR.fns[j]?\F->∃a,Z[j]?\a:=fun{j F} e=>by
   symm
   let(d,s,a',f,B,k2,k3,_):=all j F e;apply _k;exact(a',k3)
  refine(λf x m e=>?_,λc x m e=>?_,λm x j e=>?_,λf x e=>?_,λx i m=>aV.get m,λx m=>aB.get m)
  .symm
   let(F,O,L):=ajh (Og h1 e);let(a,X):=addr O;let(fd,d,b,g,kp):=R O X;rw[L]at g;apply _k;exact(a,fd,d.ps,g,aG.get e X,kp,b)
  .symm
   let(C,cl,u,U,A):=aC.get e;have z:=Og h2 e;simp only[U]at z;let(F,O,L):=ajh z;let(f,f1,f2):=A.ini;let(fd,d,b,g,kp):=R O f1;rw[L]at g;apply _k;exact(C,f,fd,d.ps,cl,f2,g,A.mg,b,U,by show(cas[c]?).join\C;rw[u];rfl)
  .have z:=Og h3 e
   simp only at z;split at z
   .rename_i cf q5
    simp only[az]at z;symm
    let((z1,z2,z3),z4,z5):=z;let(F,O,L):=ajh z2;apply _k;split at z4
    .rename_i p hp
     symm
     let(C,cl,u,U,A):=aC.get hp;rw[U]at z5;simp only at z5;have mem:(m,cf.2)∈cl.meths:=mem_of_lookup (eq_of_beq z5);let(p',a,r1,r2,r3):=A.me.get mem;rw[e]at r1;cases r1;let(fd,d,b,g,kp):=R O r2;rw[L]at g;apply _k;refine(C,a,fd,d.ps,cf.2,A.cs,r3,g,b,λc' q0 qk g' qq=>?_,at8 z3);have y:=Og z1 qk;simp only[qq,az]at y;have y1:c'=cf.1:=eq_of_beq y.1;exact(by show(cas[c']?).join\C;rw[y1,u];rfl,eq_of_beq y.2)
    .cases z4
   .cases z
  .refine(by show x=ahc T.Ud f;unfold ahc;rw[e],λc C E=>?_)
   have E:(cas[c]?).join\C:=E;have qv:cas[c]?\(some C):=by
    cases q:cas[c]? with
    |none=>rw[q]at E;cases E
    |some o=>rw[q]at E;cases o with
     |none=>cases E|some C'=>cases E;rfl
   let(y1,y2):=aC.at qv;exact(y1,y2.get (bf e))
def fN:ahd K [] [] [] []:=trivial
def gN:Z7 mg [] as:=trivial
def gS(h:mg p.1\(.ref a))(t:Z7 mg r as):Z7 mg (some p::r) (a::as):=(h,t)
def gO(t:Z7 mg r as):Z7 mg (none::r) (a::as):=t
def mN:a0g K C mts Z []:=trivial
def mC(Y:mts[q.1]?\p)(T:Z[q.2]?\a)(m:Meth K C p.1 a)(t:a0g K C mts Z r):a0g K C mts Z (q::r):=((p,a,Y,T,m),t)
def nN:at9 K C []:=trivial
def nC(h:PySem.W.findIn K (.ref C) x\none)(t:at9 K C r):at9 K C (x::r):=(h,t)
def cN:Ug K mg T Z [] [] []:=trivial
def cO(t:Ug K mg T Z r cs cls):Ug K mg T Z (none::r) (none::cs) (cl::cls):=t
def cS(h:ClF K mg T Z p.1 C cl)(t:Ug K mg T Z r cs cls):Ug K mg T Z (some p::r) (some C::cs) (cl::cls):=(h,t)
def vN:aua mg []:=trivial
def vC(h:mg p.1\(.int p.2 t))(q:aua mg r):aua mg (p::r):=((t,h),q)
def bN:AllB mg []:=trivial
def bC(h:mg x=none)(q:AllB mg r):AllB mg (x::r):=(h,q)
abbrev Lk(K:Fg)(f:Addr)(x q:Str)(st:Stmt)(oc:Value)(od:Option Addr)(kV dc pm:Value)(an:Option Addr)(cd ct:Value)(sl:Array (Option Value)):Prop:=
 K.lookup f\(oc,od,.func (PySem.W.fnOf x q (Iz st) (Gf st) (By st) .none kV dc pm an cd ct),sl)/\PySem.W.codeIn K cd q=true/\PySem.W.keepIn K (.ref f)=true
noncomputable def a79:Nat->(List Value->Prop)->Prop|0,P=>P []|n+1,P=>∀a,a79 n λY=>P (a::Y)
theorem alk:∀{us:Zl}{P:List Value->Prop},a79 us.length P->P us|[],_,h=>h|a::us,_,h=>alk (us:=us) (h a)
def fE{kV:Value}(l:Lk K a d.x d.qual s oc od kV dc Z U cd ct sl)(r:ahd K ds ss as fs)
 (b:autoParam (∀(kV qq Z:Value)(U:Option Addr)(qk ct:Value),a79 d.ps.length λus=>bindArgs (PySem.W.fnOf d.x d.qual (Iz s) (Gf s) (By s) .none kV qq Z U qk ct) (us,[])=pure (d.ps.zip us)) aU7._auto_1) :
 ahd K (d::ds) (s::ss) (a::as) (PySem.W.fnOf d.x d.qual (Iz s) (Gf s) (By s) .none kV dc Z U cd ct::fs):=((asj l.1 l.2.1 l.2.2,(asj l.1 l.2.1 l.2.2).binds λ_ _ _ _ _ _ _ e=>alk (e▸b _ _ _ _ _ _)),r)
noncomputable def alm(K:Fg):Sp:=λT H Q _=>∃(a:Addr)(Y:Xs),T=[.ref a]/\Only H/\Kc K H a (Y.map V.int)/\Y.length<=63/\∀G,Q (.bl true) G
def a0i(o:Only H)(h:Kc K H a vs):ano K H a vs:=by
 rcases h with(h|h)|h
 .rcases o a with z|⟨ob,xs,z⟩<;>rw[z]at h<;>cases h
 .exact .inl h
 .exact .inr h
def a0j(run:∀(Z:Xs),Z.length<=63->∃U,W.call i [.fz (Z.map MW.D.int)] []=.ok (.bl true) U)(h:alm K vs H Q E):spF nm W K 1 i vs H Q E:=by let(a,Z,rfl,o,G,T,k):=h;let(U,e):=run Z T;refine(([],[],λ_ _ _ _=>0),[],_,_,U,(rfl,Bt,by simp,λn o a h=>by simp at h),.cons (.fz (a0i o G) (qz.ints Z)) .nil,rfl,e,λJ Y v le B r=>?_);cases r;exact k Y
def walk{l:PySem.W.OpenLaw}{K:Params->Fg}(C:l.most\63)(Y:d.params.defaults=[])(T:∀(w:World) (h:Heap),YP w h->(K w.params).In h)(F:∀(w:World) (mg:Zs) (U:Addr) (h:Heap),(K w.params).In h->h.Ns mainGlobals mg->mg d.name\(.ref U) ->
 ∃fd:FuncData,(∀(s:Shared) (u:Value),BindsTo s fd ([u],[]) [("script",u)])/\∀Z:Heap,(K w.params).In Z->Z.Ns mainGlobals mg->Ii l.prog w (K w.params) mg Z CX0 170 U fd ["script"] (alm (K w.params))) :
 PySem.W.WalkO q loose XP YP l.row.toRowW d [] (λf vs=>PySem.call f vs):=
 L2.ayj (n:=63) (k:=170) (x :="script") (CX:=λ_=>CX0) (sp:=λw=>alm (K w.params)) C ⋯ Y (rfl,by decide,by decide) T F (λ_ _ a G J O B=>(a,G,rfl,O,B,J,λ_=>rfl)) λ_ _ _ _ _ z=>z
end Ck
namespace K31
open PySem L2
noncomputable def top(i:Nat):Stmt:=PySem.Challenge.pw_mapwright_k31_products.main.body.getD i (.Pass (0,0,0,0))
def sts:List Stmt:=[inClass (top 8) 0,inClass (top 8) 1,inClass (top 8) 2,inClass (top 8) 2,inClass (top 8) 2,inClass (top 8) 2,top 9,top 10,top 11,top 12,top 13,top 14,top 23,top 24,top 25,top 26,top 27,top 28,top 29,top 30,top 31,inClass (top 8) 2,top 16,top 17,top 18,top 19,top 32,top 33,top 34,top 35,top 36,top 37,top 38,top 39,top 40,top 41,top 43,top 44,top 20,top 21,top 42]
noncomputable def fd(x:Str)(N:Yf)(n:Nat):Ck.Def:=(x,x,N,N.take n)
def Ds:List Ck.Def:=[("__init__","Pattern.__init__",["self","kinds","doings","table"],["self","kinds","doings","table"]),("kinds","Pattern.kinds",["self"],["self"]),("doings","Pattern.doings",["self"],["self"]),("doings","Pattern.doings",["self"],["self"]),("doings","Pattern.doings",["self"],["self"]),("doings","Pattern.doings",["self"],["self"]),fd "both_ways" ["table","one","other"] 3,fd "meeting_pairs" ["doings","pairs","one","ends","other","more"] 1,fd "is_way_between" ["doings","way","start","goal"] 4,fd "check_doings" ["kinds","doings","ends"] 2,fd "check_table" ["doings","table","pairs","one","other"] 2,fd "check_threes" ["doings","table","pairs","one","other","last","ahead","after"] 2,fd "_law_cell_at" ["script","k"] 2,fd "_law_state" ["script","k","cell"] 2,fd "_law_take" ["state","many","found","mixed"] 2,fd "_law_begun" ["state","way","graph","loops","swap","known","kinds","sizes","found","k","one","other"] 1,fd "_law_closed" ["begun","found","one","other","row","k","j","first","second","more"] 1,fd "_law_pattern" ["state","begun","closed","kinds","table","j","k","more"] 1,fd "_law_ways" ["pat","kind"] 2,fd "_law_end" ["pat","kind","way"] 3,fd "_law_behind" ["pat","one","other"] 3,("doings","Pattern.doings",["self"],["self"]),fd "product" ["pattern","one","other","sizes","acts","doing","ends","left","right"] 3,fd "all_pairs" ["row","more","many","pairs","thing"] 3,fd "paired" ["other","left","right"] 3,fd "paired_row" ["here","there","many"] 3,fd "_law_merged" ["pat","marks","acts","changed","k","one","other","first","thing","mark","end","low","high"] 3,fd "_law_world" ["state","pat","most","rows","number","kind","some","end","way","acts","k","one","other","marks","low","high","heads","told","row"] 3,fd "_law_led" ["world","thing","way"] 3,fd "_law_along" ["pat","one","other","some","place","goal","found","way","here","there"] 6,fd "_law_places" ["pat","world","ends","k","spots","kind"] 2,fd "_law_maps" ["pat","one","other","rows","place","more","some","goal","fresh","found","told","kind"] 3,fd "_law_pairs" ["pat","one","other","acts","k","start","end","row","thing","more","here"] 3,fd "_law_some" ["state","found"] 2,fd "_law_same" ["found","due"] 2,fd "_law_product" ["pat","one","other","first","second","kind","numbers"] 3,fd "_law_put_together" ["state","pat","third","one","other","turn","left","right"] 5,fd "law" ["script","state","pat","pattern","one","other","third","single","empty","whole","here","there"] 1,fd "one_thing" ["pattern"] 1,fd "nothing" ["pattern"] 1,fd "_law_paired" ["other","left","right","found","kind","size","row"] 3]
noncomputable def tab:Ck.Tab:=([none,none,none,none,none,none,(some ("both_ways",3):Y2),(some ("meeting_pairs",1):Y2),(some ("is_way_between",4):Y2),(some ("check_doings",2):Y2),(some ("check_table",2):Y2),(some ("check_threes",2):Y2),(some ("_law_cell_at",2):Y2),(some ("_law_state",2):Y2),(some ("_law_take",2):Y2),(some ("_law_begun",1):Y2),(some ("_law_closed",1):Y2),(some ("_law_pattern",1):Y2),(some ("_law_ways",2):Y2),(some ("_law_end",3):Y2),(some ("_law_behind",3):Y2),none,(some ("product",3):Y2),(some ("all_pairs",3):Y2),(some ("paired",3):Y2),(some ("paired_row",3):Y2),(some ("_law_merged",3):Y2),(some ("_law_world",3):Y2),(some ("_law_led",3):Y2),(some ("_law_along",6):Y2),(some ("_law_places",2):Y2),(some ("_law_maps",3):Y2),(some ("_law_pairs",3):Y2),(some ("_law_some",2):Y2),(some ("_law_same",2):Y2),(some ("_law_product",3):Y2),(some ("_law_put_together",5):Y2),(some ("law",1):Y2),(some ("one_thing",1):Y2),(some ("nothing",1):Y2),(some ("_law_paired",3):Y2)],[none,none,some ("Pattern",3)],[("doings",0),("kinds",0)],["together","doing_ends","kind_count"],[("STAYING",-1),("MOST_KINDS",3),("MOST_DOINGS",5)])
noncomputable def mcs:List (Nat×Nat):=[(2,2),(2,1)]
def chk:Ck.a0h tab prog.fns Ds sts=true:=by decide+kernel
def bjg:Ck.at5 tab.Ud=true:=by decide+kernel
def bjh:Ck.tfB prog.fns tab.fns=true:=by decide+kernel
def bji:Ck.tcB prog tab.cls=true:=by decide+kernel
def bjj:Ck.tmB prog tab mcs=true:=by decide+kernel
open MW
noncomputable def Ke(Y:List F)(k i:Nat):Bool:=match Y[i]? with|some f=>decide (f.a=k)|none=>false
def ud(Y:List F)(k:Nat):List D:=.int (-1)::((List.range Y.length).filter (Ke Y k)).map nD
def Df(h:d∈ud Z k):d=.int (-1)\/∃(i:Nat)(f:F),d=.int i/\Z[i]?\f/\f.a=k:=by
 rcases dh.mp h with q|q
 .exact .inl q
 .let(i,G,rfl):=bh.mp q
  let(J,T):=je.mp G;have Y:=jh.mp J;have e:Z[i]?=some Z[i]:=by simp[Y]
  rw[Ke,e]at T;exact .inr (i,Z[i],rfl,e,by simpa using T)
def aub(h:d∈ud Z k):∃i:Int,d=.int i:=by rcases Df h with rfl|⟨i,f,rfl,_⟩<;>exact(_,rfl)
def Vg(Y:Z.length<=5):(ud Z k).length<=6:=by have:=qy (Ke Z k) (List.range Z.length);simp at this;simp[ud];exact a_ this Y
def uq(K r:Nat)(Y:List F):D:=.tup [.int K,Ka Y,.ref r]
abbrev sP(K r:Nat)(hs:List F):Option D:=some (uq K r hs)
def Rf(K r:Nat)(Y:List F)(M:fc):Bx (uq K r Y) (.int 0) M\(.int K):=rfl
def Kf(K r:Nat)(Y:List F)(M:fc):Bx (uq K r Y) (.int 1) M\(Ka Y):=rfl
def a2q(K r:Nat)(Y:List F)(M:fc):Bx (uq K r Y) (.int 2) M\(.ref r):=rfl
def Made.keep(h:Made n r K U Z M)(k:vf M M'):Made n r K U Z M':=(k _ _ h.1,k _ _ h.2)
def Made.f2(h:Made n r K Z U M):Us (.ref n) 2 M\(.int K):=by simp[Us,h.1,List.lookup]
def Made.f1(h:Made n r K Z U M):Us (.ref n) 1 M\(Ka Z):=by simp[Us,h.1,List.lookup]
def Made.f0(h:Made n r K Z U M):Us (.ref n) 0 M\(.ref r):=by simp[Us,h.1,List.lookup]
def acb(Y:1<=m)(h:Made n r K Z U M):prog.call m 2 [.ref n] M=.ok (Ka Z) M:=by rw[call_of Y rfl];simp[Fn.run,Cj,Mp,h.f1]
def ahf(J:1<=m)(T:Z.length<=5){k:Nat}:prog.call m 18 [uq K r Z,.int k] M=.ok (.vl (ud Z k)) M:=by
 rw[call_of J rfl];have G:Ld.den (PW (m-1)) [sP K r Z,sI k] M=.ok (.vl (((List.range Z.length).filter (Ke Z k)).map nD)) M:=by
  unfold Ld;rw[Yy (n:=Z.length) (M1:=M) (q:=Ke Z k) (g:=nD) (by simp[Kf,Ig]) (a_ T ⋯) (λi Y=>by
   have e:Z[i]?=some Z[i]:=by simp[Y]
   refine(_,rfl,?_,λ_=>?_)
   .simp[-eq_int,Kf,Tu e,afv,Dd,Ke,Y]
   .simp[nD])]
  simp
 have:=Vz (M:=M) [.int (-1)] (((List.range Z.length).filter (Ke Z k)).map nD) (by
  have:=qy (Ke Z k) (List.range Z.length);simp at this⊢
  lia)
 simp[Fn.run,Wu,Wt,G,this,ud]
def aln(G:1<=m){k i:Nat}(Y:Z[i]?\f):prog.call m 19 [uq K r Z,.int k,.int i] M=.ok (.int f.b) M:=by
 rw[call_of G rfl];have T:¬((i:Int)<0):=by lia
 simp[Fn.run,Nu,Nt,T,Kf,Tu Y,Y7]
def an8(Y:1<=m){k:Nat}:prog.call m 19 [uq K r Z,.int k,.int (-1)] M=.ok (.int k) M:=by rw[call_of Y rfl];simp[Fn.run,Nu,Nt]
def aji(O:1<=m)(B:M[r']?\(.dT U))(N:-1<=x)(C:-1<=y)(Y:bothW Z U x y\v):prog.call m 20 [uq K r' Z,.int x,.int y] M=.ok v M:=by
 rw[call_of O rfl];unfold bothW at Y
 by_cases T:x=-1
 .rw[dm T]at Y;cases Y
  subst T;have:(-1:Int)+y+1=y:=by lia
  simp[Fn.run,Hh,Hg,this]
 .rw[cz T]at Y
  have nx:¬x<0:=by lia
  by_cases G:y=-1
  .rw[dm G]at Y;cases Y
   subst G;have:x+(-1:Int)+1=x:=by lia
   simp[Fn.run,Hh,Hg,nx,this]
  .rw[cz G]at Y
   have J:¬y<0:=by lia
   simp[Fn.run,Hh,Hg,nx,J,a2q,abd B (abe x y),Y]
end K31
namespace MW
def Ik(T:it.den W ρ M=.ok d M1)(O:gr M1 d\Z)(B:Z.length<=100000)(h:∀x∈Z,∃U,t.put x (ρ++List.replicate k none)\U/\c.den W U M1=.ok (.bl (q x)) M1/\(q x=true->e.den W U M1=.ok (g x) M1)) :
 (Ex.Ep v k t (.val it) c e).den W ρ M=if v then .ok (.vl ((Z.filter q).map g)) M1 else new (.lst ((Z.filter q).map g)) M1:=by
 rw[Qt,Ku,T];let(s,P,G):=Qs (g:=λx=>if q x then some (g x)else none) (body:=λd M=>(Res.wy (t.put d (ρ++List.replicate k none)) M).bind λY M=>(c.den W Y M).bind λb C =>
  match b with
   |.bl true=>(e.den W Y C).bind λx J=>.ok (some x) J
   |.bl false=>.ok none C|_=>.bad) O B (λx E=>by
  let(U,a,b,c):=h x E;rw[a,Res.Di,Res.yc,b,Res.yc];cases e:q x with
  | true=>simp[c e]|false=>simp)
 have:Z.filterMap (λx=>if q x then some (g x)else none)=(Z.filter q).map g:=by
  clear G h B O
  induction Z with
  |nil=>rfl|cons a l L=>by_cases e:q a=true<;>simp[e,L]
 rw[this]at G;simp only[Res.yc,P,Res.Di];exact t7 (λr=>Res.bind r λZ N=>if v=true then Res.ok (D.vl Z) N else new (MO.lst Z) N) G
end MW
namespace K31
open MW
noncomputable def Br(Y:List F)(k:Nat):D->Nat
 |.int i=>if i=-1 then k else match Y[i.toNat]? with|some f=>f.b|none=>0
 |_=>0
def wT(Y:List F)(k g:Nat):List D:=(ud Y k).filter λd=>decide (Br Y k d=g)
def Uh(h:d∈wT Z k g):d∈ud Z k/\Br Z k d=g:=by have:=je.mp h;exact(this.1,by simpa using this.2)
def Dy{i:Nat}(h:Z[i]?\f):Br Z k (.int i)=f.b:=by
 have:¬((i:Int)=-1):=by lia
 simp[Br,this,h]
def a8a{i:Nat}(h:Z[i]?\f)(e:f.a=k):.int i∈ud Z k:=by refine bu _ (bh.mpr (i,je.mpr (jh.mpr (ao.mp h).1,?_),rfl));simp[Ke,h,e]
def auc{i:Nat}(h:Z[i]?\f)(e:f.a=k):.int i∈wT Z k f.b:=
 je.mpr (a8a h e,by simp[Dy h])
def a8b(h:d∈wT Z k g):∃i:Int,d=.int i:=aub (Uh h).1
def bv(T:List F)(Y:List (List Kx×D))(j:Nat):D->Int
 |.int x=>match bothW T Y x j with|some (.int v)=>v|_=>0
 |_=>0
def alo(P:Gq sz K Z U){j:Nat}(T:Z[j]?\f)(B:d∈wT Z k f.a) :
 ∃x:Int,d=.int x/\-1<=x/\bothW Z U x j\(.int (bv Z U j d))/\.int (bv Z U j d)∈wT Z k f.b:=by
 let(C,Y):=Uh B;have E:¬((j:Int)=-1):=by lia
 rcases Df C with rfl|⟨i,g,rfl,hg,e⟩
 .have e:k=f.a:=by simpa[Br]using Y
  have:bothW Z U (-1) j\(.int j):=by simp[bothW]
  refine(-1,rfl,by lia,by simp[bv,this],?_);simp only[bv,this];exact auc T e.symm
 .rw[Dy hg]at Y
  have L:¬((i:Int)=-1):=by lia
  have:bothW Z U i j\(.int (ent Z g f)):=by rw[bothW,cz L,cz E];exact P.look hg T Y
  refine(i,rfl,by lia,by simp[bv,this],?_);simp only[bv,this];have mg:=bf hg;have J:=bf T;rw[N8];rcases P.Fj (P.cl g mg f J Y)with⟨G,O⟩|⟨u,N,G⟩
  .rw[G]
   refine je.mpr (by simp[ud],?_);have:g.a=f.b:=O.1;simp[Br,<-e,this]
  .rw[G]
   exact auc (f:=g.comp f) N e
noncomputable def ixI(v:Int)(Y:List D):Nat:=(Y.findIdx? λd=>match d with|.int i=>decide (i=v)|_=>false).getD 0
theorem ahg(M:fc)(v:Int):∀Z:List D,(∀d∈Z,∃i:Int,d=.int i)->Rz M (.int v) Z\(Z.map λd=>match d with|.int i=>decide (i=v)|_=>false)
 |[],_=>rfl
 |d::l,h=>by
  let(i,rfl):=h d (by simp);simp[Rz,ahg M v l (λx Y=>h x (bu _ Y))]
theorem ahh{Y:Type}(f:Y->Bool):∀l:List Y,(l.map f).findIdx? id=l.findIdx? f
 |[]=>rfl|a::l=>by simp[List.findIdx?_cons,ahh f l]
def aud(Y:∀d∈ds,∃i:Int,d=.int i)(h:.int v∈ds):Lb .index (.vl ds) [.int v] M=.ok (.int (ixI v ds)) M:=by
 have e:afe M (.int v) ds\(ixI v ds):=by
  rw[afe,ahg M v ds Y,uw,ahh];unfold ixI;cases q:ds.findIdx? (λd=>match d with|.int i=>decide (i=v)|_=>false)with
  |some j=>rfl
  |none =>
   rw[xm]at q;have:=q _ h;simp at this
 simp[Lb,onL,e]
end K31
namespace K31
open MW
def aue(Y:1<=m)(T:d∈ud Z k):prog.call m 19 [uq K r Z,.int k,d] M=.ok (.int (Br Z k d)) M:=by
 rcases Df T with rfl|⟨i,f,rfl,hf,_⟩
 .rw[an8 Y];simp[Br]
 .rw[aln Y hf,Dy hf]
def RS(p K:Nat)(Y:Nat->List D)(M:fc):Prop:=∀i,i<K->M[p+i]?\(.lst (Y i))
noncomputable def yx(p K:Nat):List D:=(List.range K).map λi=>.ref (p+i)
theorem RS.keep(h:RS p K rs M)(s:St t f M M')(T:t<p):RS p K rs M':=λi Y=>s.keep _ _ (i_ (b_ T x_)) (h i Y)
def aeo(Y:i<K):Bx (.vl (yx p K)) (.int i) M\(.ref (p+i)):=Ei rfl q_ (by simp[yx,Y])
def auf(G:y=ρ.length)(C:e.den W ρ M=.ok (.int K) M)(J:K<=100000) :
 (Ex.comp true 1 (.name y) (.Xn e) (.lst .nil)).den W ρ M=.ok (.vl (yx M.length K)) (M++List.replicate K (.lst [])):=by
 subst G;let(E,Y,g,N,O):=adf (v:=true) (k:=1) (t:=.name ρ.length) (e:=.lst .nil) C J (λi T Y=>T=yx M.length i/\Y=M++List.replicate i (.lst [])) (rfl,by simp)
  (λi T Y L B=>by
   let(rfl,rfl):=B;refine(_,.ref (M.length+i),M++List.replicate i (MO.lst [])++[MO.lst []],rfl,by simp[MW.new],?_,?_)
   .simp[yx,qi]
   .simp[List.replicate_succ'])
 rw[g,N,O];rfl
def rowsOf(Y:List F)(T:List (Nat×Nat))(e:Nat):List D:=T.flatMap λp=>(wT Y p.2 e).map λw=>.tup [.int p.1,.int p.2,w]
def Ui(Y:List F)(T:List (Nat×Nat))(p:Nat×Nat)(e:Nat):rowsOf Y (T++[p]) e=rowsOf Y T e++(wT Y p.2 e).map λw=>.tup [.int p.1,.int p.2,w]:=by simp[rowsOf]
def X8(P:Gq sz K Z U)(T:k<K)(Y:d∈ud Z k):Br Z k d<K:=by
 rcases Df Y with rfl|⟨i,f,rfl,hf,_⟩
 .simpa[Br]using T
 .rw[Dy hf];exact P.aav f (bf hf)
def a0k{k:Nat}(J:1<=m)(T:hs.length<=5)(G:ρ[1]?\(sP K r hs))(B:ρ[5]?\(sI k))(Y:ρ.length=19) :
 Jz.den (PW m) ρ M=.ok (.vl ((ud hs k).map λw=>.tup [.int (Br hs k w),w])) M:=by
 unfold Jz;rw[Bj (d:=.vl (ud hs k)) (ds:=ud hs k) (M1:=M) (g:=λw=>.tup [.int (Br hs k w),w]) (by simp[G,B,ahf J T]) rfl (gh (Vg T) ⋯) (λx N=>by
  refine(_,rfl,?_);have O:(ρ++List.replicate 1 none).set 19 (some x)=ρ++[some x]:=by rw[List.set_append];simp[Y]
  rw[O];have L:(ρ++[some x])[1]?\(sP K r hs):=by rw[gq (b_ ⋯ (g_ Y))];exact G
  have C:(ρ++[some x])[5]?\(sI k):=by rw[gq (b_ ⋯ (g_ Y))];exact B
  have E:(ρ++[some x])[19]?\(some x):=by rw[<-Y];simp
  simp[L,C,E,aue J N])]
 rfl
def Low(p:Nat)(M Y:fc):Prop:=∀(a:Nat)(o:MO),a<p->M[a]?\o->Y[a]?\o
def Low.refl(p:Nat)(M:fc):Low p M M:=λ_ _ _ h=>h
def Low.trans(a:Low p M Z)(b:Low p Z M2):Low p M M2:=λx o h e=>b x o h (a x o h e)
theorem Low.set(h:p<=q):Low p M (M.set q o):=λa u Y e=>by rw[j9 (i_ (b_ Y h))];exact e
noncomputable def trD(n k:Nat)(w:D):D:=.tup [.int n,.int k,w]
def a2r(n k:Nat)(w:D):D.tup [.int n,.int k,w]=trD n k w:=rfl
def aep(Y:List F)(T:Nat->List D)(n k j:Nat)(e:Nat):List D:=T e++(((ud Y k).take j).filter λw=>decide (Br Y k w=e)).map (trD n k)
def auh(Y:List F)(T:Nat->List D)(n k e:Nat):aep Y T n k (ud Y k).length e=T e++(wT Y k e).map (trD n k):=by unfold aep wT;rw[yh]
def aui(Y:Z.length<=5)(B:(rs e).length<=7):(aep Z rs n k j e).length<=13:=by
 have J:=qy (λw=>decide (Br Z k w=e)) ((ud Z k).take j);have G:=Vg (k:=k) Y;have T:((ud Z k).take j).length<=(ud Z k).length:=by simp;lia
 simp only[aep,jw,du]
 lia
def aco{n:Nat}(P:Gq sz K Z jf)(q:k<K)(h:RS p K rs M)(A:∀e,e<K->(rs e).length<=7)(l:rest.length=10) :
 ∃b7 b8 U,Jy.den W ([a0,a1,a2,some (.vl (yx p K)),sI n,sI k,some (.vl ((ud Z k).map λw=>.tup [.int (Br Z k w),w])),b7',b8']++rest) M
  = .ok (.next,[a0,a1,a2,some (.vl (yx p K)),sI n,sI k,some (.vl ((ud Z k).map λw=>.tup [.int (Br Z k w),w])),b7,b8]++rest) U/\RS p K (λe=>rs e++(wT Z k e).map (trD n k)) U/\Low p M U/\U.length=M.length:=by
 symm
 have R:=P.len;let(F,U,e,(E,L,rfl),I,H,u):=Du (S:=Jy) (W:=W) (d:=.vl ((ud Z k).map λw=>.tup [.int (Br Z k w),w])) (ds:=(ud Z k).map λw=>.tup [.int (Br Z k w),w]) rfl
  (ρ:=[a0,a1,a2,some (.vl (yx p K)),sI n,sI k,some (.vl ((ud Z k).map λw=>.tup [.int (Br Z k w),w])),b7',b8']++rest) (M:=M) (M1:=M) (by simp) rfl
  (λj B U=>(∃b7 b8:Option D,B=[a0,a1,a2,some (.vl (yx p K)),sI n,sI k,some (.vl ((ud Z k).map λw=>.tup [.int (Br Z k w),w])),b7,b8]++rest)/\RS p K (aep Z rs n k j) U/\Low p M U/\U.length=M.length)
  ((b7',b8',rfl),λi Y=>by rw[h i Y];simp[aep],Low.refl _ _,rfl) (λ_ _ _ _=>rfl)
  (λj x B G y V=>by
   symm
   let((E,L,rfl),O,X,Q):=V;obtain⟨w,C,rfl⟩:∃w,(ud Z k)[j]?\w/\D.tup [.int (Br Z k w),w]=x:=by simpa using y
   have T:=bf C;have J:=X8 P q T;have g:=O _ J;have ap:=Ej (d:=trD n k w) g (by have:=aui (n:=n) (k:=k) (j:=j) R (A _ J);exact c_ this ⋯);apply _k;refine(_,.next,_,G.set (p+Br Z k w) (.lst (aep Z rs n k j (Br Z k w)++[trD n k w])),Qy _ _ _ _ _,?_,.inl rfl,(some (.int (Br Z k w)),some w,rfl),?_,X.trans (Low.set x_),by simp[Q])
   .show Jx.den W (a0::a1::a2::some (.vl (yx p K))::some (.int n)::some (.int k)::some (.vl ((ud Z k).map λw=>.tup [.int (Br Z k w),w]))::some (.int (Br Z k w))::some w::rest) G=_
    simp[Jx,aeo J,Ed g,a2r,ap]
   .intro i Y
    have N:(ud Z k).take (j+1)=(ud Z k).take j++[w]:=by rw[yp,C];rfl
    by_cases z:i=Br Z k w
    .subst z
     rw[qj g];simp[aep,N,List.filter_append]
    .rw[j9 (by lia),O i Y]
     simp[aep,N,List.filter_append,lg z])
 apply _k;refine(E,L,U,e,λi Y=>?_,H,u);rw[I i Y];simp only[du];rw[auh]
structure Gs(t:Nat)(f:Bool)(p:Nat)(M M':fc):Prop where
 has:W6 t f M'
 low:∀(a:Nat)(o:MO),a<p->a≠t->M[a]?\o->M'[a]?\o
 len:M.length<=M'.length
def Gs.trans(a:Gs t f p M Z)(b:Gs t f p Z M2):Gs t f p M M2:=(b.has,λx o h n e=>b.low x o h n (a.low x o h n e),gh a.len b.len)
def Gs.ahi(s:St t f M M1):Gs t f p M M1:=(s.has,λa o _ n e=>s.keep a o n e,s.len)
def Low.has(h:W6 t f M)(l:Low p M M1)(Y:t<p):W6 t f M1:=by let(n,e,o):=h;exact(n,l _ _ Y e,o)
def Gs.auj(h:W6 t f M)(l:Low p M M1)(Y:t<p)(T:M.length<=M1.length):Gs t f p M M1:=(l.has h Y,λa o x _ e=>l a o x e,T)
def Gs.refl(h:W6 t f M):Gs t f p M M:=(h,λ_ _ _ _ e=>e,bz _)
def Gs.st(g:Gs t f M.length M M1):St t f M M1:=(g.len,g.has,λa o n e=>g.low a o (vm e) n e)
def Gs.app(h:W6 t f M)(Y:p<=M.length)(X:fc):Gs t f p M (M++X):=(by let(n,e,o):=h;exact(n,yd e,o),λa o _ _ e=>yd e,by simp)
def a0l(T:ρ.length=y)(G:ρ[3]?\(some (.vl (yx p K))))(h:RS p K rs M)(J:K<=3) :
 (Ex.comp true 1 (.name y) (.val (.v 3)) (.blt .len (.o (.var y)))).den W ρ M=.ok (.vl (((List.range K).map λi=>(rs i).length).map nD)) M:=by
 subst T;rw[Bj (d:=.vl (yx p K)) (ds:=yx p K) (M1:=M) (g:=λd=>match p8 .len [d] M with|.ok x _=>x|_=>.non) (by simp[G]) rfl (by simp[yx];exact a_ J ⋯) (λd B=>by
  symm
  let(i,Y,rfl):=bh.mp B;apply _k;refine(_,rfl,?_);simp[len_list (ju (h i (jh.mp Y)))])]
 simp only[mq,yx,Aw]
 congr 2
 apply yz;intro i Y;simp[len_list (ju (h i (jh.mp Y))),nD]
inductive Adm(hs:List F)(K:Nat):List (Nat×Nat)->Prop
 |nil:Adm hs K []
 |snoc:Adm hs K ad->k<K->(∀e,e<K->(rowsOf hs ad e).length+(ud hs k).length<=7)->Adm hs K (ad++[(n,k)])
structure Rw(hs:List F)(K p:Nat)(ad:List (Nat×Nat))(M:fc):Prop where
 rs:RS p K (rowsOf hs ad) M
 kd:∀q∈ad,q.2<K
 le:∀e,e<K->(rowsOf hs ad e).length<=7
 nd:(ad.map (·.1)).Nodup
 ap:Adm hs K ad
def a0m(V:1<=m)(P:Gq sz K Z jf)(o:W6 t f M)(X:t<p)(h:Rw Z K p ad M)(E:∀q∈ad,q.1<n)(C:rest.length=10) :
 ∃c5 c6 c7 U qq M',Gb.den (PW m) ([sR t,sP K r Z,sI 3,some (.vl (yx p K)),sI n,b5,b6,b7,b8]++rest) M
  = .ok (.next,[sR t,sP K r Z,sI 3,some (.vl (yx p K)),sI n,c5,c6,c7,U]++rest) M'/\Rw Z K p qq M'/\(∀q∈qq,q.1<n+1)/\Gs t f p M M'/\M'.length=M.length:=by
 symm
 have l:=P.len;have H:=P.k3;let(k,M1,F,j,G,I):=Dw (many:=K) V o (by have:=P.k1;exact m_ this) (m_ (c_ H ⋯));have S:k<K:=o_ j
 have R:=h.rs.keep G X;have J:=a0k (M:=M1) (r:=r) (K:=K) (hs:=Z) (ρ:=[sR t,sP K r Z,sI 3,some (.vl (yx p K)),sI n,sI k,b6,b7,b8]++rest) (k:=k) V l rfl rfl (by simp[C]);have U:=a0l (W:=PW m) (M:=M1) (ρ:=[sR t,sP K r Z,sI 3,some (.vl (yx p K)),sI n,sI k,some (.vl ((ud Z k).map λw=>.tup [.int (Br Z k w),w])),b7,b8]++rest) (y:=19) (by simp[C]) rfl R H;let(v,B,g,v2):=aq2 (M:=M1) (xs:=(List.range K).map λi=>(rowsOf Z ad i).length) (by have:=P.k1;intro z;have:=t7 List.length z;simp at this;exact l_ (o_ j) (a_ (f_ this) (jd _)));generalize hL:(D.vl (((List.range K).map λi=>(rowsOf Z ad i).length).map nD))=L at B U;have Y:p8 .len [.vl ((ud Z k).map λw=>D.tup [.int (Br Z k w),w])] M1=.ok (.int (ud Z k).length) M1:=by simp[p8,Vw]
 apply _k
 by_cases q:v+(ud Z k).length<8
 .symm
  have N:(v:Int)+((ud Z k).length:Int)<8:=by lia
  let(d7,d8,M2,A,s,lo,Q):=aco (W:=PW m) (M:=M1) P (n:=n) S R h.le (a0:=some (.ref t)) (a1:=some (uq K r Z)) (a2:=some (.int 3)) (b7':=b7) (b8':=b8) (rest:=rest) C;apply _k;refine(some (.int k),some (.vl ((ud Z k).map λw=>D.tup [.int (Br Z k w),w])),d7,d8,ad++[(n,k)],M2,?_,(λi c=>?_,λq T=>?_,λe O=>?_,?_,.snoc h.ap S λe O=>?_),λq T=>?_,(Gs.ahi G).trans (Gs.auj G.has lo X (g_ Q)),Q.trans I)
  .simp only[zg,z6]at J U A⊢
   simp[Gb,Rf,F,J,Jw,U,B,Y,N,A]
  .rw[s i c,Ui];rfl
  .rcases dz.mp T with z|z
   .exact h.kd q z
   .have:q=(n,k):=by simpa using z
    rw[this];exact S
  .rw[Ui,jw,du]
   have u:=g (rowsOf Z ad e).length (bh.mpr (e,jh.mpr O,rfl));have a2:(wT Z k e).length<=(ud Z k).length:=qy _ _
   simp only
   lia
  .rw[jc]
   refine Ab.mpr (h.nd,by simp,λa x b d=>?_);symm
   let(q,T,rfl):=bh.mp x;have:b=n:=by simpa using d
   have:=E q T;apply _k
   lia
  .have u:=g (rowsOf Z ad e).length (bh.mpr (e,jh.mpr O,rfl))
   lia
  .rcases dz.mp T with z|z
   .have:=E q z;exact A_ (e_ this)
   .have:q=(n,k):=by simpa using z
    rw[this];exact jy n
 .have N:¬(v:Int)+((ud Z k).length:Int)<8:=by lia
  refine(some (.int k),some (.vl ((ud Z k).map λw=>D.tup [.int (Br Z k w),w])),b7,b8,ad,M1,?_,(R,h.kd,h.le,h.nd,h.ap),λq T=>by have:=E q T;exact A_ (e_ this),Gs.ahi G,I);simp only[zg,z6]at J U⊢;simp[Gb,Rf,F,J,Jw,U,B,Y,N]
theorem alp{M:fc}{x:D}:∀{T:List D},(∀y∈T,∃b,Ah M y x\b)->∃bs:List Bool,Rz M x T\bs/\bs.length=T.length/\∀(i:Nat)(y:D),T[i]?\y->(bs[i]?).map some\(Ah M y x)
 |[],_=>([],rfl,rfl,λi y h=>by simp at h)
 |y::l,h=>by
  let(b,G):=h y (by simp);let(bs,O,B,J):=alp (λz Y=>h z (bu _ Y));refine(b::bs,by simp[Rz,G,O],by simp[B],λi z Y=>?_);cases i with
  |zero=>simp at Y;subst Y;simp[G]|succ i=>simpa using J i z (by simpa using Y)
def a8d(h:∀y∈ds,∃b,Ah M y x\b)(L:x∈ds)(P:Ah M x x\true):∃j y,afe M x ds\j/\ds[j]?\y/\Ah M y x\true:=by
 let(bs,R,J,G):=alp h;let(i,N,Q):=qg L;have O:=G i x (by simp[N,Q]);rw[P]at O;let(b,C,E):=dj.mp O;cases E;rw[afe,R,uw];cases q:bs.findIdx? id with
 |some j =>
  let(T,S,_):=t8.mp q;have B:ds[j]?\(ds[j]'(b_ T (f_ J))):=bw (b_ T (f_ J));have Y:=G j _ B;rw[bw T]at Y;simp only[xd,Af]at Y;exact(j,_,rfl,B,by rw[<-Y];simpa using S)
 |none =>
  rw[xm]at q;have:=q true (bf C);simp at this
def a0n(O:M[p]?\(.lst ds))(h:∀y∈ds,∃b,Ah M y x\b)(T:x∈ds)(J:Ah M x x\true):∃(j:Nat)(y:D),Lb .index (.ref p) [x] M=.ok (.int j) M/\ds[j]?\y/\Ah M y x\true:=by let(j,y,B,G,Y):=a8d h T J;exact(j,y,by simp[Lb,onL,ju O,B],G,Y)
def a0o(Y:M[p]?\(.lst ds)):Pq .index (.ref p) M=true:=by simp[Pq,ju Y]
def aul(M:fc)(n k G T:Nat)(a Y:Int):Ah M (trD n k (.int a)) (trD G T (.int Y))\(decide (n=G)&&(decide (k=T)&&(decide (a=Y)&&true))):=by show Ul (K9 M 5) [.int n,.int k,.int a] [.int G,.int T,.int Y]=_;rw[Es (N5 M 4 n G) (Es (N5 M 4 k T) (Es (Xz 4 a Y) (show Ul (K9 M 5) [] []\true from rfl)))]
def Hd(h:d∈rowsOf Z ad e):∃(n k:Nat)(x:Int),(n,k)∈ad/\.int x∈wT Z k e/\d=trD n k (.int x):=by let(q,G,T):=Ar.mp h;let(w,Y,rfl):=bh.mp T;let(x,rfl):=a8b Y;exact(q.1,q.2,x,G,Y,rfl)
def an9(h:(n,k)∈ad)(Y:w∈wT Z k e):trD n k w∈rowsOf Z ad e:=
 Ar.mpr ((n,k),h,bh.mpr (w,Y,rfl))
structure Ae(hs:List F)(jf:List (List Kx×D))(ad:List (Nat×Nat))(j:Nat)(g:F)(js:Y3):Prop where
 len:js.length=(rowsOf hs ad g.a).length
 go:∀(i n k:Nat)(x:Int),(rowsOf hs ad g.a)[i]?\(trD n k (.int x))->(rowsOf hs ad g.b)[js.getD i 0]?\(trD n k (.int (bv hs jf j (.int x))))
def aum(h:i<l.length):(l++[x]).getD i 0=l.getD i 0:=by rw[bx,gq h,bx]
def Ae.lt(h:Ae Z jf ad j g U):∀x∈U,x<(rowsOf Z ad g.b).length:=λx G=>by
 let(i,T,rfl):=qg G;have Y:i<(rowsOf Z ad g.a).length:=by rw[<-h.len];exact T
 let(n,k,y,_,_,e):=Hd (m5 Y);have:=h.go i n k y (by rw[bw Y,e]);rw[bx,bw T]at this;exact(ao.mp this).1
def a8e(hm:1<=m)(P:Gq sz K Z U)(hr:M[r]?\(.dT U)){j:Nat}(h:Rw Z K p ad M)(Q:Z[j]?\g)(O:rest.length=6) :
 ∃js:List Nat,Ju.den (PW m) ([a0,sP K r Z,a2,some (.vl (yx p K)),a4,a5,a6,a7,a8,a9,sI j,sI g.a,sI g.b]++rest) M=.ok (.vl (js.map nD)) M /\
  Ae Z U ad j g js:=by
 have hg:=bf Q;have L:=P.Y5 g hg;have H:=P.aav g hg;have F:=h.rs _ L;have A:=h.rs _ H;unfold Ju;let(ys,G,e,N):=Ls (W:=PW m) (v:=true) (k:=3) (t:=.names [19,20,21]) (it:=.ix (.v 3) (.v 11)) (e:=.bm .index (.ix (.v 3) (.v 12)) (.o (.tup (.q (.v 19) (.v 20) (.call 20 (.q (.v 1) (.v 21) (.v 10)))))))
  (ρ:=[a0,sP K r Z,a2,some (.vl (yx p K)),a4,a5,a6,a7,a8,a9,sI j,sI g.a,sI g.b]++rest) (M:=M) (M1:=M) (d:=.ref (p+g.a)) (ds:=rowsOf Z ad g.a) (by simp[aeo L]) (ju F) (by have:=h.le _ L;exact a_ this ⋯)
  (λi S G=>G=M/\∃js:List Nat,S=js.map nD/\js.length=i/\∀(T n k:Nat)(x:Int),T<i->(rowsOf Z ad g.a)[T]?\(trD n k (.int x))->(rowsOf Z ad g.b)[js.getD T 0]?\(trD n k (.int (bv Z U j (.int x))))) (rfl,[],rfl,rfl,by simp) (λi S G h=>by rw[h.1];exact ju F)
  (λi y S G B N=>by
   let(rfl,js,rfl,J,E):=N;let(n,k,x,h1,h2,rfl):=Hd (bf B);let(I,z,hx,hv,R):=alo P Q h2;cases z;let(jj,yy,e1,e2,C):=a0n (x:=trD n k (.int (bv Z U j (.int x)))) A (λy B=>by let(X,V,qq,_,_,rfl):=Hd B;exact(_,aul _ _ _ _ _ _ _)) (an9 h1 R) (by rw[aul];simp);refine(_,.int jj,G,rfl,?_,rfl,js++[jj],by simp[nD],by simp[J],λT X V I Yc Y=>?_)
   .have hl:rest.length=6:=O
    match rest,hl with
    |[r0,r1,r2,r3,r4,r5],_ =>
     show(Ex.bm .index (.ix (.v 3) (.v 12)) (.o (.tup (.q (.v 19) (.v 20) (.call 20 (.q (.v 1) (.v 21) (.v 10))))))).den _ [a0,sP K r Z,a2,D.vl (yx p K),a4,a5,a6,a7,a8,a9,sI j,sI g.a,sI g.b,r0,r1,r2,r3,r4,r5,sI n,sI k,sI x] G=_;simp[aeo H,a0o A,aji hm hr hx (show(-1:Int)<=j by lia) hv,a2r,e1]
   .by_cases z:T<i
    .rw[aum (b_ z (g_ J))];exact E T X V I z Y
    .have z:T=i:=u_ (z_ Yc) (s_ z)
     subst z;rw[B]at Y;simp only[trD,Af,D.tup.injEq,Cv,D.int.injEq,z8,and_true]at Y;let(rfl,rfl,rfl):=Y;have ej:(js++[jj]).getD T 0=jj:=by rw[<-J];simp[bx]
     rw[ej,e2];let(n3,k3,x3,_,_,rfl):=Hd (bf e2);rw[aul]at C;simp only[Af,az,gf,and_true]at C;let(rfl,rfl,rfl):=C;rfl)
 let(rfl,js,rfl,J,E):=N;exact(js,by rw[e];rfl,J,λi n k x h=>E i n k x (ao.mp h).1 h)
noncomputable def up(Y:Nat->List Nat)(i:Nat)(T:Y3):Nat->List Nat:=λe=>if e=i then T else Y e
noncomputable def Kd(Y T:Nat)(l:Y3):List Nat:=l.map λo=>if o=T then Y else o
theorem alq{Y T:Nat}(h:Y<T):∀l:List Nat,(Kd Y T l).sum<=l.sum
 |[]=>bz _
 |a::l=>by
  have:=alq h l;simp only[Kd,f9,uz]at this⊢;split<;>omega
theorem alr{G Y:Nat}(h:G<Y):∀{l:Y3},Y∈l->(Kd G Y l).sum<l.sum
 |a::l,hm=>by
  have T:=alq h l;simp only[Kd,f9,uz]at T⊢
  by_cases z:a=Y
  .rw[dm z];exact b_ (G_ h) (a_ (v_ (g_ z)) (w_ T))
  .have:=alr h (show Y∈l from by simpa[lg z]using hm)
   simp only[Kd]at this;rw[cz z];exact H_ this
noncomputable def Z8(K:Nat)(Y:Nat->List Nat):Nat:=((List.range K).map λi=>(Y i).sum).sum
theorem aun{Y:Nat->List Nat}{b:Nat}{ns:Y3}(h:ns.sum<(Y b).sum):∀K,Z8 K (up Y b ns)<=Z8 K Y/\(b<K->Z8 K (up Y b ns)<Z8 K Y)
 |0=>(bz _,λz=>absurd z (su _))
 |K+1=>by
  let(T,G):=aun h K;simp only[Z8,qi,jc,List.sum_append,f9,Bu,uz,List.sum_nil]at T G⊢
  by_cases z:K=b
  .subst z
   have e:up Y K ns K=ns:=by simp[up]
   rw[e];constructor
   .exact e_ (c_ (v_ T) (H_ (G_ h)))
   .intro _;exact c_ (v_ T) (H_ (G_ h))
  .have e:up Y b ns K=Y K:=by simp[up,z]
   rw[e];constructor
   .exact v_ T
   .intro q;have:=G (by lia);exact G_ this
structure Mk(t pm K:Nat)(L:Nat->Nat)(ms:Nat->List Nat)(M:fc):Prop where
 ex:∃mds:List D,M[pm]?\(.lst mds)/\mds.length=K/\∀i,i<K->∃d,mds[i]?\d/\gr M d\((ms i).map nD)/\∀a,d=.ref a->t<a/\a<pm
 len:∀i,i<K->(ms i).length=L i
 lt:∀i,i<K->∀x∈ms i,x<L i
 fx:∀i,i<K->∀x∈ms i,(ms i).getD x 0=x
def Z9(h:gr M d\ds)(k:∀a o,d=.ref a->M[a]?\o->Z[a]?\o):gr Z d\ds:=by
 cases d with
 |ref a =>
  simp only[gr]at h⊢;cases e:M[a]? with
  |none=>rw[e]at h;cases h|some o=>rw[e]at h;rw[k a o rfl e];exact h
 |vl Y=>exact h|_=>cases h
def Mk.frame(h:Mk t pm K L Z M)(k:∀(a:Nat) (o:MO),t<a->a<=pm->M[a]?\o->M'[a]?\o)(N:t<pm):Mk t pm K L Z M':=by let(T,O,B,G):=h.ex;refine((T,k _ _ N (bz _) O,B,λi J=>?_),h.len,h.lt,h.fx);let(d,E,C,Y):=G i J;exact(d,E,Z9 C λa o e q=>k a o (Y a e).1 (xq (Y a e).2) q,Y)
def Mk.row(h:Mk t pm K L Z M)(T:i<K):∃d,Bx (.ref pm) (.int i) M\d/\gr M d\((Z i).map nD):=by let(O,G,C,Y):=h.ex;let(d,B,J,_):=Y i T;exact(d,Ei (ju G) q_ (by simpa using B),J)
def Uj{l:Y3}(h:gr M d\(l.map nD))(Y:x<l.length):Bx d (.int x) M\(.int (l.getD x 0)):=
 Ei h q_ (by simp[Y,nD])
def getD_mem'{l:Y3}(Y:x<l.length):l.getD x 0∈l:=by rw[bx,bw Y];exact m5 Y
set_option tactic.hygienic true in
theorem Mk.set(h:Mk t pm K L Z M)(R:i<K)(H:ns.length=L i)(Q:∀x∈ns,x<L i)(W:∀x∈ns,ns.getD x 0=x)(F:t<pm) :
 ∃o,setOp (.ref pm) (.int i) (.vl (ns.map nD)) M\(M.set pm o)/\Mk t pm K L (up Z i ns) (M.set pm o):=by
 let(O,E,N,V):=h.ex;refine(.lst (O.set i (.vl (ns.map nD))),?_,(O.set i (.vl (ns.map nD)),qj E,by simp[N],λe B=>?_),λe B=>?_,λe B x T=>?_,λe B x T=>?_)
 .have:=ac0 (d:=.vl (ns.map nD)) (i:=i) E q_ (m_ (b_ R (g_ N)))
  simpa using this
 .by_cases z:e=i
  .subst z
   exact(.vl (ns.map nD),by simp[N,B],by simp[up],λa q=>by cases q)
  .let(d,P,k2,k3):=V e B
   refine(d,by rw[v8 (lg z)];exact P,?_,k3);have:up Z i ns e=Z e:=by simp[up,z]
   rw[this];exact Z9 k2 λa o q w=>by rw[j9 (by have:=(k3 a q).2;exact i_ this)];exact w
 .unfold up;split
  .rename_i z;rw[z];exact H
  .exact h.len e B
 .unfold up at T;split at T
  .rename_i z;rw[z];exact Q x T
  .exact h.lt e B x T
 .unfold up at T⊢;split at T
  .rename_i z;rw[dm z];exact W x T
  .rename_i z;rw[cz z];exact h.fx e B x T
def getD_map{α:Type}{l:Y3}{f:Nat->Nat}{x:Nat}(h:x<l.length):(l.map f).getD x 0=f (l.getD x 0):=by simp[bx,ir,bw h]
set_option tactic.hygienic true in
def als(L:∀x∈l,l.getD x 0=x)(lt:∀x∈l,x<l.length)(T:lo∈l):∀x∈Kd lo Z l,(Kd lo Z l).getD x 0=x:=λx O=>by
 let(o,N,e):=bh.mp O;have B:x∈l:=by
  split at e
  .rw[<-e];exact T
  .rw[<-e];exact N
 unfold Kd;rw[getD_map (α:=Nat) (lt x B),L x B]
 by_cases z:x=Z
 .rw[dm z]
  split at e
  .exact e
  .rename_i w;exact absurd (e.trans z) w
 .rw[cz z]
def Cg(T:Nat->List Nat)(g:F)(Y:Y3):Prop:=∀x y,x<Y.length->y<Y.length->(T g.a).getD x 0=(T g.a).getD y 0->(T g.b).getD (Y.getD x 0) 0=(T g.b).getD (Y.getD y 0) 0
structure Ac(q:Nat)(hs:List F)(L:Nat->Nat)(as:List (List Nat))(M:fc):Prop where
 at_:M[q]?\(.lst (as.map λjs=>.vl (js.map nD)))
 len:as.length=hs.length
 ok:∀(j:Nat)(g:F)(js:Y3),hs[j]?\g->as[j]?\js->js.length=L g.a/\∀x∈js,x<L g.b
def Ac.get(h:Ac q U L as M){j:Nat}(T:U[j]?\g):∃Z,as[j]?\Z/\Bx (.ref q) (.int j) M\(.vl (Z.map nD))/\Z.length=L g.a/\∀x∈Z,x<L g.b:=by
 have G:=(ao.mp T).1;have Y:j<as.length:=by rw[h.len];exact G
 have e:as[j]?=some as[j]:=bw Y;exact(_,e,Ei (ju h.at_) q_ (by simp[e]),h.ok j g _ T e)
def a8f(h:M[n]?\(.dK Z)):Lb .get (.ref n) [.int k,d] M=.ok ((Ag Z (.inl k)).getD d) M:=by simp[Lb,ap7,onL,h]
def bej(h:M[n]?\(.dK Z)):Pq .get (.ref n) M=true:=by simp[Pq,gr,h]
def a8g(h:M[n]?\(.dK Z))(Y:Z.length<100000):setOp (.ref n) (.int k) d M\(M.set n (.dK (Eh Z (.inl k) d))):=by simp[setOp,h,Y]
def aup[DecidableEq Z]{Y:List (Z×D)}(h:Ag Y k\v):∃p∈Y,p.2=v:=by unfold Ag at h;let(p,T,G):=dj.mp h;exact(p,List.mem_of_find?_eq_some T,G)
def a0p[DecidableEq Z]{T:List (Z×D)}(h:p∈Eh T k v):p∈T\/p.2=v:=by
 unfold Eh at h;split at h
 .let(q,G,Y):=bh.mp h
  split at Y
  .rw[<-Y];exact .inr rfl
  .rw[<-Y];exact .inl G
 .rcases dz.mp h with z|z
  .exact .inl z
  .have:p=(k,v):=by simpa using z
   rw[this];exact .inr rfl
def Nh[DecidableEq Z](p:Z×D)(r:List (Z×D))(k:Z):Ag (p::r) k=if p.1=k then some p.2 else Ag r k:=by
 unfold Ag
 by_cases h:p.1=k
 .simp[uf,h]
 .simp[uf,h]
theorem aaa{G:Type}[DecidableEq G]{k k':G}{v:D}:∀{Y:List (G×D)},(∃p∈Y,p.1=k)->Ag (Y.map λp=>if p.1=k then(p.1,v)else p) k'=if k'=k then some v else Ag Y k'
 |p::r,h=>by
  rw[f9,Nh,Nh]
  by_cases a:p.1=k
  .rw[dm a]
   by_cases b:k'=k
   .simp[a,b]
   .have c:¬p.1=k':=λz=>b (z.symm.trans a)
    rw[cz c,cz b,cz c]
    by_cases d:∃p∈r,p.1=k
    .rw[aaa d,cz b]
    .congr 1
     conv=>rhs;rw[<-List.map_id r]
     apply yz;intro q B;rw[cz λz=>d (q,B,z)];rfl
  .rw[cz a]
   have d:∃p∈r,p.1=k:=by
    let(q,T,J):=h;rcases dh.mp T with rfl|T
    .exact absurd J a
    .exact(q,T,J)
   rw[aaa d]
   by_cases b:k'=k
   .have c:¬p.1=k':=λz=>a (z.trans b)
    rw[cz c];simp[b]
   .simp[b]
theorem ahj{T:Type}[DecidableEq T]{k k':T}{v:D}:∀{Y:List (T×D)},(∀p∈Y,p.1≠k)->Ag (Y++[(k,v)]) k'=if k'=k then some v else Ag Y k'
 |[],_=>by
  rw[z6,Nh]
  by_cases b:k'=k
  .simp[b]
  .simp[b,lg b]
 |p::r,h=>by
  rw[zg,Nh,Nh,ahj (λq G=>h q (bu _ G))];have a:=h p (by simp)
  by_cases b:k'=k
  .have c:¬p.1=k':=λz=>a (z.trans b)
   rw[cz c];simp[b]
  .simp[b]
def ahk[DecidableEq Z](Y:List (Z×D))(k k':Z)(v:D):Ag (Eh Y k v) k'=if k'=k then some v else Ag Y k':=by
 unfold Eh
 by_cases h:(Y.any λp=>decide (p.1=k))=true
 .rw[dm h]
  exact aaa (by simpa using h)
 .rw[cz h]
  exact ahj (λp T z=>h (Ao.mpr (p,T,by simpa using z)))
def alu[DecidableEq Z](Y:List (Z×D))(k:Z)(v:D):(Eh Y k v).length<=Y.length+1:=by unfold Eh;split<;>simp
def aeq(M:fc)(a b:Nat):Ah M (.int a) (.int b)\(decide (a=b)):=Dd M a b
def Fm(Y n:Nat)(M T:fc):Prop:=∀(a:Nat)(o:MO),a≠Y->a<n->M[a]?\o->T[a]?\o
def alv(M:fc)(a b:Nat):p8 .min [.int a,.int b] M=.ok (.int (min a b:Nat)) M:=by
 show Res.ok (D.int (if(b:Int)<(a:Int)then(b:Int)else(a:Int))) M=_
 by_cases h:b<a
 .rw[dm (m_ h),Nat.min_eq_right (e_ h)]
 .rw[cz (by lia),Nat.min_eq_left (s_ h)]
def aer(M:fc)(a b:Nat):p8 .max [.int a,.int b] M=.ok (.int (max a b:Nat)) M:=by
 show Res.ok (D.int (if(a:Int)<(b:Int)then(b:Int)else(a:Int))) M=_
 by_cases h:a<b
 .rw[dm (m_ h),Nat.max_eq_right (e_ h)]
 .rw[cz (by lia),Nat.max_eq_left (s_ h)]
def ahl{lo hi:Nat}(S:(Ex.ix (.var v) (.var x)).den W ρ M=.ok d M)(P:gr M d\(l.map nD))(E:l.length<=100000)(L:y=ρ.length)(T:ρ[a]?\(sI lo))(Y:ρ[b]?\(sI hi)) :
 (Ex.comp true 1 (.name y) (.val (.ix (.var v) (.var x))) (.ite (.cmp .eq (.var y) (.var b)) (.var a) (.var y))).den W ρ M=.ok (.vl ((Kd lo hi l).map nD)) M:=by
 subst L;have O:=(ao.mp T).1;have R:=(ao.mp Y).1;rw[Bj (d:=d) (ds:=l.map nD) (M1:=M) (g:=λd=>match d with|.int o=>nD (if o.toNat=hi then lo else o.toNat)|_=>.non) S P (by simpa using E) (λz C=>by
  let(o,Q,rfl):=bh.mp C;refine(_,rfl,?_);have N:(ρ++List.replicate 1 none).set ρ.length (some (nD o))=ρ++[sI o]:=by rw[List.set_append];simp[nD]
  have B:(ρ++[some (D.int o)])[a]?\(sI lo):=by rw[gq O];exact T
  have G:(ρ++[some (D.int o)])[b]?\(sI hi):=by rw[gq R];exact Y
  have J:(ρ++[some (D.int o)])[ρ.length]?\(sI o):=by simp
  rw[N]
  by_cases z:o=hi
  .subst z;simp[-eq_int,B,G,J,aeq,nD]
  .simp[-eq_int,B,G,J,aeq,z,nD])]
 simp[Kd,nD]
def a0q{lo hi:Nat}(B:(Ex.ix (.v 1) (.var x)).den W ρ M=.ok d M)(G:gr M d\(l.map nD))(T:l.length<=100000)(Y:y=ρ.length)(C:12<y)(O:ρ[11]?\(sI lo))(J:ρ[12]?\(sI hi)) :
 (Ex.comp true 1 (.name y) (.val (.ix (.v 1) (.var x))) (.ite (.cmp .eq (.var y) (.v 12)) (.v 11) (.var y))).den W ρ M=.ok (.vl ((Kd lo hi l).map nD)) M:=ahl B G T Y O J
structure Fd(dd:Nat)(a b js:Y3)(n:Nat)(M:fc):Prop where
 ex:∃kv:List (Kx×D),M[dd]?\(.dK kv)/\kv.length<=n/\(∀p∈kv,∃e:Nat,p.2=.int e/\e∈b)/\∀i,i<n->Ag kv (.inl ((a.getD i 0:Nat):Int))\(.int ((b.getD (js.getD i 0) 0:Nat):Int))
def auq{j:Nat}(mk:Mk t pm K L U M)(ac:Ac q hs L as M)(hj:hs[j]?\g)(A:g.a<K)(T:g.b<K)(hd:M[dd]?\(.dK []))(q5:pm<dd)(q3:q<dd)(q8:q≠pm)(ht:t<pm)(hL:∀e,e<K->L e<=7) :
 ∃qk Z,Ht.den W [sP K r hs,sR pm,sR q,b3,sI j,sI g.a,sI g.b,sR dd,b8,b9,b10,Iu,Vh] M=.ok (.next,qk) Z /\
  ∃c3 c7 c8 c9 qq q0 qv,qk=[sP K r hs,sR pm,sR q,c3,sI j,sI g.a,sI g.b,c7,c8,c9,qq,q0,qv]/\Fm pm dd M Z/\M.length<=Z.length /\
   ((c3=b3/\Mk t pm K L U Z/\∀js,as[j]?\js->Cg U g js)\/(c3\(.bl true)/\∃Pj,Mk t pm K L Pj Z/\Z8 K Pj<Z8 K U)):=by
 let(js,ej,_,lj,rj):=ac.get hj;let(da,fa,la):=mk.row A;have R:=mk.len _ A;have q1:=hL _ A;refine afp (S:=Ht) (W:=W) (n:=L g.a) (M1:=M) rfl ?_ (a_ q1 ⋯)
  (λi ρ Z=>(∃b8 b9 b10,ρ=[sP K r hs,sR pm,sR q,b3,sI j,sI g.a,sI g.b,sR dd,b8,b9,b10,Iu,Vh])/\Mk t pm K L U Z/\Fd dd (U g.a) (U g.b) js i Z/\Low dd M Z/\Z.length=M.length)
  (λqk Z=>∃c3 c7 c8 c9 qq q0 qv,qk=[sP K r hs,sR pm,sR q,c3,sI j,sI g.a,sI g.b,c7,c8,c9,qq,q0,qv]/\Fm pm dd M Z/\M.length<=Z.length /\
   ((c3=b3/\Mk t pm K L U Z/\∀js,as[j]?\js->Cg U g js)\/(c3\(.bl true)/\∃Pj,Mk t pm K L Pj Z/\Z8 K Pj<Z8 K U)))
  ((b8,b9,b10,rfl),mk,([],hd,bz _,by simp,by simp),Low.refl _ _,rfl) (fun ρ Z h=>?_) (λi ρ M1 hi hI=>?_)
 .have e:=len_list la
  simp only[du,R]at e;simp[fa,e]
 .symm
  let((c8,c9,qq,rfl),Y,(kv,_,_,_,k4),V,h4):=h;apply _k;refine(b3,_,c8,c9,qq,Iu,Vh,rfl,λa o _ x e=>V a o x e,g_ h4,.inl (rfl,Y,λq2 e' x y hx O q7=>?_));rw[ej]at e';cases e';have E:=k4 x (b_ hx (f_ lj));have g2:=k4 y (b_ O (f_ lj));rw[q7,g2]at E;simp only[Af,D.int.injEq]at E;exact(z8.mp E).symm
 .symm
  let((c8,c9,qq,rfl),Y,(kv,X,k2,k3,k4),V,h4):=hI;let(da,fa,la):=Y.row A;let(db,fb,lb):=Y.row T;have q6:Ac q hs L as M1:=(V _ _ q3 ac.at_,ac.len,ac.ok);let(q2,H,fj,_,_):=q6.get hj;rw[ej]at H;cases H;have J:=Uj la (show i<(U g.a).length by rw[R];exact hi);have B:Bx (.vl (js.map nD)) (.int i) M1\(.int (js.getD i 0)):=Uj rfl (b_ hi (g_ lj));apply _k;have O:js.getD i 0<(U g.b).length:=by rw[Y.len _ T];exact rj _ (getD_mem' (b_ hi (g_ lj)))
  generalize hy0:js.getD i 0=y at B O;have C:=Uj lb O;have hz:=getD_mem' O;generalize hx0:(U g.a).getD i 0=x at J;generalize hz0:(U g.b).getD y 0=z at C hz;have gt:=a8f (k:=(x:Int)) (d:=.int z) X;have ty:=bej X;have G:((Ag kv (.inl (x:Int))).getD (.int z)=.int z)->∃F fl qk Z,(Tg.name 8).put (.int i) [sP K r hs,sR pm,sR q,b3,sI j,sI g.a,sI g.b,sR dd,c8,c9,qq,Iu,Vh]\F/\Fi.den W F M1=.ok (fl,qk) Z /\
   (((fl=.next\/fl=.cont)/\(∃b8 b9 b10,qk=[sP K r hs,sR pm,sR q,b3,sI j,sI g.a,sI g.b,sR dd,b8,b9,b10,Iu,Vh])/\Mk t pm K L U Z/\Fd dd (U g.a) (U g.b) js (i+1) Z/\Low dd M Z/\Z.length=M.length) \/
     (fl=.brk/\∃c3 c7 c8 c9 qq q0 qv,qk=[sP K r hs,sR pm,sR q,c3,sI j,sI g.a,sI g.b,c7,c8,c9,qq,q0,qv]/\Fm pm dd M Z/\M.length<=Z.length /\
      ((c3=b3/\Mk t pm K L U Z/\∀js,as[j]?\js->Cg U g js)\/(c3\(.bl true)/\∃Pj,Mk t pm K L Pj Z/\Z8 K Pj<Z8 K U)))):=λhg=>by
   rw[hg]at gt;have st:=a8g (k:=(x:Int)) (d:=.int z) X (by have:=hL _ A;exact c_ k2 (b_ hi (a_ q1 ⋯)));refine(_,.next,_,M1.set dd (.dK (Eh kv (.inl (x:Int)) (.int z))),rfl,?_,.inl (.inl rfl,(some (.int i),sI x,sI z,rfl),Y.frame (λa o _ ha e=>by rw[j9 (i_ (c_ ha q5))];exact e) ht,(_,qj X,?_,?_,λN Yc=>?_),V.trans (Low.set (bz _)),by simp[h4]))
   .simp[-eq_int,Fi,fa,J,fb,fj,B,C,ty,gt,aeq,st]
   .have:=alu kv (.inl (x:Int)) (.int z);exact a_ this (v_ k2)
   .intro p hp
    rcases a0p hp with w|w
    .exact k3 p w
    .exact(z,w,hz)
   .rw[ahk]
    by_cases w:(U g.a).getD N 0=x
    .rw[w,dm rfl]
     by_cases w2:N=i
     .subst w2;rw[hy0,hz0]
     .have E:=k4 N (by lia)
      rw[w]at E;rw[E]at hg;simp only[zp]at hg;rw[hg]
    .have w2:N≠i:=λq=>w (by rw[q,hx0])
     have:¬((Sum.inl (((U g.a).getD N 0:Nat):Int):Kx)=.inl (x:Int)):=λq=>w (by injection q with q;exact z8.mp q)
     rw[cz this];exact k4 N (by lia)
  cases hlk:Ag kv (.inl (x:Int))with
  |none=>exact G (by rw[hlk];rfl)
  |some v =>
   let(p,hp,rfl):=aup hlk;let(e,he,P):=k3 p hp;rw[he]at hlk
   by_cases Q:e=z
   .exact G (by rw[hlk,Q];rfl)
   .rw[hlk]at gt
    have ix:=bax (b:=.int x) X rfl;rw[show(Sum.inl (x:Int):Kx)=.inl (x:Int)from rfl,hlk]at ix;have lh:min e z<max e z:=by lia
    have hm:max e z∈U g.b:=by
     rcases Nat.le_total e z with w|w
     .rw[Nat.max_eq_right w];exact hz
     .rw[Nat.max_eq_left w];exact P
    have I:min e z∈U g.b:=by
     rcases Nat.le_total e z with w|w
     .rw[Nat.min_eq_left w];exact P
     .rw[Nat.min_eq_right w];exact hz
    have rp:=a0q (W:=W) (M:=M1) (ρ:=[sP K r hs,sR pm,sR q,b3,sI j,sI g.a,sI g.b,sR dd,sI i,sI x,sI z,sI (min e z:Nat),sI (max e z:Nat)]) (x:=6) (y:=13) (lo:=min e z) (hi:=max e z) (by simp[fb]) lb (by rw[Y.len _ T];have:=hL _ T;exact a_ this ⋯) rfl ⋯ rfl rfl;let(o,so,q4):=Y.set T (ns:=Kd (min e z) (max e z) (U g.b)) (by simp[Kd,Y.len _ T]) (λy O=>by
     let(w,hw,rfl):=bh.mp O;split
     .exact Y.lt _ T _ I
     .exact Y.lt _ T _ hw) (als (Y.fx _ T) (λx hx=>by rw[Y.len _ T];exact Y.lt _ T x hx) I) ht
    have ne:¬((e:Nat)=z):=Q;refine(_,.brk,_,M1.set pm o++[.dK []],rfl,?_,.inr (rfl,some (.bl true),sR (M1.set pm o).length,sI i,sI x,sI z,sI (min e z:Nat),sI (max e z:Nat),rfl,λa u na ha q=>?_,by simp;exact a_ (g_ h4) x_,.inr (rfl,_,q4.frame (λa u _ _ q=>yd q) ht,(aun (alr lh hm) K).2 T)))
    .simp only[zp]at gt
     simp[-eq_int,Fi,fa,J,fb,fj,B,C,ty,gt,aeq,ne,ix,alv,aer,O1,rp,so,MW.new]
    .refine yd ?_
     rw[j9 (lg na)];exact V a u ha q
def Fm.trans(a:Fm pm n M Z)(b:Fm pm n Z M2):Fm pm n M M2:=λx o h l e=>b x o h l (a x o h l e)
def Fm.le(a:Fm pm n M M1)(h:Z<=n):Fm pm Z M M1:=λx o q l e=>a x o q (b_ l h) e
theorem We:∀{l:Y3}{c:Nat},(∀x∈l,x<=c)->l.sum<=l.length*c
 |[],_,_=>by simp
 |a::l,c,h=>by
  have T:=h a (by simp);have G:=We (λx Y=>h x (bu _ Y));simp only[uz,ie,Nat.succ_mul]
  lia
def a8i(G:Mk t pm K L Z M)(J:∀e,e<K->L e<=7)(O:K<=3):Z8 K Z<=200:=by
 have:∀x∈(List.range K).map λi=>(Z i).sum,x<=49:=λx T=>by
  let(i,Y,rfl):=bh.mp T;have Y:=jh.mp Y;have N:=We (l:=Z i) (c:=7) (λx T=>by have:=G.lt i Y x T;have:=J i Y;lia);have C:=G.len i Y;have B:=J i Y;have E:(Z i).length*7<=7*7:=Nat.mul_le_mul_right 7 (a_ (f_ C) B)
  lia
 have h:=We this;simp only[du,Bo]at h;have P:K*49<=3*49:=Nat.mul_le_mul_right 49 O
 unfold Z8
 lia
def Cgs(G:List F)(as:List (List Nat))(n:Nat)(T:Nat->List Nat):Prop:=∀(j:Nat)(g:F)(Y:Y3),j<n->G[j]?\g->as[j]?\Y->Cg T g Y
def aus(P:Gq sz K Z jf)(mk:Mk t pm K L ms M)(F:Ac q Z L as M)(Q:pm<M.length)(J:q<M.length)(G:q≠pm)(ht:t<pm)(hL:∀e,e<K->L e<=7) :
 ∃qv M',Hv.den W [sP K r Z,sR pm,sR q,b3,b4,b5,b6,b7,b8,b9,b10,Iu,Vh] M=.ok (.next,qv) M' /\
  ∃c3 c4 c5 c6 c7 c8 c9 qk qq U Pj,qv=[sP K r Z,sR pm,sR q,c3,c4,c5,c6,c7,c8,c9,qk,qq,U]/\Fm pm M.length M M'/\M.length<=M'.length/\Mk t pm K L Pj M'/\((c3=b3/\Pj=ms/\Cgs Z as Z.length ms)\/(c3\(.bl true)/\Z8 K Pj<Z8 K ms)):=by
 have hl:=P.len;refine vz (S:=Hv) (W:=W) (n:=Z.length) (M1:=M) rfl (by simp[Kf,Ig]) (a_ hl ⋯)
  (λn qv M'=>∃c3 c4 c5 c6 c7 c8 c9 qk qq U Pj,qv=[sP K r Z,sR pm,sR q,c3,c4,c5,c6,c7,c8,c9,qk,qq,U]/\Fm pm M.length M M'/\M.length<=M'.length/\Mk t pm K L Pj M'/\((c3=b3/\Pj=ms/\Cgs Z as n ms)\/(c3\(.bl true)/\Z8 K Pj<Z8 K ms)))
  (b3,b4,b5,b6,b7,b8,b9,b10,Iu,Vh,ms,rfl,λ_ _ _ _ e=>e,bz _,mk,.inl (rfl,rfl,λj g js h=>absurd h (su _))) (λj V T hj hI=>?_)
 let(c3,c4,c5,c6,c7,c8,c9,qk,qq,U,C,rfl,f1,D,k1,o1):=hI;have Y:Z[j]?=some Z[j]:=by simp[hj]
 have hg:=bf Y;have k2:Mk t pm K L C (T++[.dK []]):=k1.frame (λa o _ _ e=>yd e) ht;have A:Ac q Z L as (T++[.dK []]):=(yd (f1 _ _ G J F.at_),F.len,F.ok);let(q0,M2,e2,d3,d7,d8,d9,N,O,I,rfl,f2,l2,o2):=auq (W:=W) (r:=r) (dd:=T.length) (b3:=c3) (b8:=c8) (b9:=c9) (b10:=qk) (Iu:=qq) (Vh:=U) k2 A Y (P.Y5 _ hg) (P.aav _ hg) (by simp) (b_ Q D) (b_ J D) G ht hL;have R:Fm pm M.length M M2:=λa o na ha e=>f2 a o na (b_ ha D) (yd (f1 a o na ha e))
 have H:M.length<=M2.length:=by simp at l2;lia
 have pe:∀V,(Tg.names [5,6]).put (eD Z[j]) V\((V.set 5 (some (.int Z[j].a))).set 6 (some (.int Z[j].b))):=λ_=>rfl
 have run:Hu.den W [sP K r Z,sR pm,sR q,c3,sI j,c5,c6,c7,c8,c9,qk,qq,U] T=.ok (.next,[sP K r Z,sR pm,sR q,d3,sI j,some (.int Z[j].a),some (.int Z[j].b),d7,d8,d9,N,O,I]) M2:=by simp[Hu,Kf,Tu Y,pe,MW.new,e2]
 refine(_,.next,_,M2,rfl,run,.inl rfl,?_);rcases o2 with⟨rfl,k3,cg⟩|⟨rfl,m2,k3,t3⟩
 .rcases o1 with⟨rfl,rfl,cs⟩|⟨rfl,t1⟩
  .refine(_,_,_,_,_,_,_,_,_,_,C,rfl,R,H,k3,.inl (rfl,rfl,λX g' E h1 B h3=>?_))
   by_cases z:X=j
   .subst z
    rw[Y]at B;cases B;exact cg _ h3
   .exact cs X g' E (by lia) B h3
  .exact(_,_,_,_,_,_,_,_,_,_,C,rfl,R,H,k3,.inr (rfl,t1))
 .refine(_,_,_,_,_,_,_,_,_,_,m2,rfl,R,H,k3,.inr (rfl,?_))
  rcases o1 with⟨_,rfl,_⟩|⟨_,t1⟩<;>omega
def aoa(hm:1<=m)(P:Gq sz K U jf)(mk:Mk t pm K L ms M)(I:Ac q U L as M)(V:pm<M.length)(N:q<M.length)(C:q≠pm)(ht:t<pm)(hL:∀e,e<K->L e<=7) :
 ∃Pj Z,prog.call m 26 [uq K r U,.ref pm,.ref q] M=.ok (.ref pm) Z/\Mk t pm K L Pj Z/\Cgs U as U.length Pj/\Fm pm M.length M Z/\M.length<=Z.length:=by
 rw[call_of hm rfl];obtain⟨Y,Z,e,Pj,E,Q,f1,T,c,qq⟩:∃Y Z,Hx.den (prog.call (m-1),prog.cls) [sP K r U,sR pm,sR q,D.bl true,none,none,none,none,none,none,none,none,none] M=.ok (.next,Y) Z /\
  ∃Pj,Mk t pm K L Pj Z/\Cgs U as U.length Pj/\Fm pm M.length M Z/\M.length<=Z.length/\∃c:Env,Y=[sP K r U,sR pm]++c:=by
  unfold Hx;rw[acy];refine Rm (λm ρ Z=>∃(Pj:Nat->List Nat)(b:Bool)(c:Env),ρ=[sP K r U,sR pm,sR q,some (.bl b)]++c/\c.length=9/\Mk t pm K L Pj Z/\(b=false->Cgs U as U.length Pj)/\Fm pm M.length M Z/\M.length<=Z.length/\m=(if b then Z8 K Pj+1 else 0))
   (λY Z=>∃Pj,Mk t pm K L Pj Z/\Cgs U as U.length Pj/\Fm pm M.length M Z/\M.length<=Z.length/\∃c:Env,Y=[sP K r U,sR pm]++c) (λn ρ O hI=>?_) aie (Z8 K ms+1) _ M (by have:=a8i mk hL P.k3;show Z8 K ms+1<1000000;lia)
   (ms,true,[none,none,none,none,none,none,none,none,none],rfl,rfl,mk,by simp,λ_ _ _ _ e=>e,bz _,rfl)
  let(m1,b,c,rfl,hc,E,Q,f1,T,rfl):=hI
  match c,hc with
  |[c4,c5,c6,c7,c8,c9,c10,c11,c12],_ =>
  cases b with
  |false=>exact .inl (O,rfl,m1,E,Q rfl,f1,T,_,rfl)
  |true =>
   right
   let(qk,M2,e2,d3,X,R,H,d7,A,F,J,G,B,S,rfl,f2,l2,k2,o2):=aus (W:=(prog.call (m-1),prog.cls)) (r:=r) (as:=as) P E ((f1 _ _ C N I.at_,I.len,I.ok):Ac q U L as O) (b_ V T) (b_ N T) C ht hL (b3:=some (.bl false)) (b4:=c4) (b5:=c5) (b6:=c6) (b7:=c7) (b8:=c8) (b9:=c9) (b10:=c10) (Iu:=c11) (Vh:=c12);have f3:Fm pm M.length M M2:=f1.trans (f2.le T);have run:Hw.den (prog.call (m-1),prog.cls) [sP K r U,sR pm,sR q,D.bl true,c4,c5,c6,c7,c8,c9,c10,c11,c12] O=.ok (.next,[sP K r U,sR pm,sR q,d3,X,R,H,d7,A,F,J,G,B]) M2:=by simp[Hw,e2]
   rcases o2 with⟨rfl,rfl,cs⟩|⟨rfl,t3⟩
   .exact(O,.next,_,M2,0,rfl,run,.inl rfl,by simp,S,false,[X,R,H,d7,A,F,J,G,B],rfl,rfl,k2,λ_=>cs,f3,a_ T l2,rfl)
   .exact(O,.next,_,M2,Z8 K S+1,rfl,run,.inl rfl,by simp;exact t3,S,true,[X,R,H,d7,A,F,J,G,B],rfl,rfl,k2,by simp,f3,a_ T l2,rfl)
 subst qq;refine(Pj,Z,?_,E,Q,f1,T);simp only[zg,z6]at e;simp[Fn.run,Tc,S8,e]
theorem alx:∀l:List Nat,Xx (l.map nD)\(l.map λ(x:Nat)=>(x:Int))
 |[]=>rfl|a::l=>by show(Xx (l.map nD)).map _=_;rw[alx l];rfl
noncomputable def fil(b:Nat)(f:Nat->Bool):List Nat:=(List.range b).filter f
def a0u(b:Nat)(f:Nat->Bool):(fil b f).length<=b:=by have:=qy f (List.range b);rw[Bo]at this;exact this
def Yb:x∈fil b f↔x<b/\f x=true:=by rw[fil,je,jh]
def ajk(b:Nat)(f:Nat->Bool):(fil b f).Pairwise (· < ·):=List.pairwise_lt_range.filter f
def srt{is:Xs}{f:Nat->Bool}(h:∀y,y∈is↔∃z:Nat,z<b/\f z=true/\y=z):sortI (Bp is)=(fil b f).map λ(x:Nat)=>(x:Int):=
 (aka (w6.mpr ((ajk b f).imp λh=>by lia)) (m6.mpr (w6.mpr ((ajk b f).imp λh=>by lia))) λy=>by
  rw[h,bh];constructor
  .rintro⟨z,T,G,rfl⟩;exact(z,Yb.mpr (T,G),rfl)
  .rintro⟨z,Y,rfl⟩;exact(z,(Yb.mp Y).1,(Yb.mp Y).2,rfl)).symm
def a0v(l:Y3):(l.map λ(x:Nat)=>(x:Int)).map D.int=l.map nD:=by rw[Aw];rfl
def mem_cast{l:Y3}{y:Int}:y∈l.map (λ(x:Nat)=>(x:Int))↔∃z:Nat,z∈l/\y=z:=by rw[bh];constructor<;>rintro⟨z,h,e⟩<;>exact(z,h,e.symm)
def a0w{M:fc}{l:Y3}(h:gr M d\(l.map nD))(J:b<=7\/l.length<31)(T:∀z,z∈l↔z<b/\f z=true):p8 .Kr [d] M=.ok (.vl ((fil b f).map nD)) M/\(fil b f).length<=l.length:=by
 have e:=srt (is:=l.map λ(x:Nat)=>(x:Int)) (b:=b) (f:=f) λy=>by
  rw[mem_cast];constructor
  .rintro⟨z,Y,rfl⟩;exact(z,((T z).mp Y).1,((T z).mp Y).2,rfl)
  .rintro⟨z,Y,G,rfl⟩;exact(z,(T z).mpr (Y,G),rfl)
 have q:=(Mj (Bp (l.map λ(x:Nat)=>(x:Int)))).length_eq;have n:=aql (l.map λ(x:Nat)=>(x:Int));rw[e,du]at q;rw[<-q,du]at n;have le:(Bp (l.map λ(x:Nat)=>(x:Int))).length<31:=by have:=a0u b f;rw[<-q];lia
 refine(?_,n);show Res.wy (((gr M d).bind Xx).bind λis=>if(Bp is).length<31 then some (D.vl ((sortI (Bp is)).map D.int))else none) M=_;rw[h,uw,alx,uw,dm le,e,a0v];rfl
theorem bnd:∀l:List Nat,∃b,∀z∈l,z<b
 |[]=>(0,by simp)
 |a::l=>by
  let(b,h):=bnd l;refine(a+b+1,λz Y=>?_);rcases dh.mp Y with rfl|Y
  .lia
  .have:=h z Y;lia
def ajl{M:fc}{l:Y3}(h:gr M d\(l.map nD))(T:l.length<31):∃Z:List Nat,p8 .Kr [d] M=.ok (.vl (Z.map nD)) M/\Z.length<=l.length/\Z.Nodup/\∀x,x∈Z↔x∈l:=by
 let(b,J):=bnd l;have Y:∀z,z∈l↔z<b/\decide (z∈l)=true:=λz=>by rw[gf];exact(λq=>(J z q,q),λq=>q.2)
 let(G,B):=a0w (f:=λz=>decide (z∈l)) h (.inr T) Y;exact(_,G,B,m6.mpr ((ajk b _).imp λh=>by lia),λx=>by rw[Yb];exact(Y x).symm)
def aob(T:ρ.length=19)(F:ρ[3]?\(some (.vl (yx p K))))(h:RS p K rs M)(H:K<=3)(h7:∀e,e<K->(rs e).length<=7)(ht:t<M.length) :
 ∃Z,Jt.den W ρ M=.ok (.ref (M.length+K)) Z/\Mk t (M.length+K) K (λe=>(rs e).length) (λe=>List.range (rs e).length) Z/\vf M Z/\Z.length=M.length+K+1:=by
 unfold Jt;let(L,N,e,B,E,r3,G):=Ls (W:=W) (v:=false) (k:=1) (t:=.name 19) (it:=.v 3) (e:=.aas (.l (.v 19))) (ρ:=ρ) (M:=M) (M1:=M) (d:=.vl (yx p K)) (ds:=yx p K) (by simp[F]) rfl (by simp[yx];exact a_ H ⋯)
  (λi Q Z=>Q=yx M.length i/\(∀e,e<i->Z[M.length+e]?\(.lst ((List.range (rs e).length).map nD)))/\vf M Z/\Z.length=M.length+i) (rfl,λe P=>absurd P (su _),vf.refl M,rfl) (λ_ _ _ _=>rfl)
  (λi y Q Z S A=>by
   let(rfl,V,R,J):=A;have Y:i<K:=by have:=(ao.mp S).1;simpa[yx]using this
   obtain rfl:D.ref (p+i)=y:=by simpa[yx,Y]using S
   have ln:=len_list (ju (R _ _ (h i Y)));have X:(ρ++List.replicate 1 none).set 19 (sR (p+i))=ρ++[sR (p+i)]:=by rw[List.set_append];simp[T]
   have g9:(ρ++[some (D.ref (p+i))])[19]?\(sR (p+i)):=by rw[<-T];simp
   refine(_,.ref Z.length,Z++[.lst ((List.range (rs i).length).map nD)],rfl,?_,?_,λe P=>?_,R.trans (vf.app _ _),by simp[J];exact rfl)
   .have U:=h7 i Y
    have I:(rs i).length<=100000:=a_ U ⋯
    rw[X];simp[g9,ln,I,MW.new,nD]
   .simp[yx,qi,J]
   .by_cases z:e=i
    .subst z;rw[<-J];simp
    .exact yd (V e (by lia)))
 have C:(yx p K).length=K:=by simp[yx]
 rw[C]at B E G;refine(N++[.lst L],by rw[e];simp[MW.new,G],((L,by rw[<-G];simp,by rw[B];simp[yx],λi Y=>?_),λi Y=>by simp,λi Y x O=>jh.mp O,λi Y x O=>by simp[jh.mp O]),r3.trans (vf.app _ _),by simp[G]);refine(.ref (M.length+i),by rw[B];simp[yx,Y],ju (yd (E i Y)),λa q=>?_);cases q;exact(b_ ht x_,H_ Y)
def Mk.st(h:Mk t pm K L Z M)(s:St t f M M')(T:t<pm):Mk t pm K L Z M':=h.frame (λa o Y _ e=>s.keep a o (i_ Y) e) T
def Ac.of(h:Ac q Z L as M)(k:∀o,M[q]?\o->M'[q]?\o):Ac q Z L as M':=(k _ h.at_,h.len,h.ok)
def a0x(F:1<=m)(P:Gq sz K Z jf)(hh:W6 t f M)(mk:Mk t pm K L U M)(ac:Ac q Z L as M)(T:t<p)(C:p<=pm)(qv:pm<M.length)(hq:p<=q)(O:q≠pm)(N:q<M.length)(hL:∀e,e<K->L e<=7)(hc:Cgs Z as Z.length U) :
 ∃c5 q0 qq q1 qk Pj M',Ga.den (prog.call m,prog.cls) [sR t,sP K r Z,a2,a3,b4,b5,b6,b7,b8,sR q,b10,Iu,Vh,sR pm,b14,b15,n16,n17,n18] M =
  .ok (.next,[sR t,sP K r Z,a2,a3,b4,c5,b6,b7,b8,sR q,b10,q0,qq,sR pm,q1,qk,n16,n17,n18]) M'/\Mk t pm K L Pj M'/\Cgs Z as Z.length Pj/\Ac q Z L as M'/\Gs t f p M M':=by
 symm
 have h3:=P.k3;let(k,M1,e1,l1,s1,n1):=Dw (many:=K) F hh (by have:=P.k1;exact m_ this) (m_ (c_ h3 ⋯));let(x,M2,e2,l2,s2,n2):=Dw (many:=7) F s1.has ⋯ ⋯;let(y,M3,e3,l3,s3,n3):=Dw (many:=7) F s2.has ⋯ ⋯;have B:k<K:=o_ l1
 have s:=s1.trans (s2.trans s3);have Y:=mk.st s (b_ T C);have Q:Ac q Z L as M3:=ac.of λo e=>s.keep _ _ (i_ (b_ T hq)) e
 let(dk,fk,V):=Y.row B;have J:=Y.len _ B;have ln:=len_list V;simp only[du,J]at ln;have mx:=aer M3 x y;apply _k
 by_cases c:max x y<L k
 .have c':((max x y:Nat):Int)<(L k:Int):=m_ c
  have A:x<(U k).length:=by lia
  have hy:y<(U k).length:=by lia
  have ix:=Uj V A;have iy:=Uj V hy;have S:=getD_mem' A;have R:=getD_mem' hy;generalize hx0:(U k).getD x 0=u at ix S;generalize hy0:(U k).getD y 0=w at iy R;have E:min u w∈U k:=by
   rcases Nat.le_total u w with z|z
   .rw[Nat.min_eq_left z];exact S
   .rw[Nat.min_eq_right z];exact R
  have rp:=ahl (W:=(prog.call m,prog.cls)) (M:=M3) (ρ:=[sR t,sP K r Z,a2,a3,b4,sI k,b6,b7,b8,sR q,b10,sI x,sI y,sR pm,sI (min u w:Nat),sI (max u w:Nat),n16,n17,n18]) (v:=13) (x:=5) (y:=19) (a:=14) (b:=15) (lo:=min u w) (hi:=max u w) (by simp[fk]) V (by have:=hL _ B;exact a_ (f_ J) (a_ this ⋯)) rfl rfl rfl;let(o,so,q2):=Y.set B (ns:=Kd (min u w) (max u w) (U k)) (by simp[Kd,J]) (λz hz=>by
   let(v,hv,rfl):=bh.mp hz;split
   .exact Y.lt _ B _ E
   .exact Y.lt _ B _ hv) (als (Y.fx _ B) (λx A=>by rw[J];exact Y.lt _ B x A) E) (b_ T C)
  have H:Ac q Z L as (M3.set pm o):=Q.of λo e=>by rw[j9 (lg O)];exact e
  have G:M3.length=M.length:=u_ (a_ (f_ n3) (a_ (f_ n2) (f_ n1))) (a_ (g_ n1) (a_ (g_ n2) (g_ n3)));let(Pj,M5,e5,D,I,f5,l5):=aoa (r:=r) (M:=M3.set pm o) F P q2 H (by simp;exact b_ qv (g_ G)) (by simp;exact b_ N (g_ G)) O (b_ T C) hL;have X:Ac q Z L as M5:=H.of λo e=>f5 _ _ O (by simp;exact b_ N (g_ G)) e
  refine(some (.int k),sI x,sI y,sI (min u w:Nat),sI (max u w:Nat),Pj,M5,?_,D,I,X,(?_,λa v ha na e=>?_,by simp at l5;exact a_ (g_ G) l5))
  .simp[Ga,Rf,e1,e2,e3,mx,fk,ln,c',ix,iy,alv,aer,Qj,rp,so,e5]
  .let(n,hn,ho):=s.has
   exact(n,f5 _ _ (h_ (b_ T C)) (by have:=vm hn;simp;exact this) (by rw[j9 (i_ (b_ T C))];exact hn),ho)
  .refine f5 _ _ (h_ (b_ ha C)) (by have:=vm e;simp;exact b_ this (g_ G)) ?_
   rw[j9 (i_ (b_ ha C))];exact s.keep a v na e
 .have c':¬((max x y:Nat):Int)<(L k:Int):=by lia
  refine(some (.int k),sI x,sI y,b14,b15,U,M3,?_,Y,hc,Q,Gs.ahi s);simp[Ga,Rf,e1,e2,e3,mx,fk,ln,c']
def cu(T:Y3)(G:List (List Nat)):D:=.tup [.tup (T.map nD),.tup (G.map λY=>.tup (Y.map nD))]
def aut(h:.int v∈ds):ixI v ds<ds.length:=by
 unfold ixI;cases q:ds.findIdx? (λd=>match d with|.int i=>decide (i=v)|_=>false)with
 |some j=>exact(t8.mp q).1
 |none =>
  rw[xm]at q;have:=q _ h;simp at this
def a0y:∀{Y:List D},(∀d∈Y,∃i:Int,d=.int i)->.int v∈Y->Y[ixI v Y]?\(.int v):=fun{Y} hi h=>by
 unfold ixI;cases q:Y.findIdx? (λd=>match d with|.int i=>decide (i=v)|_=>false)with
 |some j =>
  let(T,G,_):=t8.mp q;let(i,J):=hi Y[j] (m5 T);rw[J]at G;have:i=v:=by simpa using G
  simp[T,J,this]
 |none =>
  rw[xm]at q;have:=q _ h;simp at this
def auu(l:Y3):∀d∈l.map nD,∃i:Int,d=.int i:=λd Y=>by let(x,_,rfl):=bh.mp Y;exact(_,rfl)
def auv{l:Y3}(h:x∈l):.int (x:Int)∈l.map nD:=bh.mpr (x,h,rfl)
def ixo(l:Y3)(x:Nat):Nat:=ixI (x:Int) (l.map nD)
def aac(h:x∈l):ixo l x<l.length:=by have:=aut (auv h);simpa[ixo]using this
def aet{l:Y3}(h:x∈l):l.getD (ixo l x) 0=x:=by have Y:=a0y (auu l) (auv h);have T:=aac h;unfold ixo at T⊢;rw[ir,bw T]at Y;simp[nD]at Y;rw[bx,bw T];simp only[zp];exact D_ Y
def Rg(T:Nat->List Nat)(g:F)(G Y J:Y3):List Nat:=Y.map λB=>ixo J ((T g.b).getD (G.getD B 0) 0)
noncomputable def Dj(Y:List (List Nat))(x:Nat)(w:Int):Nat:=if w=-1 then x else(Y.getD w.toNat []).getD x 0
structure Pu(K:Nat)(hs:List F)(El:Y3)(Fb:List (List Nat)):Prop where
 ls:El.length=K
 la:Fb.length=hs.length
 sm:∀x∈El,x<=7
 ok:∀(j:Nat)(g:F)(js:Y3),hs[j]?\g->Fb[j]?\js->js.length=El.getD g.a 0/\∀x∈js,x<El.getD g.b 0
 fu:∀(j1 j2:Nat)(g1 g2:F)(a1 a2:Y3),hs[j1]?\g1->hs[j2]?\g2->g1.b=g2.a->Fb[j1]?\a1->Fb[j2]?\a2->∀x,x<a1.length->a2.getD (a1.getD x 0) 0=Dj Fb x (ent hs g1 g2)
def Wn(l:Y3):D:=.vl (l.map nD)
def auw(G:ρ.length=19)(C:ρ[13]?\(sR pm))(B:Mk t pm K L U M)(H:K<=3)(h7:∀i,i<K->L i<=7) :
 ∃Z:List (List Nat),Jr.den W ρ M=.ok (.vl (Z.map Wn)) M/\Z.length=K/\∀e l,Z[e]?\l->l.length<=L e/\l.Nodup/\∀x,x∈l↔x∈U e:=by
 let(E,P,O,I):=B.ex;unfold Jr;symm
 let(ys,T,e,rfl,Z,r1,A,r3):=Ls (W:=W) (v:=true) (k:=1) (t:=.name 19) (it:=.v 13) (e:=.blt .Kr (.o (.v 19))) (ρ:=ρ) (M:=M) (M1:=M) (d:=.ref pm) (ds:=E) (by simp[C]) (ju P) (a_ (f_ O) (a_ H ⋯))
  (λi N T=>T=M/\∃Z:List (List Nat),N=Z.map Wn/\Z.length=i/\∀e l,Z[e]?\l->l.length<=L e/\l.Nodup/\∀x,x∈l↔x∈U e) (rfl,[],rfl,rfl,by simp) (λi N T h=>by rw[h.1];exact ju P)
  (λi y N T Q D=>by
   let(rfl,Z,rfl,R,q2):=D;have J:i<K:=by have:=(ao.mp Q).1;exact b_ this (f_ O)
   symm
   let(d,S,V,_):=I i J;rw[Q]at S;cases S;let(l,k1,k2,k4,k3):=ajl V (by have:=h7 i J;have:=B.len i J;lia);apply _k;have X:(ρ++List.replicate 1 none).set 19 (some y)=ρ++[some y]:=by rw[List.set_append];simp[G]
   have g9:(ρ++[some y])[19]?\(some y):=by rw[<-G];simp
   refine(_,Wn l,T,rfl,by rw[X];simp[g9,k1,Wn],rfl,Z++[l],by simp,by simp[R],λe F Y=>?_)
   by_cases z:e<Z.length
   .rw[gq z]at Y;exact q2 e F Y
   .have ze:e=i:=by have:=(ao.mp Y).1;simp at this;lia
    subst ze;rw[jk (s_ z),R]at Y;simp at Y;subst Y;rw[<-B.len e J];exact(k2,k4,k3))
 apply _k;refine(Z,by rw[e,r1];rfl,A.trans O,r3)
def auy{Y:List (List Nat)}{i:Nat}(h:Y[i]?\l):Bx (.vl (Y.map Wn)) (.int i) M\(Wn l):=Ei rfl q_ (by simp[h])
def aoe{hl:List (List Nat)}(E:Mk t pm K L U M)(ac:Ac q hs L as M){j:Nat}(A:hs[j]?\g)(ej:as[j]?\Z)(ga:g.a<K)(gb:g.b<K)(h1:hl[g.a]?\la)(h2:hl[g.b]?\lb)(V:∀x,x∈la↔x∈U g.a)(R:∀x,x∈lb↔x∈U g.b)(h7:la.length<=7)(hw:M[w]?\(.lst td))(H:td.length<100000) :
 ∃(Q:Option D)(N:Y3),Jp.den W [a0,sP K r hs,a2,a3,b4,b5,b6,b7,b8,sR q,sI j,Iu,Vh,sR pm,b14,b15,D.vl (hl.map Wn),sR w,b18] M =
  .ok (.next,[a0,sP K r hs,a2,a3,b4,b5,b6,b7,b8,sR q,sI j,sI g.a,sI g.b,sR pm,b14,b15,some (.vl (hl.map Wn)),sR w,Q]) (M.set w (.lst (td++[.tup (N.map nD)])))/\N=Rg U g Z la lb/\N.length=la.length/\∀x∈N,x<lb.length:=by
 symm
 let(qq,B,fj,lj,rj):=ac.get A;rw[ej]at B;cases B;let(db,fb,P):=E.row gb;have F:∀Y∈la,Z.getD Y 0<(U g.b).length/\Y<Z.length:=λY h=>by
  have h3:=E.lt _ ga Y ((V Y).mp h);have h4:Y<Z.length:=b_ h3 (g_ lj)
  exact(by rw[E.len _ gb];exact rj _ (getD_mem' h4),h4)
 apply _k;have X:Jo.den W [a0,sP K r hs,a2,a3,b4,b5,b6,b7,b8,sR q,sI j,sI g.a,sI g.b,sR pm,b14,b15,D.vl (hl.map Wn),sR w,b18] M=.ok (Wn (la.map λY=>(U g.b).getD (Z.getD Y 0) 0)) M:=by
  unfold Jo;rw[Bj (d:=Wn la) (ds:=la.map nD) (M1:=M) (g:=λd=>match d with|.int o=>nD ((U g.b).getD (Z.getD o.toNat 0) 0)|_=>.non) (by simp[auy h1]) rfl (by simp;exact a_ h7 ⋯) (λz T=>by
   let(Y,G,rfl):=bh.mp T;let(k1,k2):=F Y G;refine(_,rfl,?_);have C:Bx (.vl (Z.map nD)) (.int Y) M\(.int (Z.getD Y 0)):=Uj rfl k2;have S:=Uj P k1;show(Ex.ix (.ix (.v 13) (.v 12)) (.ix (.ix (.v 9) (.v 10)) (.v 19))).den W [a0,sP K r hs,a2,a3,b4,b5,b6,b7,b8,sR q,sI j,sI g.a,sI g.b,sR pm,b14,b15,D.vl (hl.map Wn),sR w,b18,sI Y] M=.ok (nD ((U g.b).getD (Z.getD (Y:Int).toNat 0) 0)) M;rw[wz];generalize Z.getD Y 0=yy at C S;generalize(U g.b).getD yy 0=zz at S;simp[fb,fj,C,S,nD])]
  simp[Wn,nD]
 have J:∀z∈la.map (λY=>(U g.b).getD (Z.getD Y 0) 0),.int (z:Int)∈lb.map nD:=λz h=>by let(Y,G,rfl):=bh.mp h;exact bh.mpr (_,(R _).mpr (getD_mem' (F Y G).1),rfl)
 generalize bem:la.map (λY=>(U g.b).getD (Z.getD Y 0) 0)=row at X J;have O:row.length=la.length:=by rw[<-bem];simp
 have I:Jm.den W [a0,sP K r hs,a2,a3,b4,b5,b6,b7,b8,sR q,sI j,sI g.a,sI g.b,sR pm,b14,b15,D.vl (hl.map Wn),sR w,Wn row] M=.ok (.vl ((row.map λ(z:Nat)=>ixI (z:Int) (lb.map nD)).map nD)) M:=by
  unfold Jm;rw[Bj (d:=Wn row) (ds:=row.map nD) (M1:=M) (g:=λd=>match d with|.int o=>nD (ixI o (lb.map nD))|_=>.non) (by simp) rfl (by simp;exact a_ (f_ O) (a_ h7 ⋯)) (λz T=>by
   let(o,ho,rfl):=bh.mp T;refine(_,rfl,?_);have C:=aud (M:=M) (ds:=lb.map nD) (v:=(o:Int)) (λd hd=>by let(x,_,rfl):=bh.mp hd;exact(_,rfl)) (J o ho);show(Ex.bm .index (.ix (.v 16) (.v 12)) (.o (.v 19))).den W [a0,sP K r hs,a2,a3,b4,b5,b6,b7,b8,sR q,sI j,sI g.a,sI g.b,sR pm,b14,b15,D.vl (hl.map Wn),sR w,Wn row,sI o] M=_;simp[auy h2,Wn,Pq,C,nD])]
  simp[nD]
 refine(some (Wn row),row.map λ(z:Nat)=>ixI (z:Int) (lb.map nD),?_,by rw[<-bem,Aw];rfl,by simp[O],λx hx=>?_)
 .have pe:∀ρ,(Tg.names [11,12]).put (eD g) ρ\((ρ.set 11 (sI g.a)).set 12 (sI g.b)):=λ_=>rfl
  have ap:=Ej (d:=.tup ((row.map λ(z:Nat)=>ixI (z:Int) (lb.map nD)).map nD)) hw H;simp only[Aw]at I ap⊢;simp[-List.map_map,Jp,Kf,Tu A,pe,X,I,Ed hw,J9,ap]
 .let(z,T,rfl):=bh.mp hx
  have:=aut (J z T);simpa using this
def ajm(h:nD a=nD b):a=b:=by simp only[nD,D.int.injEq,z8]at h;exact h
def ajn(Y:List F)(k:Nat):(ud Y k).Nodup:=by
 refine ug.mpr (λh=>?_,?_)
 .let(x,_,e):=bh.mp h
  simp[nD]at e
 .rw[m6,w6]
  exact((m6.mp List.nodup_range).filter _).imp λh e=>h (ajm e)
def auz(Y:List F)(k g:Nat):(wT Y k g).Nodup:=(ajn Y k).filter _
def aly(h:trD n k w=trD U Z w'):n=U/\k=Z/\w=w':=by simp only[trD,D.tup.injEq,Cv,D.int.injEq,z8,and_true]at h;exact h
def Oh(Y:(ad.map (·.1)).Nodup)(e:Nat):(rowsOf Z ad e).Nodup:=by
 rw[m6];unfold rowsOf;rw[List.pairwise_flatMap];refine(λp _=>?_,?_)
 .rw[w6]
  exact(m6.mp (auz Z p.2 e)).imp λh q=>h (aly q).2.2
 .rw[m6,w6]at Y
  exact Y.imp λh x T y G q=>by let(u,_,rfl):=bh.mp T;let(v,_,rfl):=bh.mp G;exact h (aly q).1
def Hj{Y:Type}{l:List Y}(h:l.Nodup){i:Nat}{x:Y}(T:l[i]?\x)(J:l[j]?\x):i=j:=by have G:=(ao.mp T).1;exact(List.getElem?_inj G h).mp (T.trans J.symm)
def aad{j:Nat}(h:bothW U Z x j\(.int v)):bv U Z j (.int x)=v:=by simp[bv,h]
def a00(P:Gq sz K Z U)(G:Z[j1]?\g1)(B:Z[j2]?\g2)(e:g1.b=g2.a)(W:.int x∈wT Z k g1.a) :
 (ent Z g1 g2=-1/\(g1.comp g2).R8/\bv Z U j2 (.int (bv Z U j1 (.int x)))=x)\/∃j3:Nat,ent Z g1 g2=j3/\Z[j3]?\(g1.comp g2)/\bv Z U j2 (.int (bv Z U j1 (.int x)))=bv Z U j3 (.int x):=by
 have S:¬((j1:Int)=-1):=by lia
 have Q:¬((j2:Int)=-1):=by lia
 have L:=bf G;have E:=bf B;have H:bothW Z U j1 j2\(.int (ent Z g1 g2)):=by rw[bothW,cz S,cz Q];exact P.look G B e
 let(V,J):=Uh W;rcases Df V with q|⟨i,f,q,hf,ef⟩
 .cases q
  have N:bothW Z U (-1) j1\(.int j1):=by simp[bothW]
  rw[aad N,aad H,N8];rcases P.Fj (P.cl g1 L g2 E e)with⟨Y,O⟩|⟨u,C,Y⟩
  .exact .inl (Y,O,Y)
  .refine .inr (u,Y,C,?_)
   rw[Y,aad (v:=u) (by simp[bothW])]
 .cases q
  have R:¬((i:Int)=-1):=by lia
  rw[Dy hf]at J;have N:bothW Z U i j1\(.int (ent Z f g1)):=by rw[bothW,cz R,cz S];exact P.look hf G J
  let(v,F,T):=P.aq5 hf G B J e;rw[aad N,aad F];rw[N8]at T⊢;rcases P.Fj (P.cl g1 L g2 E e)with⟨Y,O⟩|⟨u,C,Y⟩
  .rw[Y]at T
   rw[bothW,cz R,dm rfl]at T;cases T;exact .inl (Y,O,rfl)
  .rw[Y]at T
   exact .inr (u,Y,C,(aad T).symm)
def Wo(h:l.Nodup)(Y:x<l.length):ixo l (l.getD x 0)=x:=by
 have m:l.getD x 0∈l:=getD_mem' Y;have T:=aet m;have G:=aac m;refine Hj h (x:=l.getD x 0) ?_ ?_
 .rw[bw G]
  rw[bx,bw G]at T;simpa using T
 .rw[bw Y,bx,bw Y];rfl
def Vi(Y:x<la.length):(Rg U g Z la lb).getD x 0=ixo lb ((U g.b).getD (Z.getD (la.getD x 0) 0) 0):=getD_map (α:=Nat) Y
def func(P:Gq sz K U jf){C:List (List Nat)}(nd:(ad.map (·.1)).Nodup)(ml:∀e,e<K->(Z e).length=(rowsOf U ad e).length)(J:∀e,e<K->∀x∈Z e,x<(rowsOf U ad e).length)(fx:∀e,e<K->∀x∈Z e,(Z e).getD x 0=x)(cg:Cgs U as U.length Z)(V:∀(j:Nat) (g:F) (js:Y3),U[j]?\g->as[j]?\js->Ae U jf ad j g js)(X:∀e l,C[e]?\l->l.Nodup/\∀x,x∈l↔x∈Z e){j1 R:Nat}(S:U[j1]?\g1)(T:U[R]?\g2)(e:g1.b=g2.a)(q1:as[j1]?\s1)(q2:as[R]?\s2)(G:C[g1.a]?\la)(D:C[g1.b]?\lb)(Y:C[g2.b]?\lc)(N:x<la.length) :
 (ent U g1 g2=-1/\(Rg Z g2 s2 lb lc).getD ((Rg Z g1 s1 la lb).getD x 0) 0=x) \/
  ∃j3:Nat,ent U g1 g2=j3/\U[j3]?\(g1.comp g2)/\∀s3,as[j3]?\s3->(Rg Z g2 s2 lb lc).getD ((Rg Z g1 s1 la lb).getD x 0) 0=(Rg Z (g1.comp g2) s3 la lc).getD x 0:=by
 have m1:=bf S;have m2:=bf T;have ka:=P.Y5 g1 m1;have O:=P.aav g1 m1;have kc:=P.aav g2 m2;let(na,ma):=X _ _ G;let(_,mb):=X _ _ D;have A1:=V _ _ _ S q1;have H:=V _ _ _ T q2;have W:=(ma _).mp (getD_mem' N);generalize hh0:la.getD x 0=h at W;have Il:=J _ ka h W;let(n,k,w,_,hw,er):=Hd (m5 Il);have Q:(rowsOf U ad g1.a)[h]?\(trD n k (.int w)):=by rw[bw Il,er]
 have r1:=A1.go _ _ _ _ Q;have B:=H.go _ _ _ _ (by rw[<-e];exact r1);have l1:s1.getD h 0<(Z g1.b).length:=by rw[ml _ O];exact(ao.mp r1).1
 have L:=getD_mem' l1;have yl:=aac ((mb _).mpr L);rw[Vi N,hh0,Vi yl,aet ((mb _).mpr L)];have c1:(Z g2.b).getD (s2.getD ((Z g1.b).getD (s1.getD h 0) 0) 0) 0=(Z g2.b).getD (s2.getD (s1.getD h 0) 0) 0:=by
  have E:=(ao.mp T).1;refine cg R g2 s2 E T q2 _ _ ?_ ?_ ?_
  .rw[H.len,<-e];exact J _ O _ L
  .rw[H.len,<-e,<-ml _ O];exact l1
  .rw[<-e];exact fx _ O _ L
 rw[c1];rcases a00 P S T e hw with⟨A,i1,M⟩|⟨j3,A,h3,M⟩
 .left
  refine(A,?_);have I:g1.a=g2.b:=i1.1;rw[M,<-I]at B;rw[<-I]at Y;rw[G]at Y;cases Y;rw[Hj (Oh nd _) B Q,<-I,fx _ ka h W,<-hh0,Wo na N]
 .right
  refine(j3,A,h3,λs3 q3=>?_);have A3:=V _ _ _ h3 q3;have r3:=A3.go h n k w Q;rw[Vi N,hh0];rw[M]at B;have:s2.getD (s1.getD h 0) 0=s3.getD h 0:=Hj (Oh nd g2.b) B r3;rw[this];rfl
def au0(f g:Nat->Nat)(K:Nat):((List.range K).map λe=>f e+g e).sum=((List.range K).map f).sum+((List.range K).map g).sum:=by
 induction K with
 |zero=>rfl|succ K Y=>simp[qi]at Y⊢;lia
def alz{f:Nat->Nat}(h:∀e,e<K->f e<=B):((List.range K).map f).sum<=K*B:=by
 induction K with
 |zero=>exact jd _
 |succ K T =>
  have Y:=T λe G=>h e (kh G)
  have J:=h K (jy K);simp[qi,Nat.succ_mul]at Y⊢;lia
def aof{G:Type}{l:List G}(f:G->Nat)(h:∀x∈l,f x<K):((List.range K).map λe=>(l.filter λx=>decide (f x=e)).length).sum=l.length:=by
 have:∀n,((List.range n).map λe=>(l.filter λx=>decide (f x=e)).length).sum=(l.filter λx=>decide (f x<n)).length:=λn=>by
  induction n with
  |zero=>simp[List.filter_eq_nil_iff.mpr]
  |succ n Y =>
   simp only[qi,jc,List.sum_append,Y];clear Y h
   induction l with
   |nil=>rfl
   |cons a l Y =>
    simp only[Aq,f9,Bu,uz,List.sum_nil]at Y⊢
    by_cases z:f a<n
    .have T:f a<n+1:=by lia
     have B:¬f a=n:=by lia
     simp[z,T,B];lia
    .by_cases y:f a=n
     .simp[y];lia
     .have T:¬f a<n+1:=by lia
      simp[z,T,y];lia
 rw[this K,List.filter_eq_self.mpr λx J=>wu (h x J)]
def Adm.Z8(P:Gq sz K Z U)(h:Adm Z K ad):((List.range K).map λe=>(rowsOf Z ad e).length).sum=(ad.map λq=>(ud Z q.2).length).sum:=by
 induction h with
 |nil =>
  have:=alz (K:=K) (B:=0) (f:=λe=>(rowsOf Z [] e).length) λe _=>bz _
  simpa using this
 |snoc _ Y _ G =>
  simp only[Ui,jw,du,jc,List.sum_append,au0,G];have:=aof (l:=ud Z k) (K:=K) (Br Z k) λd T=>X8 P Y T
  simp only[wT,this];simp
def Adm.room(P:Gq sz K Z U)(h:Adm Z K ad)(r:∀e,e<K->(rowsOf Z ad e).length+(ud Z k).length<=7):(ad.map λq=>(ud Z q.2).length).sum+3*(ud Z k).length<=21:=by
 have T:=alz (K:=K) (B:=7-(ud Z k).length) (f:=λe=>(rowsOf Z ad e).length) λe Y=>by have:=r e Y;lia
 rw[h.Z8 P]at T;have G:=r 0 P.k1;have:=Nat.mul_le_mul_right (7-(ud Z k).length) P.k3
 lia
def a01(P:Gq sz K Z U)(k:Nat):(ud Z k).length<=6:=by have Y:=qy (Ke Z k) (List.range Z.length);have T:=P.len;simp[ud]at Y⊢;lia
def au1:∀a,a<7->∀b,b<7->∀c,c<7->c+b+3*a<=21->c+3*b<=21->max 1 (c-2)+(max 1 (b-2)+max 1 (a-2))<=8:=by decide
def Adm.cost(P:Gq sz K Z U)(h:Adm Z K ad)(l:ad.length<=3):(ad.map λq=>max 1 ((ud Z q.2).length-2)).sum<=8:=by
 have w k:=Nat.lt_succ_of_le (a01 P k);cases h with
 |nil=>simp
 |snoc h _ r =>
  have Y:=h.room P r;cases h with
  |nil=>have:=au1 _ (w k) 0 ⋯ 0 ⋯ (by simpa using Y) ⋯;simp;exact gh (Bg _ 1) (gh (Bg _ 1) this)
  |snoc h _ G =>
   have T:=h.room P G;cases h with
   |nil=>have:=au1 _ (w k) _ (w k_1) 0 ⋯ (by simpa using Y) (by simpa using T);simp;exact gh (Bg _ 1) this
   |snoc h _ r =>
    cases h with
    |nil=>have:=au1 _ (w k) _ (w k_1) _ (w k_2) (by simpa using Y) (by simpa using T);simpa using this
    |snoc _ _ _=>simp at l
structure Gn(K:Nat)(hs:List F)(El:Y3)(Fb:List (List Nat))(G:List (Nat×Nat)):Prop where
 v:∀g∈G,g.1<K/\g.2<El.getD g.1 0
 g:∀e x,e<K->x<El.getD e 0->∃g∈G,∃w:Int,.int w∈wT hs g.1 e/\x=Dj Fb g.2 w
 c:(G.map λg=>max 1 ((ud hs g.1).length-2)).sum<=8
def au2(h:q∈ad):.tup [.int q.1,.int q.2,.int (-1)]∈rowsOf hs ad q.2:=
 Ar.mpr (q,h,bh.mpr (.int (-1),je.mpr (by simp[ud],by simp[Br]),rfl))
def gen(P:Gq sz K Z jf){Y:List (List Nat)}(nd:(ad.map (·.1)).Nodup)(ap:Adm Z K ad)(al:ad.length<=3)(kd:∀q∈ad,q.2<K)(ml:∀e,e<K->(U e).length=(rowsOf Z ad e).length)(R:∀e,e<K->∀x∈U e,x<(rowsOf Z ad e).length)(D:∀e,e<K->∀x∈U e,(U e).getD x 0=x)(cg:Cgs Z as Z.length U)(ae:∀(j:Nat) (g:F) (js:Y3),Z[j]?\g->as[j]?\js->Ae Z jf ad j g js)(qk:as.length=Z.length)(hl:Y.length=K)(I:∀e l,Y[e]?\l->l.Nodup/\∀x,x∈l↔x∈U e)(tl:td.length=Z.length)
 (tt:∀(j:Nat)(g:F)(js:Y3),Z[j]?\g->td[j]?\js->∃s la lb,as[j]?\s/\Y[g.a]?\la/\Y[g.b]?\lb/\js=Rg U g s la lb):∃G,Gn K Z (Y.map List.length) td G:=by
 have X:∀q:Nat×Nat,∃z:Nat,q∈ad->(rowsOf Z ad q.2)[z]?\(trD q.1 q.2 (.int (-1))):=λq=>by
  by_cases h:q∈ad
  .let(z,H,e):=qg (au2 (hs:=Z) h)
   exact(z,λ_=>by rw[bw H,e];rfl)
  .exact(0,λg=>absurd g h)
 let(tz,H):=Classical.axiomOfChoice X;have O:∀e,e<K->∃l,Y[e]?\l:=λe E=>(_,bw (b_ E (g_ hl)))
 have L:∀{e l},Y[e]?\l->(Y.map List.length).getD e 0=l.length:=fun{e l} h=>by simp[bx,h]
 have gz:∀{e l},Y[e]?\l->Y.getD e []=l:=fun{e l} h=>by simp[bx,h]
 have zm:∀q∈ad,(U q.2).getD (tz q) 0∈U q.2:=λq J=>getD_mem' (by rw[ml _ (kd q J)];exact(ao.mp (H q J)).1)
 refine(ad.map λq=>(q.2,ixo (Y.getD q.2 []) ((U q.2).getD (tz q) 0)),λg hg=>?_,λe x E W=>?_,?_)
 .let(q,J,rfl):=bh.mp hg
  let(l,C):=O _ (kd q J);refine(kd q J,?_);show ixo _ _<_
  rw[L C,gz C];exact aac (((I _ _ C).2 _).mpr (zm q J))
 .let(lb,T):=O e E
  rw[L T]at W;let(nb,mb):=I _ _ T;have V:=(mb _).mp (getD_mem' W);generalize hh0:lb.getD x 0=h at V;have Il:=R _ E h V;let(n,k,w,J,hw,er):=Hd (m5 Il);have r0:(rowsOf Z ad e)[h]?\(trD n k (.int w)):=by rw[bw Il,er]
  refine(_,bh.mpr ((n,k),J,rfl),w,hw,?_);have S:=kd _ J;have Q:=H _ J;have N:=zm _ J;simp only at S Q N⊢;generalize tz (n,k)=z at Q N;let(la,B):=O k S;let(na,ma):=I _ _ B;rw[gz B];let(w1,M):=Uh hw;rcases Df w1 with q|⟨i,f,q,hf,ef⟩
  .cases q
   have:k=e:=by simpa[Br]using M
   subst this;rw[B]at T;cases T;cases Hj (Oh nd k) Q r0;rw[Dj,dm rfl,D _ S _ V,<-hh0,Wo na W]
  .cases q
   rw[Dy hf]at M;subst ef M;have il:=(ao.mp hf).1;have u1:td[i]?=some td[i]:=bw (b_ il (g_ tl));let(s,qq,qv,i1,i2,i3,i4):=tt _ _ _ hf u1;rw[B]at i2;cases i2;rw[T]at i3;cases i3;have A:=ae _ _ _ hf i1;have r1:=A.go _ _ _ _ Q;rw[aad (v:=i) (by simp[bothW])]at r1;have rz:=Hj (Oh nd f.b) r1 r0;have ni:¬((i:Int)=-1):=by lia
   have zl:=(ao.mp Q).1;have u2:td.getD i []=Rg U f s la lb:=by rw[bx,u1,<-i4];rfl
   rw[Dj,cz ni,wz,u2,Vi (aac ((ma _).mpr N)),aet ((ma _).mpr N)];have c1:=cg i f s il hf i1 _ z (by rw[A.len];exact R _ S _ N) (by rw[A.len];exact zl) (D _ S _ N);rw[c1,rz,D _ E _ V,<-hh0,Wo nb W]
 .rw[Aw];exact ap.cost P al
def aae(hm:2<=m)(P:Gq sz K Z jf)(hh:W6 t f M)(hr:M[r]?\(.dT jf))(y8:r≠t) :
 ∃El Fb M',prog.call m 27 [.ref t,uq K r Z,.int 3] M=.ok (cu El Fb) M'/\Pu K Z El Fb/\(∃G,Gn K Z El Fb G)/\St t f M M':=by
 rw[call_of (a_ ⋯ hm) rfl];have h3:=P.k3;have hl:=P.len;have ht:t<M.length:=by let(n,h,_):=hh;exact vm h
 have y9:=vm hr;have r0:=auf (W:=(prog.call (m-1),prog.cls)) (M:=M) (K:=K) (y:=19) (e:=.ix (.v 1) (.i 0)) (ρ:=[sR t,sP K r Z,sI 3,none,none,none,none,none,none,none,none,none,none,none,none,none,none,none,none]) rfl (by simp[Rf]) (a_ h3 ⋯);have g0:Gs t f M.length M (M++List.replicate K (.lst [])):=Gs.app hh (bz _) _;have w0:Rw Z K M.length [] (M++List.replicate K (.lst [])):=(λi hi=>by
  rw[jk x_];simp[rowsOf,hi],by simp,by simp[rowsOf],Bt,.nil)
 symm
 let(v,M1,e1,l1,s1,n1):=Dw (many:=4) (m:=m-1) (r_ hm) g0.has ⋯ ⋯;let(x5,R,e2,(Q,V,O,N,E,rfl),ad,w2,Xw,g2,n2):=vz (S:=J0) (W:=(prog.call (m-1),prog.cls)) (n:=v) rfl
  (ρ:=[sR t,sP K r Z,sI 3,some (.vl (yx M.length K)),none,none,none,none,none]++[none,none,none,none,none,none,none,none,none,none]) (M:=M++List.replicate K (.lst [])) (M1:=M1) (by simp[e1]) (e_ (b_ (o_ l1) ⋯))
  (λi B M'=>(∃Q V O N E:Option D,B=[sR t,sP K r Z,sI 3,some (.vl (yx M.length K)),Q,V,O,N,E]++[none,none,none,none,none,none,none,none,none,none])/\∃ad,Rw Z K M.length ad M'/\(∀q∈ad,q.1<i)/\Gs t f M.length M M'/\M'.length=M.length+K)
  ((none,none,none,none,none,rfl),[],(w0.rs.keep s1 ht,w0.kd,w0.le,w0.nd,w0.ap),by simp,g0.trans (Gs.ahi s1),by simp at n1;exact n1)
  (λi B R hi hI=>by
   symm
   let((Q,V,O,N,E,rfl),ad,q1,hn,U,q3):=hI;let(c5,c6,c7,c8,z9,M3,e3,k1,Rx,k2,k3):=a0m (m:=m-1) (r:=r) (n:=i) (r_ hm) P U.has ht q1 hn (b5:=V) (b6:=O) (b7:=N) (b8:=E) (rest:=[none,none,none,none,none,none,none,none,none,none]) rfl;apply _k;exact(_,.next,_,M3,rfl,e3,.inl rfl,(some (.int i),c5,c6,c7,c8,rfl),z9,k1,Rx,U.trans k2,k3.trans q3))
 apply _k;symm
 have x7:=n2;let(x9,M3,e3,(T,A,I,rfl),as,a3,a4,a5,w3,g3,n3):=vz (S:=Jv) (W:=(prog.call (m-1),prog.cls)) (n:=Z.length) rfl
  (ρ:=[sR t,sP K r Z,sI 3,D.vl (yx M.length K),Q,V,O,N,E,sR R.length,none,none,none,none,none,none,none,none,none]) (M:=R++[.lst []]) (M1:=R++[.lst []]) (by simp[Kf,Ig]) (a_ hl ⋯)
  (λj B M'=>(∃T A I:Option D,B=[sR t,sP K r Z,sI 3,some (.vl (yx M.length K)),Q,V,O,N,E,sR R.length,T,A,I,none,none,none,none,none,none]) /\
   ∃as:List (List Nat),M'[R.length]?\(.lst (as.map λJ=>.vl (J.map nD)))/\as.length=j/\(∀(j:Nat)(g:F)(J:Y3),Z[j]?\g->as[j]?\J->Ae Z jf ad j g J)/\Rw Z K M.length ad M'/\Gs t f M.length M M'/\M'.length=R.length+1)
  ((none,none,none,rfl),[],by simp,rfl,by simp,(λi hi=>yd (w2.rs i hi),w2.kd,w2.le,w2.nd,w2.ap),g2.trans (Gs.app g2.has (by lia) _),by simp)
  (λj B M3 hj hI=>by
   symm
   let((T,A,I,rfl),as,q1,U,q3,q4,q5,q6):=hI;have L:Z[j]?=some Z[j]:=by simp[hj]
   let(J,c7,k1):=a8e (m:=m-1) (M:=M3) (r:=r) (r_ hm) P (q5.low _ _ y9 y8 hr) q4 L (a0:=some (.ref t)) (a2:=some (.int 3)) (a4:=Q) (a5:=V) (a6:=O) (a7:=N) (a8:=E) (a9:=some (.ref R.length)) (rest:=[none,none,none,none,none,none]) rfl;have ap:=Ej (d:=.vl (J.map nD)) q1 (by simp;exact c_ (f_ U) (b_ hj (a_ hl ⋯)));have pe:∀B,(Tg.names [11,12]).put (eD Z[j]) B\((B.set 11 (some (.int Z[j].a))).set 12 (some (.int Z[j].b))):=λ_=>rfl
   simp only[zg,z6]at c7;apply _k;refine(_,.next,_,M3.set R.length (.lst ((as.map λJ=>.vl (J.map nD))++[.vl (J.map nD)])),rfl,by simp[Qk,Kf,Tu L,pe,Ed q1,c7,ap],.inl rfl,(some (.int j),some (.int Z[j].a),some (.int Z[j].b),rfl),as++[J],by rw[qj q1];simp,by simp[U],λj' g qk hg Y=>?_,(λi hi=>?_,q4.kd,q4.le,q4.nd,q4.ap),q5.trans (Gs.auj q5.has (Low.set (by lia)) ht (by simp)),by simp[q6])
   .by_cases z:j'<as.length
    .rw[gq z]at Y;exact q3 j' g qk hg Y
    .have ze:j'=j:=by have:=(ao.mp Y).1;simp at this;lia
     subst ze;rw[jk (s_ z),U]at Y;simp at Y;subst Y;rw[L]at hg;cases hg;exact k1
   .rw[j9 (by lia)];exact q4.rs i hi)
 apply _k;symm
 let(M4,e4,yv,zz,n4):=aob (W:=(prog.call (m-1),prog.cls)) (t:=t) (M:=M3) (ρ:=[sR t,sP K r Z,sI 3,D.vl (yx M.length K),Q,V,O,N,E,sR R.length,T,A,I,none,none,none,none,none,none]) rfl rfl w3.rs h3 w3.le (by lia);have g4:Gs t f M.length M M4:=g3.trans (by let(n,h,o):=g3.has;exact(n,zz _ _ h,o),λa o _ _ e=>zz a o e,by lia);have xw:Ac R.length Z (λe=>(rowsOf Z ad e).length) as M4:=(zz _ _ a3,a4,λj g J h1 h2=>((a5 j g J h1 h2).len,(a5 j g J h1 h2).lt));have y6:Cgs Z as Z.length (λe=>List.range (rowsOf Z ad e).length):=λj g J _ h1 h2 x y hx hy e=>by
  have hl:=(a5 j g J h1 h2).len;have ex:(List.range (rowsOf Z ad g.a).length).getD x 0=x:=by simp[<-hl,hx]
  have ey:(List.range (rowsOf Z ad g.a).length).getD y 0=y:=by simp[<-hl,hy]
  simp only[ex,ey]at e;rw[e]
 let(u,M5,e5,l5,s5,n5):=Dw (many:=4) (m:=m-1) (r_ hm) g4.has ⋯ ⋯;let(ρ6,M6,e6,(d5,zk,zv,zu,q7,q8,rfl),ms,H,z5,z3,g6,n6):=vz (S:=Js) (W:=(prog.call (m-1),prog.cls)) (n:=u) rfl
  (ρ:=[sR t,sP K r Z,sI 3,D.vl (yx M.length K),Q,V,O,N,E,sR R.length,T,A,I,sR (M3.length+K),none,none,none,none,none]) (M:=M4) (M1:=M5) (by simp[e5]) (e_ (b_ (o_ l5) ⋯))
  (λ_ B M'=>(∃V T A I qv q0:Option D,B=[sR t,sP K r Z,sI 3,some (.vl (yx M.length K)),Q,V,O,N,E,sR R.length,T,A,I,sR (M3.length+K),qv,q0,none,none,none]) /\
   ∃ms,Mk t (M3.length+K) K (λe=>(rowsOf Z ad e).length) ms M'/\Cgs Z as Z.length ms/\Ac R.length Z (λe=>(rowsOf Z ad e).length) as M'/\Gs t f M.length M M'/\M3.length+K<M'.length)
  ((V,T,A,I,none,none,rfl),_,yv.st s5 (by lia),y6,xw.of λo e=>s5.keep _ _ (by lia) e,g4.trans (Gs.ahi s5),by lia)
  (λi B M6 hi hI=>by
   symm
   let((V,T,A,I,qv,q0,rfl),ms,q1,qc,U,q3,q4):=hI;let(c5,u6,y5,jv,y7,Pj,M7,e7,k1,kc,k2,k3):=a0x (m:=m-1) (r:=r) (p:=M.length) (r_ hm) P q3.has q1 U ht (by lia) q4 (by lia) (by lia) (by lia) w3.le qc (a2:=some (.int 3)) (a3:=some (.vl (yx M.length K))) (b4:=Q) (b5:=V) (b6:=O) (b7:=N) (b8:=E) (b10:=some (.int i)) (Iu:=A) (Vh:=I) (b14:=qv) (b15:=q0) (n16:=none) (n17:=none) (n18:=none);apply _k;exact(_,.next,_,M7,rfl,e7,.inl rfl,(c5,sI i,u6,y5,jv,y7,rfl),Pj,k1,kc,k2,q3.trans k3,by have:=k3.len;exact b_ q4 this))
 apply _k;let(C,e7,qq,z0):=auw (W:=(prog.call (m-1),prog.cls)) (M:=M6) (ρ:=[sR t,sP K r Z,sI 3,D.vl (yx M.length K),Q,d5,O,N,E,sR R.length,zk,zv,zu,sR (M3.length+K),q7,q8,none,none,none]) rfl rfl H h3 w3.le;have zw:∀e,e<K->∃l,C[e]?\l/\l.length<=7/\∀x,x∈l↔x∈ms e:=λe he=>by have z:C[e]?=some C[e]:=bw (b_ he (g_ qq));let(y1,_,y2):=z0 e _ z;have:=w3.le e he;exact(_,z,a_ y1 this,y2)
 symm
 let(x6,M8,e8,(x4,uk,xv,y0,rfl),td,t1,t2,t3,t4,g8,n8):=vz (S:=Jq) (W:=(prog.call (m-1),prog.cls)) (n:=Z.length) rfl
  (ρ:=[sR t,sP K r Z,sI 3,D.vl (yx M.length K),Q,d5,O,N,E,sR R.length,zk,zv,zu,sR (M3.length+K),q7,q8,D.vl (C.map Wn),sR M6.length,none]) (M:=M6++[.lst []]) (M1:=M6++[.lst []]) (by simp[Kf,Ig]) (a_ hl ⋯)
  (λj B M'=>(∃T A I zq:Option D,B=[sR t,sP K r Z,sI 3,some (.vl (yx M.length K)),Q,d5,O,N,E,sR R.length,T,A,I,sR (M3.length+K),q7,q8,some (.vl (C.map Wn)),sR M6.length,zq]) /\
   ∃td:List (List Nat),M'[M6.length]?\(.lst (td.map λJ=>.tup (J.map nD)))/\td.length=j/\(∀(j:Nat)(g:F)(J:Y3),Z[j]?\g->td[j]?\J->J.length=(C.map List.length).getD g.a 0/\∀x∈J,x<(C.map List.length).getD g.b 0)/\(∀(j:Nat)(g:F)(J:Y3),Z[j]?\g->td[j]?\J->∃s la lb,as[j]?\s/\C[g.a]?\la/\C[g.b]?\lb/\J=Rg ms g s la lb)/\vf M6 M'/\M'.length=M6.length+1)
  ((zk,zv,zu,none,rfl),[],by simp,rfl,by simp,by simp,vf.app _ _,by simp)
  (λj B M7 hj hI=>by
   symm
   let((T,A,I,zq,rfl),td,q1,U,q3,qe,q4,q5):=hI;have L:Z[j]?=some Z[j]:=by simp[hj]
   let(sj,ej,_):=z3.get L;have hg:=bf L;let(la,x1,x2,x3):=zw _ (P.Y5 _ hg);let(lb,y1,y2,y3):=zw _ (P.aav _ hg);have y4:=H.frame (M':=M7) (λa o _ _ e=>q4 a o e) (by lia);have u7:=z3.of (M':=M7) λo e=>q4 _ _ e
   let(xk,zs,e9,kz,k1,k2):=aoe (W:=(prog.call (m-1),prog.cls)) (r:=r) y4 u7 (hl:=C) L ej (P.Y5 _ hg) (P.aav _ hg) x1 y1 x3 y3 x2 q1 (by simp;exact c_ (f_ U) (b_ hj (a_ hl ⋯))) (a0:=some (.ref t)) (a2:=some (.int 3)) (a3:=some (.vl (yx M.length K))) (b4:=Q) (b5:=d5) (b6:=O) (b7:=N) (b8:=E) (Iu:=A) (Vh:=I) (b14:=q7) (b15:=q8) (b18:=zq);apply _k;refine(_,.next,_,_,rfl,e9,.inl rfl,(some (.int j),some (.int Z[j].a),some (.int Z[j].b),xk,rfl),td++[zs],by rw[qj q1];simp,by simp[U],λj' g qk X Y=>?_,λj' g qk X Y=>?_,λa o e=>?_,by simp[q5])
   .by_cases z:j'<td.length
    .rw[gq z]at Y;exact q3 j' g qk X Y
    .have ze:j'=j:=by have:=(ao.mp Y).1;simp at this;lia
     subst ze;rw[jk (s_ z),U]at Y;simp at Y;subst Y;rw[L]at X;cases X;have u1:(C.map List.length).getD Z[j'].a 0=la.length:=by simp[bx,x1]
     have u2:(C.map List.length).getD Z[j'].b 0=lb.length:=by simp[bx,y1]
     rw[u1,u2];exact(k1,k2)
   .by_cases z:j'<td.length
    .rw[gq z]at Y;exact qe j' g qk X Y
    .have ze:j'=j:=by have:=(ao.mp Y).1;simp at this;lia
     subst ze;rw[jk (s_ z),U]at Y;simp at Y;subst Y;rw[L]at X;cases X;exact(sj,la,lb,ej,x1,y1,kz)
   .rw[j9 (by have:=vm e;exact i_ this)];exact q4 a o e)
 have c1:Jl.den (prog.call (m-1),prog.cls) [sR t,sP K r Z,sI 3,D.vl (yx M.length K),Q,d5,O,N,E,sR R.length,x4,uk,xv,sR (M3.length+K),q7,q8,D.vl (C.map Wn),sR M6.length,y0] M8=.ok (.vl ((C.map List.length).map nD)) M8:=by
  unfold Jl;rw[Bj (d:=.vl (C.map Wn)) (ds:=C.map Wn) (M1:=M8) (g:=λd=>match d with|.vl l=>.int l.length|_=>.non) (by simp) rfl (by simp;exact a_ (f_ qq) (a_ h3 ⋯)) (λz hz=>by
   let(l,z4,rfl):=bh.mp hz;refine(_,rfl,?_);simp[Wn,p8,Vw])]
  simp[Wn,nD]
 apply _k;refine(C.map List.length,td,M8,?_,(by simp[qq],t2,λx hx=>?_,t3,λj1 j2 g1 g2 z1 z2 h1 h2 eg q1 U x hx=>?_),?_,?_)
 .simp only[zg,z6]at e2
  have u4:J0.den (prog.call (m-1),prog.cls) _ _=_:=e2;have xy:Jv.den (prog.call (m-1),prog.cls) _ _=_:=e3;have jj:Js.den (prog.call (m-1),prog.cls) _ _=_:=e6;have yk:Jq.den (prog.call (m-1),prog.cls) _ _=_:=e8;have yy:O2.den (prog.call (m-1),prog.cls) _ _=_:=r0;simp[-List.map_map,Fn.run,U0,Uz,yy,u4,MW.new,xy,e4,jj,e7,yk,c1,J9,p8,Fw (ju t1),cu]
 .symm
  let(l,z4,rfl):=bh.mp hx;let(i,hi,rfl):=qg z4;let(l2,y1,y2,_):=zw i (b_ hi (f_ qq));rw[bw hi]at y1;cases y1;apply _k;exact y2
 .symm
  let(s1,la,lb,i1,i2,i3,rfl):=t4 _ _ _ h1 q1;let(s2,x8,lc,i4,i5,i6,rfl):=t4 _ _ _ h2 U;rw[<-eg,i3]at i5;cases i5;have uu:x<la.length:=by simpa[Rg]using hx
  apply _k;rcases func P w3.nd H.len H.lt H.fx z5 a5 (λe l he=>(z0 e l he).2) h1 h2 eg i1 i4 i2 i3 i6 uu with⟨e1,e2⟩|⟨j3,e1,e2,e3⟩
  .rw[e2,Dj,dm e1]
  .symm
   have l3:=(ao.mp e2).1;have u3:td[j3]?=some td[j3]:=bw (b_ l3 (g_ t2));let(s3,la',lc',i7,i8,i9,uj):=t4 _ _ _ e2 u3;have i8:C[g1.a]?\la':=i8;have i9:C[g2.b]?\lc':=i9;rw[i2]at i8;cases i8;rw[i6]at i9;cases i9;have nj:¬((j3:Int)=-1):=by lia
   apply _k;rw[e3 _ i7,<-uj,Dj,e1,cz nj];simp[bx,u3]
 .refine gen P w3.nd w3.ap (by have:=afr w3.nd (n:=v) (λx hx=>by let(q,hq,rfl):=bh.mp hx;exact Xw q hq);rw[du]at this;lia) w3.kd H.len H.lt H.fx z5 a5 a4 qq (λe l he=>(z0 e l he).2) t2 t4
 .have:Gs t f M.length M M8:=g6.trans (by let(n,h,o):=g6.has;exact(n,g8 _ _ h,o),λa o _ _ e=>g8 a o e,by lia)
  exact this.st
def wg(l:Y3):D:=.tup (l.map nD)
def Xl(s:Y3)(a:List (List Nat))(M:fc):Bx (cu s a) (.int 0) M\(wg s):=rfl
def al0(s:Y3)(a:List (List Nat))(M:fc):Bx (cu s a) (.int 1) M\(.tup (a.map wg)):=rfl
def aaf{l:Y3}(h:i<l.length):Bx (wg l) (.int i) M\(.int (l.getD i 0)):=Jf q_ (by simp[h,nD])
def a2v{a:List (List Nat)}{j:Nat}(h:a[j]?\Z):Bx (.tup (a.map wg)) (.int j) M\(wg Z):=Jf q_ (by simp[h])
def aag(Y:List F)(k:Nat):Br Y k (.int (-1))=k:=by simp[Br]
def ahm(P:Gq sz K Z U)(T:.int x∈ud Z k)(Y:.int y∈ud Z (Br Z k (.int x))) :
 ∃v:Int,bothW Z U x y\(.int v)/\.int v∈ud Z k/\Br Z k (.int v)=Br Z (Br Z k (.int x)) (.int y):=by
 rcases Df T with q|⟨i,f,q,hf,ef⟩
 .cases q
  rw[aag]at Y⊢;exact(y,by simp[bothW],Y,rfl)
 .cases q
  rw[Dy hf]at Y⊢;have N:¬((i:Int)=-1):=by lia
  rcases Df Y with q|⟨j,g,q,hg,eg⟩
  .cases q
   exact(i,by simp[bothW,N],T,by rw[Dy hf,aag])
  .cases q
   have C:.int (i:Int)∈wT Z k g.a:=je.mpr (T,by simp[Dy hf,eg]);let(L,z,_,B,J):=alo P hg C;cases z;let(G,O):=Uh J;exact(_,B,G,by rw[O,Dy hg])
def Pu.act(w:Pu K hs El U){i:Nat}(G:hs[i]?\g):∃Z,U[i]?\Z/\(∀th,Dj U th i=Z.getD th 0)/\Z.length=El.getD g.a 0/\∀x∈Z,x<El.getD g.b 0:=by
 have Y:=(ao.mp G).1;have T:U[i]?\(U[i]'(by rw[w.la];exact Y)):=bw _;generalize U[i]'(by rw[w.la];exact Y)=Z at T;have J:¬((i:Int)=-1):=by lia
 exact(Z,T,λth=>by simp[Dj,J,bx,T],w.ok i g Z G T)
def Wq(Y:List (List Nat))(th:Nat):Dj Y th (-1)=th:=by simp[Dj]
def ajo(w:Pu K U Z Fb)(G:.int x∈ud U k)(Y:th<Z.getD k 0):Dj Fb th x<Z.getD (Br U k (.int x)) 0:=by
 rcases Df G with q|⟨i,f,q,hf,ef⟩
 .cases q;rw[Wq,aag];exact Y
 .cases q
  let(C,O,J,T,B):=w.act hf;rw[J,Dy hf];exact B _ (getD_mem' (by rw[T,ef];exact Y))
def aeu(P:Gq sz K Z jf)(w:Pu K Z El U)(Q:.int x∈ud Z k)(B:.int y∈ud Z (Br Z k (.int x)))(Y:bothW Z jf x y\(.int v))(G:th<El.getD k 0):Dj U (Dj U th x) y=Dj U th v:=by
 rcases Df Q with q|⟨i,f,q,hf,ef⟩
 .cases q
  have:v=y:=by simpa[bothW]using Y.symm
  rw[Wq,this]
 .cases q
  have J:¬((i:Int)=-1):=by lia
  rw[Dy hf]at B;rcases Df B with q|⟨j,g,q,hg,eg⟩
  .cases q
   have:v=i:=by simpa[bothW,J]using Y.symm
   rw[Wq,this]
  .cases q
   have R:¬((j:Int)=-1):=by lia
   rw[bothW,cz J,cz R]at Y;have:=P.look hf hg eg.symm;have T:v=ent Z f g:=by have:=Y.symm.trans this;simpa using this
   let(H,C,O,L,_):=w.act hf;let(S,E,N,V,_):=w.act hg;rw[O,N,T];exact w.fu i j f g H S hf hg eg.symm C E th (by rw[L,ef];exact G)
def au3(N:1<=m)(w:Pu K hs U Fb)(B:.int x∈ud hs k)(Y:Z<U.getD k 0):prog.call m 28 [cu U Fb,.int Z,.int x] M=.ok (.int (Dj Fb Z x)) M:=by
 rw[call_of N rfl];rcases Df B with q|⟨i,g,q,hg,rfl⟩
 .cases q
  rw[Wq];simp[Fn.run,T8,T7]
 .cases q
  let(G,C,O,J,_):=w.act hg;rw[O];have T:=aaf (M:=M) (l:=G) (i:=Z) (b_ Y (g_ J));have L:¬((i:Int)<0):=by lia
  generalize G.getD Z 0=y at T;simp[Fn.run,T8,T7,L,al0,a2v C,T]
section
variable{W:Kg}{ρ:Env}{M:fc}{t:Tg}{it:Sq}{ds:List D}
def Oi{g:Nat->D}(G:it.den W ρ M=.ok (.con ds) M)(C:ds.length<=100000)(h:∀(i:Nat) d,ds[i]?\d->∃Z,t.put d (ρ++List.replicate k none)\Z/\e.den W Z M=.ok (g i) M) :
 (Ex.comp true k t it e).den W ρ M=.ok (.vl ((List.range ds.length).map g)) M:=by
 rw[Je,G];let(E,Y,O,N,rfl):=J8 (fin:=(Src.con ds).fin) (item:=(Src.con ds).item) (body:=λd M=>(Res.wy (t.put d (ρ++List.replicate k none)) M).bind λT M=>(e.den W T M).bind λx Y=>.ok (some x) Y) (λi B Y=>B=(List.range i).map g/\Y=M) (n:=ds.length) (λi B Y J L=>by
  let(rfl,rfl):=L;let(Z,a,b):=h i ds[i] (by simp[J]);exact(_,some (g i),Y,by simp[Src.item,J];rfl,by rw[a];simp[b],by simp[qi],rfl)) (λ_ _ _=>rfl) ds.length 0 [] M (u0 _) (rfl,rfl)
 show(Bb (.con ds) _ Y).bind _=_;rw[Bb,show(Src.con ds).len=ds.length from rfl,dm C,O,<-N];rfl
def a02{e:Ex}{n:Nat}(h:e.den W ρ M=.ok (.int (n:Nat)) M)(Y:n<=100000):(Sq.Xn e).den W ρ M=.ok (.con ((List.range n).map nD)) M:=by rw[Rj,h,Res.yc];show(if(n:Int).natAbs<=100000 then _ else _)=_;rw[dm (by lia)];rfl
def Jc{J:Ex}{n:Nat}{g:Nat->D}(Y:J.den W ρ M=.ok (.int (n:Int)) M)(B:n<=100000)(h:∀i,i<n->∃Z,t.put (.int i) (ρ++List.replicate k none)\Z/\e.den W Z M=.ok (g i) M) :
 (Ex.comp true k t (.Xn J) e).den W ρ M=.ok (.vl ((List.range n).map g)) M:=by
 have:=Oi (t:=t) (k:=k) (e:=e) (g:=g) (a02 Y B) (by simpa using B) λi d T=>by
  have G:i<n:=by simpa using(ao.mp T).1
  rw[ir,u9 G]at T;cases T;exact h i G
 simpa using this
end
def aev{Y:Type}{l:List Y}{i:Nat}(h:i<l.length):∃x,l[i]?\x:=(l[i],by simp[h])
def a03{Y:Type}{l:List Y}{i:Nat}{x d:Y}(h:l[i]?\x):l.getD i d=x:=by simp[bx,h]
def Pu.s7(w:Pu K Z s a)(k:Nat):s.getD k 0<=7:=by
 rw[bx];cases e:s[k]? with
 |none=>exact jd _|some x=>exact w.sm x (bf e)
noncomputable abbrev Pl:=Nat×Nat
def wI(Y:List F)(k:Nat):List Int:=-1::((List.range Y.length).filter (Ke Y k)).map λ(i:Nat)=>(i:Int)
def Vj(Y:List F)(k:Nat):ud Y k=(wI Y k).map .int:=by simp[ud,wI];exact λ_ _ _=>rfl
def Dz:w∈wI Z k↔.int w∈ud Z k:=by rw[Vj];simp
abbrev Vo(hs:List F)(Fb:List (List Nat))(p:Pl)(w:Int):Pl:=(Br hs p.1 (.int w),Dj Fb p.2 w)
def Rv(P:Gq sz K Z U)(w:Pu K Z s a):Plc Pl where
 V p:=p.1<K/\p.2<s.getD p.1 0
 W p:=wI Z p.1
 mv:=Vo Z a
 st p:=(by simp[wI],by simp[Vo,aag,Wq])
 cl h hw:=(X8 P h.1 (Dz.mp hw),ajo w (Dz.mp hw) h.2)
 tw {p x y} h hx hy:=by let(v,G,T,Y):=ahm P (Dz.mp hx) (Dz.mp hy);exact(v,Dz.mpr T,by simp only[Vo];rw[Y,aeu P w (Dz.mp hx) (Dz.mp hy) G h.2])
def au4(Y:1<=m)(T:.int w∈ud Z k):prog.call m 19 [uq K r Z,.int k,.int w] M=.ok (.int (Br Z k (.int w))) M:=by
 rcases Df T with q|⟨i,f,q,hf,_⟩
 .cases q
  rw[call_of Y rfl,aag];simp[Fn.run,Nu,Nt]
 .cases q
  rw[Dy hf];exact aln Y hf
abbrev KV:=List (List Kx×D)
def val(Y:KV)(q:Pl):Option D:=Ag Y (ky q.1 q.2)
def a04(Y:KV)(p q:Pl)(v:D):val (Eh Y (ky p.1 p.2) v) q=if q=p then some v else val Y q:=by
 rw[val,ahk]
 by_cases h:q=p
 .rw[h,dm rfl,dm rfl]
 .rw[cz h,cz λe=>h (by let(a,b):=adn e;exact Prod.ext a b)];rfl
def a8m{T:KV}(h:Vv T=true)(J:j<9)(B:k<9):Vv (Eh T (ky j k) v)=true:=by
 unfold Vv at h⊢;rw[jg]at h⊢;intro p Y;have:p.1=ky j k\/∃q∈T,q.1=p.1:=by
  unfold Eh at Y;split at Y
  .let(q,G,e):=bh.mp Y
   exact .inr (q,G,by rw[<-e];split<;>rfl)
  .rcases dz.mp Y with z|z
   .exact .inr (p,z,rfl)
   .rw[ig.mp z];exact .inl rfl
 rcases this with e|⟨q,G,e⟩
 .rw[e];simp[ky];lia
 .rw[<-e];exact h q G
structure Alg(ws:Xs)(hs:List F)(a1 a2:List (List Nat))(p:Pl)(g:Nat)(kv Ly:KV):Prop where
 new:∀w∈ws,val Ly (Vo hs a1 p w)\(nD (Dj a2 g w))
 old:∀q v,val kv q\v->val Ly q\v
 no:∀q v,val Ly q\v->val kv q\v\/∃w∈ws,q=Vo hs a1 p w
 sm:Vv Ly=true
 len:Ly.length<=kv.length+ws.length
def Alg.put(h:Alg ws Z a1 a2 p g kv U)(B:val U (Vo Z a1 p w)=none\/val U (Vo Z a1 p w)\(nD (Dj a2 g w)))(O:(Vo Z a1 p w).1<9)(J:(Vo Z a1 p w).2<9):Alg (ws++[w]) Z a1 a2 p g kv (Eh U (ky (Vo Z a1 p w).1 (Vo Z a1 p w).2) (nD (Dj a2 g w))):=by
 have T:=λq=>a04 U (Vo Z a1 p w) q (nD (Dj a2 g w))
 refine(λu G=>?_,λq v Y=>?_,λq v Y=>?_,a8m h.sm O J,?_)
 .rw[T]
  rcases dz.mp G with z|z
  .have c:=h.new u z
   by_cases e:Vo Z a1 p u=Vo Z a1 p w
   .rw[dm e]
    rw[e]at c;rcases B with d|d
    .rw[d]at c;cases c
    .rw[<-d];exact c
   .rw[cz e];exact c
  .rw[ig.mp z,dm rfl]
 .rw[T]
  have c:=h.old q v Y
  by_cases e:q=Vo Z a1 p w
  .rw[dm e]
   rw[e]at c;rcases B with d|d
   .rw[d]at c;cases c
   .rw[<-d];exact c
  .rw[cz e];exact c
 .rw[T]at Y
  by_cases e:q=Vo Z a1 p w
  .exact .inr (w,by simp,e)
  .rw[cz e]at Y
   rcases h.no q v Y with z|⟨u,G,z⟩
   .exact .inl z
   .exact .inr (u,qu _ G,z)
 .have O:=alu U (ky (Vo Z a1 p w).1 (Vo Z a1 p w).2) (nD (Dj a2 g w))
  have J:=h.len;rw[jw];simp;lia
def a8n(h:M[n]?\(.dT Z))(Y:Ry b\k):Lb .get (.ref n) [b,d] M=.ok ((Ag Z k).getD d) M:=by simp[Lb,ap7,h,Y]
def al1(h:M[n]?\(.dT Z)):Pq .get (.ref n) M=true:=by simp[Pq,h]
noncomputable abbrev Ff(p:Pl):D:=.tup [.int p.1,.int p.2]
abbrev EA(pt w1 w2:D)(n:Nat)(p:Pl)(g:Nat)(b6 b7 b8 b9:Option D):Env:=[some pt,some w1,some w2,sR n,some (Ff p),sI g,b6,b7,b8,b9]
def au5(E:2<=m)(P:Gq sz K Z jf)(V:Pu K Z s1 a1)(w2:Pu K Z s2 a2)(hk:p.1<K)(hx:p.2<s1.getD p.1 0)(hg:g<s2.getD p.1 0)(hn:M[n]?\(.dT kv))(C:Vv kv=true)(hl:kv.length<=1000)(hv:∀q v,val kv q\v->∃y,v=nD y) :
 ∃d U,prog.call m 29 [uq K r Z,cu s1 a1,cu s2 a2,.ref n,Ff p,.int g] M=.ok d U/\vf M U/\(d=.non\/∃Ly,d=.ref M.length/\U[M.length]?\(.dT Ly)/\Alg (wI Z p.1) Z a1 a2 p g kv Ly):=by
 rw[call_of (a_ ⋯ E) rfl];have L:=P.len;have h3:=P.k3;have wl:(ud Z p.1).length=(wI Z p.1).length:=by rw[Vj,du]
 have go:=axf (S:=Ge) (W:=PW (m-1)) (ρ:=EA (uq K r Z) (cu s1 a1) (cu s2 a2) n p g (sR M.length) none none none) (M:=M++[.dT kv]) (M1:=M++[.dT kv]) (s:=.con (ud Z p.1)) (n:=(wI Z p.1).length) rfl
  (by simp[ahf (m:=m-1) (r_ E) L,srcOf]) wl
  (λi R U=>(∃N T B,R=EA (uq K r Z) (cu s1 a1) (cu s2 a2) n p g (sR M.length) N T B)/\vf M U/\∃Ly,U[M.length]?\(.dT Ly)/\Alg ((wI Z p.1).take i) Z a1 a2 p g kv Ly)
  (λd U=>d=.non/\vf M U) ((none,none,none,rfl),vf.app _ _,kv,Dt,by simp,λ_ _ h=>h,λ_ _ h=>.inl h,C,x_) (λ_ _ _=>rfl)
  (λi R U hi hI=>by
   symm
   let((N,T,B,rfl),O,Ly,J,G):=hI;let(w,Q):=aev hi;have Y:.int w∈ud Z p.1:=Dz.mp (bf Q);have X:=au4 (m:=m-1) (K:=K) (r:=r) (M:=U) (r_ E) Y;have e2:=au3 (m:=m-1) (M:=U) (r_ E) V Y hx;have I:=au3 (m:=m-1) (M:=U) (r_ E) w2 Y hg;have k1:=X8 P hk Y;have k2:=ajo V Y hx;have k3:=V.s7 (Br Z p.1 (.int w));have kt:Ry (.tup [.int (Br Z p.1 (.int w)),.int (Dj a1 p.2 w)])\(ky (Br Z p.1 (.int w)) (Dj a1 p.2 w)):=rfl;apply _k;have tk:(wI Z p.1).take (i+1)=(wI Z p.1).take i++[w]:=by rw[yp,Q];rfl
   have H:=a8n (d:=.int (Dj a2 g w)) J kt;have len:=G.len;have qk:((wI Z p.1).take i).length<=6:=a_ (Bs i _) (by rw[<-wl];exact Vg L)
   have st:=aqj (d:=.int (Dj a2 g w)) J kt (by lia);refine(.int w,EA (uq K r Z) (cu s1 a1) (cu s2 a2) n p g (sR M.length) (some (.int w)) T B,by simp[Src.item,Vj,Q],rfl,?_);have ok:∀y:Nat,(Ag Ly (ky (Br Z p.1 (.int w)) (Dj a1 p.2 w))).getD (.int (Dj a2 g w))=.int y->(y=Dj a2 g w->val Ly (Vo Z a1 p w)=none\/val Ly (Vo Z a1 p w)\(nD (Dj a2 g w)))->Goes (λi R U=>(∃N T B,R=EA (uq K r Z) (cu s1 a1) (cu s2 a2) n p g (sR M.length) N T B)/\vf M U/\∃Ly,U[M.length]?\(.dT Ly)/\Alg ((wI Z p.1).take i) Z a1 a2 p g kv Ly) (λd U=>d=.non/\vf M U) (i+1) (Gd.den (PW (m-1)) (EA (uq K r Z) (cu s1 a1) (cu s2 a2) n p g (sR M.length) (some (.int w)) T B) U):=λy hy hc=>by
    rw[hy]at H
    by_cases z:y=Dj a2 g w
    .have pu:=G.put (w:=w) (hc z) (show Br Z p.1 (.int w)<9 by lia) (show Dj a1 p.2 w<9 by lia)
     refine(.next,EA (uq K r Z) (cu s1 a1) (cu s2 a2) n p g (sR M.length) (some (.int w)) (some (Ff (Vo Z a1 p w))) (sI (Dj a2 g w)),_,?_,.inl (rfl,(_,_,_,rfl),λa o D=>?_,_,qj J,by rw[tk];exact pu))
     .simp[Gd,X,e2,I,al1 J,H,st,z];rfl
     .rw[j9 (i_ (vm D))];exact O a o D
    .have z':¬((y:Int)=(Dj a2 g w:Int)):=λe=>z (D_ e)
     exact(.ret .non,EA (uq K r Z) (cu s1 a1) (cu s2 a2) n p g (sR M.length) (some (.int w)) (some (Ff (Vo Z a1 p w))) (sI (Dj a2 g w)),U,by simp[Gd,X,e2,I,al1 J,H,z'],.inr (_,rfl,rfl,O))
   cases e:val Ly (Vo Z a1 p w)with
   |none =>
    have F:Ag Ly (ky (Br Z p.1 (.int w)) (Dj a1 p.2 w))=none:=e;exact ok (Dj a2 g w) (by rw[F];rfl) λ_=>.inl e
   |some v =>
    have F:Ag Ly (ky (Br Z p.1 (.int w)) (Dj a1 p.2 w))\v:=e;obtain⟨y,rfl⟩:∃y,v=nD y:=by
     rcases G.no _ _ e with z|⟨u,hu,z⟩
     .exact hv _ _ z
     .rw[z,G.new u hu]at e;cases e;exact(_,rfl)
    exact ok y (by rw[F];rfl) λz=>.inr (by rw[e,z]))
 have A:p8 .dict [.ref n] M=.ok (.ref M.length) (M++[.dT kv]):=by simp[p8,hn,C,MW.new]
 obtain⟨fl,qq,U,e,⟨rfl,⟨N,T,B,rfl⟩,O,Ly,J,G⟩|⟨v,rfl,rfl,O⟩⟩:=go
 .have e:Ge.den _ _ _=_:=e
  rw[yh]at G;exact(_,U,by simp[Fn.run,Ny,Nx,A,e],O,.inr (Ly,rfl,J,G))
 .have e:Ge.den _ _ _=_:=e
  exact(_,U,by simp[Fn.run,Ny,Nx,A,e],O,.inl rfl)
def Ik(T:it.den W ρ M=.ok d M1)(O:gr M1 d\U)(B:U.length<=100000)(h:∀x∈U,∃Z,t.put x (ρ++List.replicate k none)\Z/\c.den W Z M1=.ok (.bl (q x)) M1/\e.den W Z M1=.ok x M1) :
 (Ex.Ep true k t (.val it) c e).den W ρ M=.ok (.vl (U.filter q)) M1:=by
 rw[Qt,Ku,T];let(s,P,G):=Qs (g:=λx=>if q x then some x else none) (body:=λd M=>(Res.wy (t.put d (ρ++List.replicate k none)) M).bind λY M=>(c.den W Y M).bind λb C =>
  match b with
   |.bl true=>(e.den W Y C).bind λx J=>.ok (some x) J
   |.bl false=>.ok none C|_=>.bad) O B (λx E=>by
  let(Z,a,b,c):=h x E;rw[a,Res.Di,Res.yc,b,Res.yc];cases e:q x with
  | true=>simp[c]|false=>simp)
 have:U.filterMap (λx=>if q x then some x else none)=U.filter q:=by
  clear O B h G
  induction U with
  |nil=>rfl|cons a l L=>cases e:q a<;>simp[e,L]
 rw[this]at G;rw[Res.yc,P,Res.Di,Res.yc];exact t7 (λr:Res (List D)=>r.bind λU N=>if true=true then .ok (.vl U) N else new (.lst U) N) G
def bep(p q:Pl):Ah M (Ff p) (Ff q)\(decide (p=q)):=by
 show Ul (K9 M 5) [.int p.1,.int p.2] [.int q.1,.int q.2]=_;rw[Es (x:=decide (p.1=q.1)) (y:=decide (p.2=q.2)) (by rw[Xz];simp[z8]) (by rw[Es (x:=decide (p.2=q.2)) (y:=true) (by rw[Xz];simp[z8]) rfl,Bool.and_true])]
 by_cases h:p=q
 .simp[h]
 .simp[h];intro Y T;exact h (Prod.ext Y T)
def a8p(p:Pl)(Y:List Pl):memD M (Ff p) (Y.map Ff)\(decide (p∈Y)):=by
 have:Rz M (Ff p) (Y.map Ff)\(Y.map λq=>decide (q=p)):=by
  induction Y with
  |nil=>rfl|cons q Y J=>simp[Rz,bep,J]
 rw[memD,this];simp only[xd,List.any_map,Af];rw[Cq,Ao,gf];exact(λ(x,T,G)=>by rw[<-km G];exact T,λh=>(p,h,wu rfl))
def aew(h:M[n]?\(.lst Z))(Y:Z.length+ys.length<100000):Lb .extend (.ref n) [.vl ys] M=.ok .non (M.set n (.lst (Z++ys))):=by simp[Lb,onL,h,Y]
def ajp(h:M[n]?\(.lst Z)):Pq .extend (.ref n) M=true:=by simp[Pq,gr,h]
def au6(G:List F)(a:List (List Nat))(k:Nat)(T:List Pl):Prop:=T.length<=7*k/\∀q,q∈T↔∃(j:Nat)(g:F)(Y:Y3),j<k/\G[j]?\g/\a[j]?\Y/\q.1=g.b/\q.2∈Y
def al2(s:Y3)(k:Nat)(Y:List Pl):Prop:=Y.length<=7*k/\∀q,q∈Y↔q.1<k/\q.2<s.getD q.1 0
abbrev EPl(pt w:D)(b2 b3 b4 b5:Option D):Env:=[some pt,some w,b2,b3,b4,b5]
def a05(P:Gq sz K Z jf)(w:Pu K Z s a):∃U M',Ib.den W (EPl (uq K r Z) (cu s a) (sR M.length) none none none) (M++[.lst []])=.ok (.next,U) M' /\
 (∃b3,U=EPl (uq K r Z) (cu s a) (sR M.length) b3 none none)/\vf M M'/\∃ps,M'[M.length]?\(.lst (ps.map Ff))/\au6 Z a Z.length ps:=by
 have E:=P.len;refine vz (S:=Ib) (W:=W) (n:=Z.length) (M1:=M++[.lst []]) rfl (by simp[Kf,Ig]) (a_ E ⋯)
  (λj U M'=>(∃b3,U=EPl (uq K r Z) (cu s a) (sR M.length) b3 none none)/\vf M M'/\∃ps,M'[M.length]?\(.lst (ps.map Ff))/\au6 Z a j ps)
  ((none,rfl),vf.app _ _,[],Dt,by simp,λq=>(λh=>absurd h (by simp),λ(_,_,_,h,_)=>absurd h (su _))) (λj ρ M1 F I=>?_)
 symm
 let((b3,rfl),X,ps,N,h2,A):=I;let(g,O):=aev F;let(T,Q,_,jl,_):=w.act O;have l7:=w.s7 g.a;have c:Ia.den W (EPl (uq K r Z) (cu s a) (sR M.length) (sI j) none none) M1=.ok (.vl ((T.map λy=>(g.b,y)).map Ff)) M1:=by
  unfold Ia;rw[Nz (ds:=T.map nD) (M1:=M1) (g:=λd=>.tup [.int g.b,d]) (by simp[al0,a2v Q];rfl) (by simp;lia) (λx hx=>(_,rfl,by simp[Kf,Tu O,Y7]))]
  simp;exact λ_ _=>rfl
 have e:=aew N (ys:=(T.map λy=>(g.b,y)).map Ff) (by simp;lia);apply _k;refine(EPl (uq K r Z) (cu s a) (sR M.length) (sI j) none none,.next,_,M1.set M.length (.lst (ps.map Ff++(T.map λy=>(g.b,y)).map Ff)),rfl,by simp[-List.map_map,O6,ajp N,c,e];rfl,.inl rfl,(_,rfl),λb o H=>?_,ps++T.map (λy=>(g.b,y)),?_,?_,λq=>?_)
 .rw[j9 (i_ (vm H))];exact X b o H
 .rw[qj N,jc]
 .simp;lia
 .rw[dz,A]
  constructor
  .rintro(⟨L,C,Y,R,G,J,B⟩|h)
   .exact(L,C,Y,kh R,G,J,B)
   .let(y,D,rfl):=bh.mp h
    exact(j,g,T,jy j,O,Q,rfl,D)
  .rintro⟨L,C,Y,R,G,J,B,V⟩
   rcases Nat.lt_or_eq_of_le (Ad R)with z|z
   .exact .inl (L,C,Y,z,G,J,B,V)
   .subst z
    rw[O]at G;cases G;rw[Q]at J;cases J;exact .inr (bh.mpr (q.2,V,by rw[<-B]))
def au7(P:Gq sz K hs jf)(w:Pu K hs s a):∃Z U,Hz.den W (EPl (uq K r hs) (cu s a) (sR e2) b3 (sR M.length) none) (M++[.lst []])=.ok (.next,Z) U /\
 (∃b5,Z=EPl (uq K r hs) (cu s a) (sR e2) b3 (sR M.length) b5)/\vf M U/\∃ps,U[M.length]?\(.lst (ps.map Ff))/\al2 s K ps:=by
 have k3:=P.k3;refine vz (S:=Hz) (W:=W) (n:=K) (M:=M++[.lst []]) (M1:=M++[.lst []]) rfl (by simp[Rf]) (a_ k3 ⋯)
  (λj Z U=>(∃b5,Z=EPl (uq K r hs) (cu s a) (sR e2) b3 (sR M.length) b5)/\vf M U/\∃ps,U[M.length]?\(.lst (ps.map Ff))/\al2 s j ps)
  ((none,rfl),vf.app _ _,[],Dt,by simp,λq=>(λh=>absurd h (by simp),λh=>absurd h.1 (su _))) (λj H M1 O N=>?_)
 symm
 let((b5,rfl),R,ps,T,Q,C):=N;have L:=w.s7 j;have B:=aaf (M:=M1) (l:=s) (i:=j) (by rw[w.ls];exact O);generalize hz:s.getD j 0=z at L B;have c:Hy.den W (EPl (uq K r hs) (cu s a) (sR e2) b3 (sR M.length) (sI j)) M1=.ok (.vl (((List.range z).map λy=>(j,y)).map Ff)) M1:=by unfold Hy;rw[Jc (n:=z) (g:=λy=>Ff (j,y)) (by simp[Xl,B]) (by lia) (λx V=>(_,rfl,by simp))];simp
 have e:=aew T (ys:=((List.range z).map λy=>(j,y)).map Ff) (by simp;lia);apply _k;refine(EPl (uq K r hs) (cu s a) (sR e2) b3 (sR M.length) (sI j),.next,_,M1.set M.length (.lst (ps.map Ff++((List.range z).map λy=>(j,y)).map Ff)),rfl,by simp[-List.map_map,O5,ajp T,c,e];rfl,.inl rfl,(_,rfl),λb o J=>?_,ps++(List.range z).map (λy=>(j,y)),?_,?_,λq=>?_)
 .rw[j9 (i_ (vm J))];exact R b o J
 .rw[qj T,jc]
 .simp;lia
 .rw[dz,C]
  constructor
  .rintro(⟨G,Y⟩|h)
   .exact(kh G,Y)
   .let(y,E,rfl):=bh.mp h
    exact(jy j,by rw[hz];exact jh.mp E)
  .rintro⟨G,Y⟩
   rcases Nat.lt_or_eq_of_le (Ad G)with y|y
   .exact .inl (y,Y)
   .exact .inr (bh.mpr (q.2,jh.mpr (by rw[<-hz,<-y];exact Y),by rw[<-y]))
def aog(hm:1<=m)(P:Gq sz K Z jf)(w:Pu K Z s a):∃(N E:List Pl)(D:fc),prog.call m 30 [uq K r Z,cu s a] M=.ok (.vl ((N++E).map Ff)) D/\vf M D/\(∀p∈N,(Rv P w).V p/\¬(Rv P w).End p)/\(∀q,(Rv P w).V q->¬(Rv P w).End q->q∈N)/\(∀q,q∈N++E↔(Rv P w).V q)/\(N++E).length<=42:=by
 rw[call_of hm rfl];symm
 let(qq,B,e1,(L,rfl),k1,Y,h1,n1,m1):=a05 (W:=PW (m-1)) (M:=M) (r:=r) P w;let(qv,M2,e2,(U,rfl),k2,T,I,n2,G):=au7 (W:=PW (m-1)) (M:=B) (r:=r) (e2:=M.length) (b3:=L) P w;have k3:=P.k3;have he:M2[M.length]?\(.lst (Y.map Ff)):=k2 _ _ h1;have en:∀q,q∈Y↔(Rv P w).End q:=λq=>by
  rw[m1];constructor
  .rintro⟨j,g,H,_,R,hj,A,F⟩
   symm
   let(qk,e,Q,S,_):=w.act R;rw[hj]at e;cases e;let(x,J,e):=qg F;apply _k;refine((g.a,x),(P.Y5 g (bf R),by rw[<-S];exact J),j,Dz.mpr (Uh (auc R rfl)).1,by lia,Prod.ext ?_ ?_)
   .show q.1=Br Z g.a (.int j)
    rw[Dy R,A]
   .show q.2=Dj a x j
    rw[Q,bx,bw J,e];rfl
  .rintro⟨x,⟨v1,v2⟩,k,hk,nk,rfl⟩
   rcases Df (Dz.mp hk)with z|⟨i,f,z,hf,ef⟩
   .cases z;exact absurd rfl nk
   .cases z
    let(H,e,Q,S,_):=w.act hf;refine(i,f,H,(ao.mp hf).1,hf,e,Dy (k:=x.1) hf,?_);show Dj a x.2 i∈H;rw[Q];exact getD_mem' (by rw[S,ef];exact v2)
 have mo:∀p,T6 M2 (Ff p) (.ref M.length)\(decide (p∈Y)):=λp=>by simp only[T6,he,Dk,gr,uw];exact a8p p Y
 have X:∀q:Pl->Bool,(T.map Ff).filter (λd=>match d with|.tup [.int i,.int j]=>q (i.toNat,j.toNat)|_=>false)=(T.filter q).map Ff:=λq=>by rw[List.filter_map];rfl
 apply _k;have O:(T.map Ff).length<=100000:=by simp;lia
 have c1:O3.den (PW (m-1)) (EPl (uq K r Z) (cu s a) (sR M.length) L (sR B.length) U) M2=.ok (.vl ((T.filter λp=>!decide (p∈Y)).map Ff)) M2:=by rw[<-X];exact Ik (d:=.ref B.length) (by simp) (ju I) O λx J=>by let(p,_,rfl):=bh.mp J;exact(_,rfl,by simp[mo],by simp)
 have c2:O4.den (PW (m-1)) (EPl (uq K r Z) (cu s a) (sR M.length) L (sR B.length) U) M2=.ok (.vl ((T.filter λp=>decide (p∈Y)).map Ff)) M2:=by rw[<-X];exact Ik (d:=.ref B.length) (by simp) (ju I) O λx J=>by let(p,_,rfl):=bh.mp J;exact(_,rfl,by simp[mo],by simp)
 have Q:=qy (λp=>!decide (p∈Y)) T;have S:=qy (λp=>decide (p∈Y)) T;refine(T.filter λp=>!decide (p∈Y),T.filter λp=>decide (p∈Y),M2,?_,k1.trans k2,λp hp=>?_,λq C ne=>?_,λq=>?_,by rw[jw];lia)
 .have ad:=Vz (M:=M2) ((T.filter λp=>!decide (p∈Y)).map Ff) ((T.filter λp=>decide (p∈Y)).map Ff) (by simp only[du];lia)
  simp[-List.map_append,Fn.run,Te,Td,MW.new,e1,e2,c1,c2,ad];rw[jc]
 .let(A,F):=je.mp hp
  exact((G p).mp A,λz=>by simp[(en p).mpr z]at F)
 .exact je.mpr ((G q).mpr C,by simp[(en q),ne])
 .rw[dz,je,je]
  constructor
  .rintro(z|z)
   .exact(G q).mp z.1
   .exact(G q).mp z.1
  .intro C
   by_cases z:q∈Y
   .exact .inr ((G q).mpr C,by simp[z])
   .exact .inl ((G q).mpr C,by simp[z])
structure Pm(S:Plc Pl)(a2:List (List Nat))(s2:Y3)(l:List Pl)(kv:KV):Prop where
 dom:∀q,(∃v,val kv q\v)↔S.Dm l q
 num:∀q v,val kv q\v->∃y,v=nD y/\y<s2.getD q.1 0
 ev:∀q y,val kv q\(nD y)->∀w∈S.W q,val kv (S.mv q w)\(nD (Dj a2 y w))
 sm:Vv kv=true
 le:kv.length<=6*l.length
def Dif(T G:KV):Prop:=∃q v Y,val T q\v/\val G q\Y/\v≠Y
def Ext(Y T:KV):Prop:=∀q v,val Y q\v->val T q\v
def Dif.ext(h:Dif a b)(Y:Ext a Z)(J:Ext b b'):Dif Z b':=by let(q,v,G,O,B,T):=h;exact(q,v,G,Y _ _ O,J _ _ B,T)
def Bd(S:Plc Pl)(Y:List (List Nat))(T:Y3)(l:List Pl):Prop:=∀out:List (Nat×KV),(∀x∈out,Pm S Y T l x.2)->out.Pairwise (λx y=>Dif x.2 y.2)->out.length<=5764801
def au8(Y:KV)(q:Pl):Nat:=match val Y q with|some (.int i)=>i.toNat|_=>0
def Ru(h:val Z q\(nD y)):au8 Z q=y:=by simp[au8,h,nD]
def ber{S:Plc Pl}(E:Pu K Z s2 a2)(M:∃A:List Pl,A.length<=8/\(∀a∈A,S.Dm l a)/\∀q,S.Dm l q->∃a∈A,S.R a q):Bd S a2 s2 l:=λout T L=>by
 let(A,Q,P,H):=M;have get:∀{x},x∈out->∀{q},S.Dm l q->∃y,val x.2 q\(nD y)/\y<s2.getD q.1 0:=fun{x} Y {q} O=>by let(v,N):=((T x Y).dom q).mpr O;let(y,rfl,G):=(T x Y).num _ _ N;exact(y,N,G)
 have:=Plc.count (S:=S) (A:=A) (D:=S.Dm l) (fs:=out.map λx=>au8 x.2) (act:=λ_ v w=>Dj a2 v w) Q P H (λf J q O=>by
  let(x,Y,rfl):=bh.mp J;let(y,e,G):=get Y O;rw[Ru e];exact b_ G (E.s7 _)) (λf J p F w W=>by
  let(x,Y,rfl):=bh.mp J;let(y,e,G):=get Y F;rw[Ru e,Ru ((T x Y).ev _ _ e w W)]) (by
  rw[w6];refine L.imp_of_mem fun{x y} Y G h=>?_
  let(q,v,X,B,C,V):=h;let(z,rfl,_):=(T x Y).num _ _ B;let(I,rfl,_):=(T y G).num _ _ C;exact(q,((T x Y).dom q).mp (_,B),by rw[Ru B,Ru C];exact λe=>V (by rw[e])))
 rw[du]at this;exact this
def al3{S:Plc Pl}:S.Dm (l++[p]) q↔S.Dm l q\/S.R p q:=by
 constructor
 .rintro⟨x,T,Y⟩
  rcases dz.mp T with z|z
  .exact .inl (x,z,Y)
  .rw[ig.mp z]at Y;exact .inr Y
 .rintro(⟨x,T,Y⟩|h)
  .exact(x,qu _ T,Y)
  .exact(p,by simp,h)
def Pm.nil{S:Plc Pl}:Pm S a2 s2 [] []:=(λq=>(λ(v,h)=>by simp[val,Ag]at h,λ(p,h,_)=>by cases h),λq v h=>by simp[val,Ag]at h,λq v h=>by simp[val,Ag]at h,rfl,jd _)
def Pm.stay{S:Plc Pl}(h:Pm S a2 s2 l kv)(Y:S.Dm l p):Pm S a2 s2 (l++[p]) kv:=by refine(λq=>?_,h.num,h.ev,h.sm,by have:=h.le;rw[jw];lia);rw[h.dom,al3];exact(.inl,λz=>z.elim id λr=>Y.cl r)
def Pm.step{P:Gq sz K Z jf}{G:Pu K Z s1 a1}(N:Pu K Z s2 a2)(h:Pm (Rv P G) a2 s2 l U)(R:(Rv P G).V p)(E:g<s2.getD p.1 0)(al:Alg (wI Z p.1) Z a1 a2 p g U Ly):Pm (Rv P G) a2 s2 (l++[p]) Ly:=by
 have B:∀q v,val Ly q\v->val U q\v\/∃w∈wI Z p.1,q=Vo Z a1 p w/\v=nD (Dj a2 g w):=λq v T=>by
  rcases al.no q v T with z|⟨w,Y,rfl⟩
  .exact .inl z
  .rw[al.new w Y]at T;cases T
   exact .inr (w,Y,rfl,rfl)
 refine(λq=>?_,λq v T=>?_,λq y T u J=>?_,al.sm,?_)
 .rw[al3]
  constructor
  .rintro⟨v,T⟩
   rcases B q v T with z|⟨w,Y,z,_⟩
   .exact .inl ((h.dom q).mp (v,z))
   .exact .inr (R,w,Y,z)
  .rintro(z|⟨_,w,Y,z⟩)
   .let(v,T):=(h.dom q).mpr z
    exact(v,al.old q v T)
   .rw[z];exact(_,al.new w Y)
 .rcases B q v T with z|⟨w,Y,rfl,rfl⟩
  .exact h.num q v z
  .exact(_,rfl,ajo N (Dz.mp Y) E)
 .rcases B q _ T with z|⟨w,Y,rfl,e⟩
  .exact al.old _ _ (h.ev q y z u J)
  .have H:y=Dj a2 g w:=ajm e
   let(v,O,L,C):=ahm P (Dz.mp Y) (Dz.mp J);have S:=aeu P G (Dz.mp Y) (Dz.mp J) O R.2;have Q:=aeu P N (Dz.mp Y) (Dz.mp J) O E;have:=al.new v (Dz.mpr L);rw[H,Q,<-this];show val Ly (Vo Z a1 (Vo Z a1 p w) u)=val Ly (Vo Z a1 p v);simp only[Vo];rw[C,S]
 .have O:=h.le
  have L:=al.len;have C:(wI Z p.1).length<=6:=by have:=Vg (k:=p.1) P.len;rw[Vj,du]at this;exact this
  rw[jw];simp;lia
noncomputable abbrev rf(x:Nat×KV):D:=.ref x.1
structure Ot(S:Plc Pl)(a2:List (List Nat))(s2:Y3)(l:List Pl)(d:D)(M:fc)(out:List (Nat×KV)):Prop where
 ls:gr M d\(out.map rf)
 rw:∀x∈out,M[x.1]?\(.dT x.2)
 pm:∀x∈out,Pm S a2 s2 l x.2
 df:out.Pairwise λx y=>Dif x.2 y.2
def Ot.keep(h:Ot S a2 s2 l d M out)(k:vf M Z):Ot S a2 s2 l d Z out:=(k.gr h.ls,λx Y=>k _ _ (h.rw x Y),h.pm,h.df)
def au9(h:gr M (.ref n)\ds):M[n]?\(.lst ds):=by
 simp only[gr]at h;cases e:M[n]? with
 |none=>rw[e]at h;cases h|some o=>cases o<;>rw[e]at h<;>cases h;rfl
def Ot.add(h:Ot S a2 s2 l (.ref Z) M out)(b:Bd S a2 s2 l)(C:M[x.1]?\(.dT x.2))(J:Pm S a2 s2 l x.2)(O:∀y∈out,Dif y.2 x.2) :
 ∃o,Pq .append (.ref Z) M=true/\Lb .append (.ref Z) [.ref x.1] M=.ok .non (M.set Z o)/\Ot S a2 s2 l (.ref Z) (M.set Z o) (out++[x]):=by
 have T:=au9 h.ls;have N:=b out h.pm h.df;have B:∀y:Nat×KV,M[y.1]?\(.dT y.2)->Z≠y.1:=λy Y e=>by rw[e,Y]at T;cases T
 refine(.lst (out.map rf++[rf x]),Ed T,acz T (by rw[du];lia),ju (by rw[qj T,jc];rfl),λy Y=>?_,λy Y=>?_,?_)
 .have:M[y.1]?\(.dT y.2):=by
   rcases dz.mp Y with z|z
   .exact h.rw y z
   .rw[ig.mp z];exact C
  rw[j9 (B y this)];exact this
 .rcases dz.mp Y with z|z
  .exact h.pm y z
  .rw[ig.mp z];exact J
 .refine List.pairwise_append.mpr (h.df,List.pairwise_singleton _ _,λy Y z G=>?_)
  rw[ig.mp G];exact O y Y
abbrev EM(pt w1 w2:D)(b3 b4 b5 b6 b7 b8:Option D):Env:=[some pt,some w1,some w2,b3,b4,b5,b6,b7,b8,none,none,none]
def ava(hm:3<=m)(P:Gq sz K hs jf)(Y:Pu K hs s1 a1)(J:Pu K hs s2 a2)(C:Pm (Rv P Y) a2 s2 l kv)(hl:l.length<=100)(O:(Rv P Y).V p)(bd:Bd (Rv P Y) a2 s2 (l++[p]))(hn:M[n]?\(.dT kv))(ot:Ot (Rv P Y) a2 s2 (l++[p]) (.ref U.length) M out)(kp:vf U M)(fr:∀x∈out,Dif x.2 kv) :
 ∃qq M',Ln.den (PW m) (EM (uq K r hs) (cu s1 a1) (cu s2 a2) b3 (some (Ff p)) (sR U.length) (sR n) b7 b8) M=.ok (.next,qq) M' /\
  (∃b7 b8,qq=EM (uq K r hs) (cu s1 a1) (cu s2 a2) b3 (some (Ff p)) (sR U.length) (sR n) b7 b8)/\vf U M'/\M'[n]?\(.dT kv)/\∃Z,Ot (Rv P Y) a2 s2 (l++[p]) (.ref U.length) M' (out++Z)/\∀x∈Z,Ext kv x.2/\∃y,y<s2.getD p.1 0/\val x.2 p\(nD y):=by
 have Q:=aaf (M:=M) (l:=s2) (i:=p.1) (by rw[J.ls];exact O.1);have s7:=J.s7 p.1;refine vz (S:=Ln) (W:=PW m) (n:=s2.getD p.1 0) (M:=M) (M1:=M) rfl (by
  generalize s2.getD p.1 0=z at Q;simp[Xl,Q]) (a_ s7 ⋯)
  (λg qq M'=>(∃b7 b8,qq=EM (uq K r hs) (cu s1 a1) (cu s2 a2) b3 (some (Ff p)) (sR U.length) (sR n) b7 b8)/\vf U M'/\M'[n]?\(.dT kv)/\∃Z,Ot (Rv P Y) a2 s2 (l++[p]) (.ref U.length) M' (out++Z)/\∀x∈Z,Ext kv x.2/\∃y,y<g/\val x.2 p\(nD y))
  ((b7,b8,rfl),kp,hn,[],by rw[Cu];exact ot,by simp) (λg ρ T A hI=>?_)
 symm
 let((b7,b8,rfl),F,L,Z,N,f1):=hI;let(d,B,e,k2,z):=au5 (m:=m) (r:=r) (M:=T) (a_ ⋯ hm) P Y J O.1 O.2 A L C.sm (by have:=C.le;lia) (λq v D=>by let(y,h,_):=C.num q v D;exact(y,h));apply _k;rcases z with rfl|⟨Ly,rfl,h1,al⟩
 .refine(EM (uq K r hs) (cu s1 a1) (cu s2 a2) b3 (some (Ff p)) (sR U.length) (sR n) (sI g) b8,.next,EM (uq K r hs) (cu s1 a1) (cu s2 a2) b3 (some (Ff p)) (sR U.length) (sR n) (sI g) (some .non),B,rfl,?_,.inl rfl,(_,_,rfl),F.trans k2,k2 _ _ L,Z,N.keep k2,λx E=>?_)
  .have:Km .isn .non .non B\false:=rfl
   simp[Lj,e,this]
  .let(a,y,b,c):=f1 x E
   exact(a,y,kh b,c)
 .have I:val Ly p\(nD g):=by
   have:=al.new (-1) (by simp[wI]);rw[Wq]at this;exact(t7 (val Ly) (((Rv P Y).st p).2).symm).trans this
  let(o,X,t2,t3):=(N.keep k2).add bd (x:=(T.length,Ly)) h1 (C.step J O A al) (λy hy=>by
   rcases dz.mp hy with z|z
   .exact(fr y z).ext (λ_ _ h=>h) al.old
   .let(_,y',h2,h3):=f1 y z
    exact(p,_,_,h3,I,λe=>by have:=ajm e;lia))
  have R:=k2 _ _ L;have G:=au9 (N.keep k2).ls;refine(EM (uq K r hs) (cu s1 a1) (cu s2 a2) b3 (some (Ff p)) (sR U.length) (sR n) (sI g) b8,.next,EM (uq K r hs) (cu s1 a1) (cu s2 a2) b3 (some (Ff p)) (sR U.length) (sR n) (sI g) (sR T.length),B.set U.length o,rfl,?_,.inl rfl,(_,_,rfl),λa o H=>?_,?_,Z++[(T.length,Ly)],by rw[<-w5];exact t3,λx E=>?_)
  .have:Km .isn (.ref T.length) .non B\true:=rfl
   simp[Lj,e,this,X,t2]
  .rw[j9 (i_ (vm H))];exact k2 _ _ (F _ _ H)
  .rw[j9 (λe=>by rw[e,R]at G;cases G)];exact R
  .rcases dz.mp E with z|z
   .let(a,y,b,c):=f1 x z
    exact(a,y,kh b,c)
   .rw[ig.mp z]
    exact(al.old,g,jy g,I)
def a06(hm:3<=m)(P:Gq sz K U jf)(G:Pu K U s1 a1)(w2:Pu K U s2 a2)(hl:l.length<=100)(hp:(Rv P G).V p)(bd:Bd (Rv P G) a2 s2 (l++[p]))(J:Ot (Rv P G) a2 s2 l d M ps) :
 ∃Z M',Lq.den (PW m) (EM (uq K r U) (cu s1 a1) (cu s2 a2) (some d) (some (Ff p)) b5 b6 b7 b8) M=.ok (.next,Z) M' /\
  (∃b5 b6 b7 b8 d' qq,Z=EM (uq K r U) (cu s1 a1) (cu s2 a2) (some d') (some (Ff p)) b5 b6 b7 b8/\Ot (Rv P G) a2 s2 (l++[p]) d' M' qq)/\vf M M':=by
 symm
 let(Z,M',e,(qk,X,I,rfl),N,out,o1,_):=Du (S:=Tj) (W:=PW m) (d:=d) (ds:=ps.map rf) (ρ:=EM (uq K r U) (cu s1 a1) (cu s2 a2) (some d) (some (Ff p)) (sR M.length) b6 b7 b8) (M:=M++[.lst []]) (M1:=M++[.lst []]) rfl (by simp) ((vf.app _ _).gr J.ls)
  (λi Z M'=>(∃b6 b7 b8,Z=EM (uq K r U) (cu s1 a1) (cu s2 a2) (some d) (some (Ff p)) (sR M.length) b6 b7 b8)/\vf M M'/\∃out,Ot (Rv P G) a2 s2 (l++[p]) (.ref M.length) M' out/\∀x∈out,∃y∈ps.take i,Ext y.2 x.2)
  ((b6,b7,b8,rfl),vf.app _ _,[],(ju Dt,by simp,by simp,.nil),by simp) (λi ρ M' h=>h.2.1.gr J.ls)
  (λi x ρ E T hI=>by
   symm
   let((b6,b7,b8,rfl),N,out,ot,F):=hI;rw[ir]at T;let((n,kv),Q,rfl):=dj.mp T;have L:=bf Q;have A:E[n]?\(.dT kv):=N _ _ (J.rw _ L);have R:=J.pm _ L;apply _k;have tk:ps.take (i+1)=ps.take i++[(n,kv)]:=by rw[yp,Q];rfl
   have fr:∀x∈out,Dif x.2 kv:=λx T=>by let(y,C,O):=F x T;have:=(List.take_append_drop i ps▸J.df:(ps.take i++ps.drop i).Pairwise _);have:=(List.pairwise_append.mp this).2.2 y C (n,kv) (bf (i:=0) (by rw[List.getElem?_drop];exact Q));exact this.ext O λ_ _ h=>h
   have Y:=a1s (M:=E) (b:=Ff p) (k:=ky p.1 p.2) A rfl
   by_cases q:(Rv P G).Dm l p
   .let(v,B):=(R.dom p).mpr q
    have B:Ag kv (ky p.1 p.2)\v:=B;rw[B]at Y;let(o,t1,t2,t3):=ot.add bd (x:=(n,kv)) A (R.stay q) fr;refine(EM (uq K r U) (cu s1 a1) (cu s2 a2) (some d) (some (Ff p)) (sR M.length) (sR n) b7 b8,.next,EM (uq K r U) (cu s1 a1) (cu s2 a2) (some d) (some (Ff p)) (sR M.length) (sR n) b7 b8,E.set M.length o,rfl,by simp[Lp,Y,t1,t2],.inl rfl,(_,_,_,rfl),λa o ha=>?_,_,t3,λx T=>?_)
    .rw[j9 (i_ (vm ha))];exact N _ _ ha
    .rw[tk]
     rcases dz.mp T with z|z
     .let(y,C,O):=F x z
      exact(y,qu _ C,O)
     .rw[ig.mp z];exact(_,by simp,λ_ _ h=>h)
   .symm
    have B:Ag kv (ky p.1 p.2)=none:=by
     cases e:Ag kv (ky p.1 p.2)with
     |none=>rfl|some v=>exact absurd ((R.dom p).mp (v,e)) q
    rw[B]at Y;let(Z,M',e,(D,H,rfl),k2,n2,qv,t3,t4):=ava (r:=r) (b3:=some d) (b7:=b7) (b8:=b8) hm P G w2 R hl hp bd A ot N fr;apply _k;refine(EM (uq K r U) (cu s1 a1) (cu s2 a2) (some d) (some (Ff p)) (sR M.length) (sR n) b7 b8,.next,EM (uq K r U) (cu s1 a1) (cu s2 a2) (some d) (some (Ff p)) (sR M.length) (sR n) D H,M',rfl,by simp[Lp,Y,e],.inl rfl,(_,_,_,rfl),k2,_,t3,λx T=>?_);rw[tk];rcases dz.mp T with z|z
    .let(y,C,O):=F x z
     exact(y,qu _ C,O)
    .exact(_,by simp,(t4 x z).1))
 apply _k;exact(EM (uq K r U) (cu s1 a1) (cu s2 a2) (sR M.length) (some (Ff p)) (sR M.length) qk X I,M',by simp[Lq,MW.new,e],(_,_,_,_,_,out,rfl,o1),N)
def Pk(T:Y3)(Y:KV)(k:Nat):List Nat:=(List.range (T.getD k 0)).map λx=>au8 Y (k,x)
abbrev EF(pt w1 w2:D)(b3 b4 b5 b6 b7 b8 b9 b10 Iu:Option D):Env:=[some pt,some w1,some w2,b3,b4,b5,b6,b7,b8,b9,b10,Iu]
def a07(P:Gq sz K hs jf)(O:Pu K hs s1 a1)(E:Pm (Rv P O) a2 s2 l Z)(al:∀q,(Rv P O).V q->q∈l)(I:M[n]?\(.dT Z))(A:M[U]?\(.lst ds))(H:ds.length<6000000) :
 ∃M',Li.den W (EF (uq K r hs) (cu s1 a1) w b3 b4 b5 (sR n) b7 b8 (sR U) b10 Iu) M=.ok (.next,EF (uq K r hs) (cu s1 a1) w b3 b4 b5 (sR n) b7 b8 (sR U) (sR M.length) (if K=0 then Iu else sI (K-1:Nat))) M' /\
  M'[U]?\(.lst (ds++[.tup ((List.range K).map λk=>wg (Pk s1 Z k))]))/\∀a o,a≠U->M[a]?\o->M'[a]?\o:=by
 have k3:=P.k3;let(J,M',e,rfl,G,T):=vz (S:=Th) (W:=W) (n:=K) (ρ:=EF (uq K r hs) (cu s1 a1) w b3 b4 b5 (sR n) b7 b8 (sR U) (sR M.length) Iu) (M:=M++[.lst []]) (M1:=M++[.lst []]) rfl (by simp[Rf]) (a_ k3 ⋯)
  (λk J M'=>J=EF (uq K r hs) (cu s1 a1) w b3 b4 b5 (sR n) b7 b8 (sR U) (sR M.length) (if k=0 then Iu else sI (k-1:Nat))/\M'[M.length]?\(.lst ((List.range k).map λk=>wg (Pk s1 Z k)))/\vf M M')
  (rfl,Dt,vf.app _ _) (λk D M1 N F=>by
   let(rfl,G,T):=F;have L:=aaf (M:=M1) (l:=s1) (i:=k) (by rw[O.ls];exact N);have s7:=O.s7 k;have c:Lh.den W (EF (uq K r hs) (cu s1 a1) w b3 b4 b5 (sR n) b7 b8 (sR U) (sR M.length) (sI k)) M1=.ok (.vl ((Pk s1 Z k).map nD)) M1:=by
    unfold Lh;rw[Jc (n:=s1.getD k 0) (g:=λx=>nD (au8 Z (k,x))) (by
     generalize s1.getD k 0=z at L;simp[Xl,L]) (a_ s7 ⋯) (λx Q=>by
     let(v,C):=(E.dom (k,x)).mpr ((k,x),al _ (N,Q),Plc.R.axd (N,Q));let(y,rfl,_):=E.num _ _ C;have:=abd (b:=Ff (k,x)) (k:=ky k x) (T _ _ I) rfl;rw[show Ag Z (ky k x)\(nD y)from C]at this;exact(_,rfl,by simp[this,Ru C]))]
    simp[Pk]
   have ap:=Ej (d:=.tup ((Pk s1 Z k).map nD)) G (by simp;lia);refine(EF (uq K r hs) (cu s1 a1) w b3 b4 b5 (sR n) b7 b8 (sR U) (sR M.length) (sI k),.next,_,M1.set M.length (.lst (((List.range k).map λk=>wg (Pk s1 Z k))++[.tup ((Pk s1 Z k).map nD)])),rfl,by simp[Tf,Ed G,c,J9,ap],.inl rfl,rfl,by rw[qj G,qi];simp[wg],λa o B=>?_);rw[j9 (i_ (vm B))];exact T _ _ B)
 have Y:=T _ _ A;have ap:=acz (d:=.tup ((List.range K).map λk=>wg (Pk s1 Z k))) Y H;refine(_,by simp[Li,MW.new,e,Ed Y,p8,Fw (ju G),ap],qj Y,λa o X B=>?_);rw[j9 (lg X)];exact T _ _ B
def aoh(l:Y3):aww (wg l)\l.length:=by show(Xx (l.map nD)).map (·.length)=_;rw[Y6];simp
def a08(f:Nat->List Nat)(l:Y3):Ur (l.map λk=>wg (f k))\(l.map λk=>(f k).length):=by
 induction l with
 |nil=>rfl|cons a l Y=>simp[Ur,aoh,Y]
def aoi(T:Pu K Z s1 a1)(G:KV):aid (.tup ((List.range K).map λk=>wg (Pk s1 G k)))\s1:=by
 show Ur _=_;rw[a08]
 congr 1
 apply q9;intro i
 by_cases h:i<K
 .have Y:i<s1.length:=b_ h (g_ T.ls)
  simp[Pk,h,Y]
 .have Y:¬i<s1.length:=λz=>h (b_ z (f_ T.ls))
  simp[h,Y]
def a09(hm:4<=m)(P:Gq sz K U jf)(F:Pu K U s1 a1)(w2:Pu K U s2 a2)(G:∃G,Gn K U s1 a1 G):∃q ls n Z,prog.call m 31 [uq K r U,cu s1 a1,cu s2 a2] M=.ok (.ref q) Z/\Z[q]?\(.lst (Yr q ls n))/\M.length<=q/\vf M Z/\(n=0\/ls=s1)/\n<6000000:=by
 rw[call_of (a_ ⋯ hm) rfl];symm
 have k1:=P.k1;let(N,E,M1,e1,X,hN,hA,hV,hl):=aog (m:=m-1) (r:=r) (M:=M++[.dT []]) (r_ (a_ ⋯ hm)) P F;have bd:∀j,Bd (Rv P F) a2 s2 ((N++E).take j):=λj=>by
  let(G,g):=G;refine ber w2 (Plc.gens (G:=G) g.v (λq hq=>?_) ?_ hN hA j)
  .let(x,Y,w,hw,e):=g.g q.1 q.2 hq.1 hq.2
   let(h1,h2):=Uh hw;exact(x,Y,g.v x Y,w,Dz.mpr h1,Prod.ext h2.symm e)
  .refine gh (Nat.le_of_eq ?_) g.c
   simp only[Plc.cost,Rv,Vj,du]
 let(q1,Q,e2,(d,H,C,T,O,B,V,rfl,L),q0):=Du (S:=Tn) (W:=PW (m-1)) (d:=.vl ((N++E).map Ff)) (ds:=(N++E).map Ff) (ρ:=EM (uq K r U) (cu s1 a1) (cu s2 a2) (some (.vl [.ref M.length])) none none none none none) (M:=M++[.dT []]) (M1:=M1) rfl (by simp[-List.map_append,e1]) rfl
  (λj R Z=>(∃d H C T O B V,R=EM (uq K r U) (cu s1 a1) (cu s2 a2) (some d) H C T O B/\Ot (Rv P F) a2 s2 ((N++E).take j) d Z V)/\vf M Z)
  ((_,none,none,none,none,none,[(M.length,[])],rfl,rfl,λx Y=>by rw[ig.mp Y];exact X _ _ Dt,λx Y=>by rw[ig.mp Y];exact Pm.nil,List.pairwise_singleton _ _),(vf.app _ _).trans X) (λ_ _ _ _=>rfl)
  (λj x ρ Q Y hI=>by
   symm
   let((d,H,C,T,O,B,V,rfl,L),A):=hI;rw[ir]at Y;let(p,hp,rfl):=dj.mp Y;apply _k;have tk:(N++E).take (j+1)=(N++E).take j++[p]:=by rw[yp,hp];rfl
   symm
   let(R,M3,e,(C,T,O,B,d',qv,rfl,o3),k3):=a06 (m:=m-1) (r:=r) (b5:=C) (b6:=T) (b7:=O) (b8:=B) (r_ hm) P F w2 (a_ (Bs j _) (a_ hl ⋯)) ((hV p).mp (bf hp)) (by rw[<-tk];exact bd _) L;apply _k;exact(_,.next,_,M3,rfl,e,.inl rfl,(d',_,_,_,_,_,qv,rfl,by rw[tk];exact o3),A.trans k3))
 have hb:=bd _ V L.pm L.df;rw[du,yh]at L;let(q2,M3,e3,(T,J,Iu,rfl),I,qk):=Du (S:=Ti) (W:=PW (m-1)) (d:=d) (ds:=V.map rf) (ρ:=EF (uq K r U) (cu s1 a1) (cu s2 a2) (some d) H C T O B (sR Q.length) none none) (M:=Q++[.lst []]) (M1:=Q++[.lst []]) rfl (by simp) ((vf.app _ _).gr L.ls)
  (λi R Z=>(∃T J Iu,R=EF (uq K r U) (cu s1 a1) (cu s2 a2) (some d) H C T O B (sR Q.length) J Iu)/\Z[Q.length]?\(.lst ((V.take i).map λx=>.tup ((List.range K).map λk=>wg (Pk s1 x.2 k))))/\vf Q Z)
  ((T,none,none,rfl),Dt,vf.app _ _) (λi ρ Z h=>h.2.2.gr L.ls)
  (λi x ρ M3 Y hI=>by
   symm
   let((T,J,Iu,rfl),I,A):=hI;rw[ir]at Y;let((n,kv),hi,rfl):=dj.mp Y;have qq:=bf hi;let(M4,e4,f4,k4):=a07 (W:=PW (m-1)) (r:=r) (w:=cu s2 a2) (b3:=some d) (b4:=H) (b5:=C) (b7:=O) (b8:=B) (b10:=J) (Iu:=Iu) P F (L.pm _ qq) (λq hq=>(hV q).mpr hq) (A _ _ (L.rw _ qq)) I (by rw[du];exact c_ (Bs i _) (c_ hb ⋯));apply _k;refine(_,.next,_,M4,rfl,e4,.inl rfl,(_,_,_,rfl),?_,λa o ha=>k4 _ _ (h_ (vm ha)) (A _ _ ha));rw[f4,yp,hi,jc];rfl)
 rw[du,yh]at I;have A:=q0.trans qk;generalize hds:(V.map λx=>D.tup ((List.range K).map λk=>wg (Pk s1 x.2 k)))=ds at I;apply _k;have hn:ds.length<6000000:=by rw[<-hds,du];exact c_ hb ⋯
 have srt:∃ls,p8 .sorted [.ref Q.length] M3=.ok (.ref M3.length) (M3++[.lst (Yr M3.length ls ds.length)])/\(ds.length=0\/ls=s1):=by
  have:p8 .sorted [.ref Q.length] M3=afi ds M3:=by simp[p8,ju I]
  rw[this];cases bes:ds with
  |nil=>exact([],rfl,.inl rfl)
  |cons d0 dr =>
   have all:∀x∈d0::dr,aid x\s1:=λx Y=>by rw[<-bes,<-hds]at Y;let(y,_,rfl):=bh.mp Y;exact aoi F y.2
   have ne:s1≠[]:=λz=>by have:=F.ls;rw[z]at this;simp at this;lia
   rw[bes]at hn;refine(s1,?_,.inr rfl);simp only[afi,all d0 (by simp)];rw[dm (ne,all,hn)];rfl
 let(ls,e5,h5):=srt;refine(M3.length,ls,ds.length,M3++[.lst (Yr M3.length ls ds.length)],?_,Dt,A.len,A.trans (vf.app _ _),h5,hn);simp[Fn.run,W2,W0,MW.new,e2,e3,e5]
def a1a(n:Nat):allB (List.replicate n (.bl true))\true:=by
 induction n with
 |zero=>rfl|succ n Y=>rw[List.replicate_succ,allB,Y];rfl
inductive Smp:Nat->D->Prop
 |int:Smp (n+1) (.int i)
 |sy:Smp (n+1) (.sy y)
 |tup:ds.length<=100000->(∀d∈ds,Smp n d)->Smp (n+1) (.tup ds)
 |vl:ds.length<=100000->(∀d∈ds,Smp n d)->Smp (n+1) (.vl ds)
def zip_get{i:Nat}(h:(Eu ls n)[i]?\d):i<n/\d=.tup (ls.map λl=>l.getD i .non):=by
 have Y:i<n:=by simpa[Eu]using(ao.mp h).1
 simp[Eu,Y]at h;exact(Y,h.symm)
def zip2(h:U.length=Z.length):aau [.tup U,.tup Z] M=.ok (.con (Eu [U,Z] Z.length)) M:=aif rfl (.inl rfl) (by simp[h])
def bjy(h:U.length=Z.length):aau [.vl U,.vl Z] M=.ok (.con (Eu [U,Z] Z.length)) M:=aif rfl (.inl rfl) (by simp[h])
def bjz(h:U.length=zs.length)(k:Z.length=zs.length):aau [.tup U,.tup Z,.tup zs] M=.ok (.con (Eu [U,Z,zs] zs.length)) M:=aif rfl (.inr rfl) (by simp[h,k])
def ahn{x:D}(N:x=.tup ds\/x=.vl ds)(B:ds.length<=100000)(P:1<=m)(C:∀d∈ds,prog.call (m-1) 34 [d,d] M=.ok (.bl true) M):prog.call m 34 [x,x] M=.ok (.bl true) M:=by
 rw[call_of P rfl];obtain⟨b,Y,G,L,J,E,z⟩:∃b Y,p8 .isSeq [x] M=.ok (.bl true) M/\p8 .isTuple [x] M=.ok (.bl b) M/\p8 .isList [x] M=.ok (.bl Y) M/\p8 .len [x] M=.ok (.int ds.length) M/\aau [x,x] M=.ok (.con (Eu [ds,ds] ds.length)) M:=by
  rcases N with rfl|rfl
  .exact(true,false,rfl,rfl,rfl,rfl,zip2 rfl)
  .exact(false,true,rfl,rfl,rfl,rfl,bjy rfl)
 have c:Lr.den (PW (m-1)) [some x,some x] M=.ok (.vl (List.replicate ds.length (.bl true))) M:=by
  unfold Lr;rw[Oi (ds:=Eu [ds,ds] ds.length) (g:=λ_=>.bl true) (by simp[z]) (by simpa[Eu]using B) (λi d O=>by
   let(T,rfl):=zip_get O;have:=C ds[i] (m5 T);exact([some x,some x,some ds[i],some ds[i]],by simp[Tg.put,Hl,T],by simp[this]))]
  simp[List.map_const',Eu]
 have al:p8 .all [.vl (List.replicate ds.length (.bl true))] M=.ok (.bl true) M:=by show Res.wy ((allB _).map D.bl) M=_;rw[a1a];rfl
 simp[Fn.run,K5,K4,c,G,L,J,E,al]
def aex(h:Smp n d):∀{m M},n<=m->prog.call m 34 [d,d] M=.ok (.bl true) M:=by
 induction h with
 |int =>
  intro m M Y;have T:p8 .isSeq [.int i] M=.ok (.bl false) M:=rfl;have B:p8 .isBool [.int i] M=.ok (.bl false) M:=rfl;rw[call_of (a_ y_ Y) rfl];simp[Fn.run,K5,K4,T,B]
 |sy =>
  intro m M Y;have T:p8 .isSeq [.sy y] M=.ok (.bl false) M:=rfl;have B:p8 .isBool [.sy y] M=.ok (.bl false) M:=rfl;have C:Ah M (.sy y) (.sy y)\true:=by simp[Ah,K9]
  rw[call_of (a_ y_ Y) rfl];simp[Fn.run,K5,K4,T,B,C]
 |tup G _ O=>intro m M Y;exact ahn (.inl rfl) G (a_ y_ Y) λd J=>O d J (r_ Y)
 |vl G _ O=>intro m M Y;exact ahn (.inr rfl) G (a_ y_ Y) λd J=>O d J (r_ Y)
def rD(r:List (List Nat)):D:=.tup (r.map wg)
def al4(T:l.length<=100000):Smp (n+2) (wg l):=.tup (by rw[du];exact T) λd Y=>by let(x,_,rfl):=bh.mp Y;exact .int
def aah(T:q.length<=100000)(G:∀l∈q,l.length<=100000):Smp (n+3) (rD q):=.tup (by rw[du];exact T) λd Y=>by let(x,h,rfl):=bh.mp Y;exact al4 (G x h)
structure Wd(K:Nat)(hs:List F)(s:Y3)(a:List (List Nat)):Prop where
 ls:s.length=K
 la:a.length=hs.length
 sm:∀k,s.getD k 0<=50
 rl:∀(j:Nat) g,hs[j]?\g->(a.getD j []).length=s.getD g.a 0
def Wd.al(w:Wd K Z s a)(k:Nat):(a.getD k []).length<=50:=by
 by_cases h:k<Z.length
 .let(g,Y):=aev h
  rw[w.rl k g Y];exact w.sm _
 .rw[bx,my (by rw[w.la];exact s_ h)];exact jd _
def Pu.wd(w:Pu K Z s a):Wd K Z s a:=(w.ls,w.la,λk=>a_ (w.s7 k) ⋯,λj g Y=>by
 let(T,e,_,l,_):=w.act Y;rw[a03 e,l])
noncomputable def bK(Y:List F)(j:Nat):Nat:=match Y[j]? with|some g=>g.b|none=>0
def a2x{j:Nat}(h:Z[j]?\g):bK Z j=g.b:=by simp[bK,h]
noncomputable def prR(l Y:Y3)(z:Nat):List Nat:=l.flatMap λx=>Y.map λy=>x*z+y
def aey:(prR l Z z).length=l.length*Z.length:=by
 induction l with
 |nil=>simp[prR]
 |cons x l Y =>
  simp only[prR,List.flatMap_cons,jw,du]at Y⊢;rw[Y,ie,Nat.succ_mul,Nat.add_comm]
def aho{l:Y3}{j:Nat}(h:l[j]?\x):prR (l.take (j+1)) Z z=prR (l.take j) Z z++Z.map λy=>x*z+y:=by simp[prR,yp,h]
def avb{l Y:Y3}(T:l.length<=50)(G:Y.length<=50):(prR (l.take j) Y z).length<=2500:=by rw[aey];exact wj (n₂:=50) (m₂:=50) (a_ (Bs _ _) T) G
noncomputable def Vk(K:Nat)(s Y:Y3):List Nat:=(List.range K).map λk=>s.getD k 0*Y.getD k 0
def prA(G:List F)(Y:Y3)(a T:List (List Nat))(n:Nat):List (List Nat):=(List.range n).map λj=>prR (a.getD j []) (T.getD j []) (Y.getD (bK G j) 0)
noncomputable def Vl(f:Nat->Nat->Nat)(K:Nat)(s Y:Y3):List (List Nat):=(List.range K).map λk=>(List.range (s.getD k 0*Y.getD k 0)).map λi=>f i (Y.getD k 0)
noncomputable def fD(i j:Nat):Nat:=i/j
noncomputable def fM(i j:Nat):Nat:=i%j
def prD(K:Nat)(T:List F)(s Y:Y3)(a G:List (List Nat)):D:=.tup [cu (Vk K s Y) (prA T Y a G T.length),rD (Vl fD K s Y),rD (Vl fM K s Y)]
def Wr{f:Nat->Nat}(h:i<n):((List.range n).map f).getD i 0=f i:=by simp[bx,h]
def aoj{f:Nat->List Nat}(h:i<n):((List.range n).map f).getD i []=f i:=by simp[bx,h]
def avc{a:List (List Nat)}(h:j<a.length):Bx (.tup (a.map wg)) (.int j) M\(wg (a.getD j [])):=Jf q_ (by simp[h])
def bet(h:z<=50):Em .mul (.int (y:Nat)) (.int (z:Nat)) M=.ok (nD (y*z)) M:=by rw[Mi _ _ (.inr (by lia))];rfl
def Vm{e Y:Ex}(h:e.den W Z M=.ok (nD y) M)(G:Y.den W Z M=.ok (nD z) M)(T:z<=50):(Ex.bin .mul e Y).den W Z M=.ok (nD (y*z)) M:=by rw[Nj,h,Res.yc,G,Res.yc];exact bet T
def al5{e Y:Ex}(h:e.den W ρ M=.ok (nD y) M)(T:Y.den W ρ M=.ok (nD z) M):(Ex.bin .add e Y).den W ρ M=.ok (nD (y+z)) M:=by rw[Nj,h,Res.yc,T,Res.yc];rfl
def beu(i j:Nat)(h:0<j)(k:j<=50)(M:fc):Em .fdiv (.int i) (.int j) M=.ok (nD (fD i j)) M:=Vy _ _ (m_ h) (by lia)
def bev(i j:Nat)(h:0<j)(_:j<=50)(M:fc):Em .mod (.int i) (.int j) M=.ok (nD (fM i j)) M:=aqh _ _ (m_ h)
def aai{i a b:Nat}(h:i<a*b):0<b:=Cy λz=>by subst z;exact absurd h (su _)
def a8q(Q:1<=m)(R:u.length<=50)(P:Z.length<=50)(O:z<=50):∃M',prog.call m 23 [wg u,wg Z,.int (z:Nat)] M=.ok (wg (prR u Z z)) M'/\vf M M':=by
 rw[call_of Q rfl];let(Y,M',e,(G,rfl),h,J):=W5 (S:=Sx) (W:=PW (m-1)) (t:=.name 4) (b:=Lg) (it:=V0) (ds:=u.map nD) (ρ:=[wg u,wg Z,D.int z,sR M.length,none]) (M:=M++[.lst []]) (M1:=M++[.lst []]) rfl rfl
  (λj Y M'=>(∃G,Y=[some (wg u),some (wg Z),some (.int z),sR M.length,G])/\M'[M.length]?\(.lst ((prR (u.take j) Z z).map nD))/\vf M M')
  ((none,rfl),Dt,vf.app _ _) (λj x N M1 T E=>by
   let((G,rfl),h,J):=E;rw[ir]at T;let(y,L,rfl):=dj.mp T;have c:Lf.den (PW (m-1)) [some (wg u),some (wg Z),some (.int z),sR M.length,some (nD y)] M1=.ok (.vl ((Z.map λw=>y*z+w).map nD)) M1:=by
    unfold Lf;rw[Nz (ds:=Z.map nD) (M1:=M1) (g:=λd=>match d with|.int i=>.int ((y*z:Nat)+i)|_=>.non) (by simp[wg]) (by simp;lia) (λx T=>by
     let(w,_,rfl):=bh.mp T;exact([some (wg u),some (wg Z),some (.int z),sR M.length,some (nD y),some (nD w)],rfl,al5 (Vm rfl rfl O) rfl))]
    simp[nD]
   have C:=aew (ys:=(Z.map λw=>y*z+w).map nD) h (by have:=avb (j:=j) (z:=z) R P;simp;lia);refine([some (wg u),some (wg Z),some (.int z),sR M.length,some (nD y)],.next,[some (wg u),some (wg Z),some (.int z),sR M.length,some (nD y)],M1.set M.length (.lst ((prR (u.take j) Z z).map nD++(Z.map λw=>y*z+w).map nD)),rfl,by simp[-List.map_map,Lg,ajp h,c,C],.inl rfl,(_,rfl),by rw[qj h,aho L,jc],λb o B=>?_);rw[j9 (i_ (vm B))];exact J _ _ B)
 rw[du,yh]at h;have t:p8 .tuple [.ref M.length] M'=.ok (wg (prR u Z z)) M':=by simp[p8,Fw (ju h),wg]
 exact(M',by simp[Fn.run,Wz,Wy,MW.new,e,t],J)
abbrev ES(pt w1 w2:D)(b3 b4 b5 b6 b7 b8:Option D):Env:=[some pt,some w1,some w2,b3,b4,b5,b6,b7,b8]
def avd(N:2<=m)(P:Gq sz K hs jf)(h:Made n r K hs jf M)(L:Wd K hs s a)(T:Wd K hs Z U) :
 ∃qq M',K3.den (PW m) (ES (.ref n) (cu s a) (cu Z U) b3 (sR M.length) b5 b6 none none) (M++[.lst []])=.ok (.next,qq) M' /\
  (∃b5 b6,qq=ES (.ref n) (cu s a) (cu Z U) b3 (sR M.length) b5 b6 none none)/\M'[M.length]?\(.lst ((prA hs Z a U hs.length).map wg))/\vf M M':=by
 have F:=P.len;have c:(Ex.meth (.v 0) 0).den (PW m) (ES (.ref n) (cu s a) (cu Z U) b3 (sR M.length) b5 b6 none none) (M++[.lst []])=.ok (Ka hs) (M++[.lst []]):=by have E:=h.keep (vf.app M [.lst []]);have cl:(PW m).cls[2]?\(0,[(0,2),(1,1)]):=rfl;rw[Mh];simp[-List.getElem?_append,E.1,cl,List.lookup,acb (a_ ⋯ N) E]
 have:=Qu (S:=K3) (W:=PW m) (ds:=hs.map eD) (ρ:=ES (.ref n) (cu s a) (cu Z U) b3 (sR M.length) b5 b6 none none) (M:=M++[.lst []]) (M1:=M++[.lst []]) rfl c
  (λj qq M'=>(∃b5 b6,qq=ES (.ref n) (cu s a) (cu Z U) b3 (sR M.length) b5 b6 none none)/\M'[M.length]?\(.lst ((prA hs Z a U j).map wg))/\vf M M')
  ((b5,b6,rfl),Dt,vf.app _ _) (λj x D Y R V=>by
   let((b5,b6,rfl),C,p):=V;rw[ir]at R;let(g,G,rfl):=dj.mp R;have J:=(ao.mp G).1;have I:=avc (M:=Y) (a:=a) (j:=j) (b_ J (g_ L.la));have A:=avc (M:=Y) (a:=U) (j:=j) (b_ J (g_ T.la));have H:=aaf (M:=Y) (l:=Z) (i:=g.b) (by rw[T.ls];exact P.aav g (bf G));let(y,X,k2):=a8q (m:=m) (M:=Y) (a_ ⋯ N) (L.al j) (T.al j) (T.sm g.b);have Q:prA hs Z a U (j+1)=prA hs Z a U j++[prR (a.getD j []) (U.getD j []) (Z.getD g.b 0)]:=by simp[prA,qi,a2x G]
   rw[Q];have B:=k2 _ _ C;generalize prR (a.getD j []) (U.getD j []) (Z.getD g.b 0)=q at *;generalize a.getD j []=u at *;generalize U.getD j []=u' at *;generalize Z.getD g.b 0=z at *;have ap:=Ej (d:=wg q) B (by simp[prA];lia);refine(ES (.ref n) (cu s a) (cu Z U) b3 (sR M.length) (sI j) (some (eD g)) none none,.next,ES (.ref n) (cu s a) (cu Z U) b3 (sR M.length) (sI j) (some (eD g)) none none,y.set M.length (.lst ((prA hs Z a U j).map wg++[wg q])),rfl,by simp[-List.map_append,Wx,Ed C,al0,Xl,I,A,Y7,H,X,ap],.inl rfl,(_,_,rfl),by rw[qj B,jc];rfl,λb o O=>?_);rw[j9 (i_ (vm O))];exact k2 _ _ (p _ _ O))
 rw[du]at this;exact this
def al6{e:Ex}(h:e.den W Z M=.ok (.vl ds) M):(Ex.tp e).den W Z M=.ok (.tup ds) M:=by simp[h,J9]
def al7{T:Op2}{f:Nat->Nat->Nat}(J:∀i j:Nat,0<j->j<=50->∀M,Em T (.int i) (.int j) M=.ok (nD (f i j)) M)(F:K<=3)(S:Wd K hs s a)(B:Wd K hs Z U) :
 (Ex.comp true 2 (.names [9,10]) (.zip (.p V3 (.ix V2 I0))) (.tp (.cp 11 (.Xn V9) (.bin T V11 Yw)))).den W (ES pt w (cu Z U) (some (wg (Vk K s Z))) b4 b5 b6 b7 b8) M=.ok (.vl ((Vl f K s Z).map wg)) M:=by
 have C:=B.ls;have H:(Vk K s Z).length=K:=by simp[Vk]
 rw[Oi (ds:=Eu [(Vk K s Z).map nD,Z.map nD] Z.length) (g:=λk=>wg ((List.range (s.getD k 0*Z.getD k 0)).map λi=>f i (Z.getD k 0))) (by simp[Xl,zip2,wg,C,H]) (by simp[Eu];lia) (λk d Q=>by
  let(Y,rfl):=zip_get Q;have V:k<K:=by lia
  have E:=S.sm k;have O:=B.sm k;have L:(Vk K s Z).getD k 0=s.getD k 0*Z.getD k 0:=Wr V;have G:k<(Vk K s Z).length:=by lia
  have P:((Vk K s Z).map nD).getD k .non=nD (s.getD k 0*Z.getD k 0):=by rw[<-L];simp[bx,G]
  have N:(Z.map nD).getD k .non=nD (Z.getD k 0):=by simp[bx,Y]
  simp only[f9,Bu,P,N];refine(ES pt w (cu Z U) (some (wg (Vk K s Z))) b4 b5 b6 b7 b8++[some (nD (s.getD k 0*Z.getD k 0)),some (nD (Z.getD k 0))],by simp[Tg.put,Hl],?_);generalize Z.getD k 0=z at *;have R:s.getD k 0*z<=100000:=a_ (wj E O) ⋯
  generalize s.getD k 0=y at *;have c:(Ex.cp 11 (.Xn V9) (.bin T V11 Yw)).den W (ES pt w (cu Z U) (some (wg (Vk K s Z))) b4 b5 b6 b7 b8++[some (nD (y*z)),some (nD z)]) M=.ok (.vl (((List.range (y*z)).map λi=>f i z).map nD)) M:=by rw[Jc (n:=y*z) (g:=λi=>nD (f i z)) (by simp[nD]) R (λi Y=>(_,rfl,by simp[nD,J i z (aai Y) O]))];simp
  exact al6 c)]
 simp[Vl,Eu,C]
def ajr(R:3<=m)(P:Gq sz K hs jf)(h:Made n r K hs jf M)(G:Wd K hs s a)(Y:Wd K hs Z U):∃M',prog.call m 22 [.ref n,cu s a,cu Z U] M=.ok (prD K hs s Z a U) M'/\vf M M':=by
 rw[call_of (a_ ⋯ R) rfl];have k3:=P.k3;have I:=G.ls;have L:=Y.ls;have A:Qi.den (PW (m-1)) (ES (.ref n) (cu s a) (cu Z U) none none none none none none) M=.ok (.vl ((Vk K s Z).map nD)) M:=by
  unfold Qi;rw[Oi (ds:=Eu [s.map nD,Z.map nD] Z.length) (g:=λi=>nD (s.getD i 0*Z.getD i 0)) (by simp[Xl,zip2,wg,I,L]) (by simp[Eu];lia) (λi d X=>by
   let(N,rfl):=zip_get X;have T:i<s.length:=by lia
   have E:=Y.sm i;have S:Z.getD i 0=Z[i]:=by simp[N]
   rw[S]at E;exact(ES (.ref n) (cu s a) (cu Z U) none none none none none none++[some (nD s[i]),some (nD Z[i])],by simp[Tg.put,Hl,N,T],by
    have H:s.getD i 0=s[i]:=by simp[T]
    rw[H,S];exact Vm rfl rfl E))]
  simp[Vk,Eu,L]
 let(D,M',e,(O,C,rfl),Q,z):=avd (m:=m-1) (b3:=some (wg (Vk K s Z))) (b5:=none) (b6:=none) (r_ R) P h G Y;have e:K3.den _ _ _=_:=e;have F:∀B J,Ww.den (PW (m-1)) (ES (.ref n) (cu s a) (cu Z U) (some (wg (Vk K s Z))) (sR M.length) O C B J) M'=.ok (.vl ((Vl fD K s Z).map wg)) M':=λ_ _=>al7 beu k3 G Y
 have V:∀B J,Wv.den (PW (m-1)) (ES (.ref n) (cu s a) (cu Z U) (some (wg (Vk K s Z))) (sR M.length) O C B J) M'=.ok (.vl ((Vl fM K s Z).map wg)) M':=λ_ _=>al7 bev k3 G Y
 refine(M',?_,z);have W:p8 .tuple [.vl ((Vk K s Z).map nD)] M=.ok (wg (Vk K s Z)) M:=J9 _ _;have t2:p8 .tuple [.vl ((Vl fD K s Z).map wg)] M'=.ok (rD (Vl fD K s Z)) M':=J9 _ _;have q:p8 .tuple [.vl ((Vl fM K s Z).map wg)] M'=.ok (rD (Vl fM K s Z)) M':=J9 _ _;have t3:p8 .tuple [.ref M.length] M'=.ok (rD (prA hs Z a U hs.length)) M':=by simp[p8,Fw (ju Q),rD]
 simp[Fn.run,abg,abf,A,MW.new,e,F,V,W,t2,t3,q];rfl
abbrev EW(pt w1 w2:D)(b3 b4 b5 b6 b7 b8 b9 b10:Option D):Env:=[some pt,some w1,some w2,b3,b4,b5,b6,b7,b8,b9,b10]
def ahp{l:Y3}{i:Nat}(h:i<l.length):l[i]?\(l.getD i 0):=by rw[bx,bw h];rfl
def Kx(q:Nat)(M Y:fc):Prop:=∀b o,b≠q->M[b]?\o->Y[b]?\o
theorem Kx.set(h:M[q]?\o)(k:Kx q Z M):Kx q Z (M.set q U):=λb _ n e=>by rw[j9 (lg n)];exact k _ _ n e
def Oj{i j k:Nat}{s:Y3}{a:List (List Nat)}(h:ρ[i]?\(some (cu s a)))(Y:ρ[j]?\(sI k))(T:k<s.length):(Ex.xx (.var i) I0 (.var j)).den W ρ M=.ok (nD (s.getD k 0)) M:=by simp[h,Y,Xl,aaf T,nD]
def al8{i j k n x:Nat}{s:Y3}{a:List (List Nat)}(h:ρ[i]?\(some (cu s a)))(G:ρ[j]?\(sI n))(T:ρ[k]?\(sI x))(J:n<a.length)(Y:x<(a.getD n []).length):(Ex.xx (.ix (.var i) I1) (.var j) (.var k)).den W ρ M=.ok (nD ((a.getD n []).getD x 0)) M:=by simp only[acw,acv,h,G,T,Uu,Res.yc,al0,Res.Di,avc J,aaf Y];rfl
section
variable{pt:D}
def a1b{k i q:Nat}(P:Gq sz K hs jf)(L:Wd K hs s a)(Y:Wd K hs U Z)(B:hs[k]?\g)(Q:i<s.getD g.a 0)(z:M[q]?\(.lst (X.map nD)))(p:X.length<=2500) :
 ∃qq M',J5.den W (EW pt (cu s a) (cu U Z) b3 (sI k) (sI g.a) (sI g.b) (sR q) (sI i) b9 b10) M=.ok (.next,qq) M'/\(∃b9 b10,qq=EW pt (cu s a) (cu U Z) b3 (sI k) (sI g.a) (sI g.b) (sR q) (sI i) b9 b10) /\
  M'[q]?\(.lst ((X++(Z.getD k []).map λy=>(a.getD k []).getD i 0*U.getD g.b 0+y).map nD))/\Kx q M M':=by
 symm
 have C:=bf B;have E:=(ao.mp B).1;have D:g.a<K:=P.Y5 g C
 have H:g.b<K:=P.aav g C
 have u:=L.rl k g B;have N:=Y.rl k g B;have A:=Y.sm g.a;have l:=Y.sm g.b;let(qq,M',e,(b9,b10,rfl),h,O):=vz (S:=J5) (W:=W) (t:=.name 9) (b:=J2) (it:=.xx V2 I0 V5) (n:=U.getD g.a 0) (ρ:=EW pt (cu s a) (cu U Z) b3 (sI k) (sI g.a) (sI g.b) (sR q) (sI i) b9 b10) (M:=M) (M1:=M) rfl (Oj rfl rfl (by rw[Y.ls];exact D)) (a_ A ⋯)
  (λj T M'=>(∃b9 b10,T=EW pt (cu s a) (cu U Z) b3 (sI k) (sI g.a) (sI g.b) (sR q) (sI i) b9 b10)/\M'[q]?\(.lst ((X++((Z.getD k []).take j).map λy=>(a.getD k []).getD i 0*U.getD g.b 0+y).map nD))/\Kx q M M')
  ((b9,b10,rfl),by simpa using z,λ_ _ _ h=>h) (λj T J R V=>by
   symm
   let((b9,b10,rfl),h,O):=V;apply _k;have G:j<(Z.getD k []).length:=by rw[N];exact R
   have F:(Z.getD k []).take (j+1)=(Z.getD k []).take j++[(Z.getD k []).getD j 0]:=by rw[yp,ahp G];rfl
   have r:=al8 (W:=W) (M:=J) (ρ:=EW pt (cu s a) (cu U Z) b3 (sI k) (sI g.a) (sI g.b) (sR q) (sI i) (sI j) b10) (i:=1) (j:=4) (k:=8) (n:=k) (x:=i) rfl rfl rfl (b_ E (g_ L.la)) (by rw[u];exact Q);have c:=Vm r (Oj (i:=2) (j:=6) (k:=g.b) (s:=U) (a:=Z) rfl rfl (by rw[Y.ls];exact H)) l;rw[F];generalize hv:(a.getD k []).getD i 0*U.getD g.b 0=v at *;have I:=al5 (W:=W) (M:=J) (ρ:=EW pt (cu s a) (cu U Z) b3 (sI k) (sI g.a) (sI g.b) (sR q) (sI i) (sI j) (some (nD v))) (e:=Yw) (y:=v) rfl (al8 (i:=2) (j:=4) (k:=9) (n:=k) (x:=j) (s:=U) (a:=Z) rfl rfl rfl (b_ E (g_ Y.la)) G);generalize(Z.getD k []).getD j 0=y at *;have ap:=Ej (d:=nD (v+y)) h (by simp;lia);refine(EW pt (cu s a) (cu U Z) b3 (sI k) (sI g.a) (sI g.b) (sR q) (sI i) (sI j) b10,.next,EW pt (cu s a) (cu U Z) b3 (sI k) (sI g.a) (sI g.b) (sR q) (sI i) (sI j) (some (nD v)),J.set q (.lst ((X++((Z.getD k []).take j).map λy=>v+y).map nD++[nD (v+y)])),rfl,?_,.inl rfl,(_,_,rfl),by rw[qj h];simp,O.set h);simp[-Nj,-acw,-List.map_append,J2,c,Ed h,I,ap])
 rw[<-N,yh]at h;apply _k;exact(_,M',e,(_,_,rfl),h,O)
def a1c{k q:Nat}(P:Gq sz K hs jf)(Y:Wd K hs s a)(O:Wd K hs U a')(G:hs[k]?\g)(I:M[q]?\(.lst [])) :
 ∃Z M',J7.den W (EW pt (cu s a) (cu U a') b3 (sI k) (sI g.a) (sI g.b) (sR q) b8 b9 b10) M=.ok (.next,Z) M'/\(∃b8 b9 b10,Z=EW pt (cu s a) (cu U a') b3 (sI k) (sI g.a) (sI g.b) (sR q) b8 b9 b10) /\
  M'[q]?\(.lst ((prR (a.getD k []) (a'.getD k []) (U.getD g.b 0)).map nD))/\Kx q M M':=by
 symm
 have F:g.a<K:=P.Y5 g (bf G)
 have L:=Y.rl k g G;let(Z,M',e,(b8,b9,b10,rfl),h,B):=vz (S:=J7) (W:=W) (t:=.name 8) (b:=J6) (it:=.xx V1 I0 V5) (n:=s.getD g.a 0) (ρ:=EW pt (cu s a) (cu U a') b3 (sI k) (sI g.a) (sI g.b) (sR q) b8 b9 b10) (M:=M) (M1:=M) rfl (Oj rfl rfl (by rw[Y.ls];exact F)) (a_ (Y.sm g.a) ⋯)
  (λi T M'=>(∃b8 b9 b10,T=EW pt (cu s a) (cu U a') b3 (sI k) (sI g.a) (sI g.b) (sR q) b8 b9 b10)/\M'[q]?\(.lst ((prR ((a.getD k []).take i) (a'.getD k []) (U.getD g.b 0)).map nD))/\Kx q M M')
  ((b8,b9,b10,rfl),I,λ_ _ _ h=>h) (λi T H C V=>by
   symm
   let((b8,b9,b10,rfl),h,B):=V;apply _k;have E:i<(a.getD k []).length:=by rw[L];exact C
   symm
   have R:(a.getD k [])[i]?\((a.getD k []).getD i 0):=ahp E;let(Z,D,e,(A,J,rfl),N,k2):=a1b (W:=W) (pt:=pt) (b3:=b3) (b9:=b9) (b10:=b10) P Y O G C h (avb (Y.al k) (O.al k));rw[<-aho R]at N;apply _k;refine(EW pt (cu s a) (cu U a') b3 (sI k) (sI g.a) (sI g.b) (sR q) (sI i) b9 b10,.next,EW pt (cu s a) (cu U a') b3 (sI k) (sI g.a) (sI g.b) (sR q) (sI i) A J,D,rfl,?_,.inl rfl,(_,_,_,rfl),N,λb o n Q=>k2 b o n (B b o n Q));rw[J6,aw8,e];rfl)
 rw[<-L,yh]at h;apply _k;exact(_,M',e,(_,_,_,rfl),h,B)
end
def acf(p:1<=m)(P:Gq sz K U jf)(q:Wd K U s a)(Q:Wd K U Z a'):∃M',prog.call m 32 [uq K r U,cu s a,cu Z a'] M=.ok (cu (Vk K s Z) (prA U Z a a' U.length)) M'/\vf M M':=by
 rw[call_of p rfl];symm
 have k3:=P.k3;have V:=P.len;let(J,M',e,(N,O,C,B,T,G,Y,rfl),E,I):=vz (S:=Qm) (W:=PW (m-1)) (n:=U.length) (ρ:=EW (uq K r U) (cu s a) (cu Z a') (sR M.length) none none none none none none none) (M:=M++[.lst []]) (M1:=M++[.lst []]) rfl (by simp[Kf,Ig]) (a_ V ⋯)
  (λj J M'=>(∃N O C B T G Y,J=EW (uq K r U) (cu s a) (cu Z a') (sR M.length) N O C B T G Y)/\M'[M.length]?\(.lst ((prA U Z a a' j).map wg))/\vf M M')
  ((none,none,none,none,none,none,none,rfl),Dt,vf.app _ _) (λj t L y v=>by
   symm
   let((N,O,C,B,T,G,Y,rfl),E,I):=v;let(g,F):=aev y;have lt:=vm E;let(J,M2,e,(x,k,A,rfl),u,k2):=a1c (W:=PW (m-1)) (pt:=uq K r U) (b3:=sR M.length) (b8:=T) (b9:=G) (b10:=Y) P q Q F (M:=L++[.lst []]) Dt;have H:=k2 _ _ (h_ lt) (yd E);have z:prA U Z a a' (j+1)=prA U Z a a' j++[prR (a.getD j []) (a'.getD j []) (Z.getD g.b 0)]:=by simp[prA,qi,a2x F]
   apply _k;rw[z];generalize prR (a.getD j []) (a'.getD j []) (Z.getD g.b 0)=R at *;have c:p8 .tuple [.ref L.length] M2=.ok (wg R) M2:=by simp[p8,Fw (ju u),wg]
   have ap:=Ej (d:=wg R) H (by simp[prA];lia);refine(EW (uq K r U) (cu s a) (cu Z a') (sR M.length) (sI j) O C B T G Y,.next,EW (uq K r U) (cu s a) (cu Z a') (sR M.length) (sI j) (sI g.a) (sI g.b) (sR L.length) x k A,M2.set M.length (.lst ((prA U Z a a' j).map wg++[wg R])),rfl,?_,.inl rfl,(_,_,_,_,_,_,_,rfl),by rw[qj H,jc];rfl,λb o X=>?_)
   .simp[-List.map_append,Ql,Kf,Tu F,eD,MW.new,e,Ed H,c,ap]
   .have:=vm X
    rw[j9 (i_ this)];exact k2 _ _ (h_ (b_ this (a_ (xq lt) (bz _)))) (yd (I _ _ X)))
 have f:J1.den (PW (m-1)) (EW (uq K r U) (cu s a) (cu Z a') (sR M.length) N O C B T G Y) M'=.ok (.vl ((Vk K s Z).map nD)) M':=by unfold J1;rw[Jc (n:=K) (g:=λi=>nD (s.getD i 0*Z.getD i 0)) (by simp[Rf]) (a_ k3 ⋯) (λi D=>(EW (uq K r U) (cu s a) (cu Z a') (sR M.length) N O C B T G Y++[sI i],rfl,Vm (Oj rfl rfl (by rw[q.ls];exact D)) (Oj rfl rfl (by rw[Q.ls];exact D)) (Q.sm i)))];simp[Vk]
 have l:p8 .tuple [.vl ((Vk K s Z).map nD)] M'=.ok (wg (Vk K s Z)) M':=J9 _ _;have t3:p8 .tuple [.ref M.length] M'=.ok (rD (prA U Z a a' U.length)) M':=by simp[p8,Fw (ju E),rD]
 apply _k;exact(M',by simp[Fn.run,U4,U3,MW.new,e,f,l,t3];rfl,I)
abbrev EQ(pt w1 w2:D)(b3 b4 b5 b6:Option D):Env:=[some pt,some w1,some w2,b3,b4,b5,b6]
def ahq{y z k:Nat}{T:Op2}{f:Nat->Nat->Nat}(Y:∀i j:Nat,0<j->j<=50->∀M,Em T (.int i) (.int j) M=.ok (nD (f i j)) M)(C:M[q]?\(.lst ((List.range (y*z)).map nD)))(E:y*z<=100000)(G:z<=50)(J:k<Z.length)(e:Z.getD k 0=z) :
 (Ex.tp (.cp 7 (.val V6) (.bin T V7 (.xx V2 I0 V5)))).den W (EQ pt w (cu Z U) b3 b4 (sI k) (sR q)) M=.ok (wg ((List.range (y*z)).map λi=>f i z)) M:=by
 refine al6 ?_;rw[Bj (M1:=M) (ds:=(List.range (y*z)).map nD) (g:=λd=>match d with|.int i=>nD (f i.toNat z)|_=>.non) rfl (ju C) (by simpa using E) (λx N=>by
  let(i,B,rfl):=bh.mp N;refine(EQ pt w (cu Z U) b3 b4 (sI k) (sR q)++[some (nD i)],rfl,?_);have L:(Ex.xx V2 I0 V5).den W (EQ pt w (cu Z U) b3 b4 (sI k) (sR q)++[some (nD i)]) M=.ok (nD z) M:=by rw[<-e];exact Oj rfl rfl J
  have O:V7.den W (EQ pt w (cu Z U) b3 b4 (sI k) (sR q)++[some (nD i)]) M=.ok (nD i) M:=rfl;rw[Nj,O,Res.yc,L,Res.yc];exact Y i z (aai (jh.mp B)) G M)]
 simp[nD]
def ave(g:2<=m)(P:Gq sz K U jf)(F:Wd K U s a)(H:Wd K U Z a'):∃M',prog.call m 35 [uq K r U,cu s a,cu Z a'] M=.ok (prD K U s Z a a') M'/\vf M M':=by
 rw[call_of (a_ ⋯ g) rfl];symm
 have k3:=P.k3;let(C,M',e,(V,O,rfl),L,N,D):=vz (S:=Mz) (W:=PW (m-1)) (n:=K) (ρ:=EQ (uq K r U) (cu s a) (cu Z a') (sR M.length) (sR (M.length+1)) none none) (M:=M++[.lst []]++[.lst []]) (M1:=M++[.lst []]++[.lst []]) rfl (by simp[Rf]) (a_ k3 ⋯)
  (λk C M'=>(∃V O,C=EQ (uq K r U) (cu s a) (cu Z a') (sR M.length) (sR (M.length+1)) V O)/\M'[M.length]?\(.lst ((Vl fD k s Z).map wg))/\M'[M.length+1]?\(.lst ((Vl fM k s Z).map wg))/\vf M M')
  ((none,none,rfl),yd Dt,by simp[Vl],(vf.app _ _).trans (vf.app _ _)) (λk ρ Y v hI=>by
   symm
   let((V,O,rfl),L,N,D):=hI;apply _k;have R:k<s.length:=by rw[F.ls];exact v
   have G:k<Z.length:=by rw[H.ls];exact v
   have l1:=F.sm k;have E:=H.sm k;have l:∀f,Vl f (k+1) s Z=Vl f k s Z++[(List.range (s.getD k 0*Z.getD k 0)).map λi=>f i (Z.getD k 0)]:=λf=>by simp[Vl,qi]
   rw[l,l];have mu:(Ex.bin .mul (.xx V1 I0 V5) (.xx V2 I0 V5)).den (PW (m-1)) (EQ (uq K r U) (cu s a) (cu Z a') (sR M.length) (sR (M.length+1)) (sI k) O) Y=_:=Vm (Oj (k:=k) rfl rfl R) (Oj (k:=k) rfl rfl G) E;generalize hz:Z.getD k 0=z at *;have j:s.getD k 0*z<=100000:=a_ (wj l1 E) ⋯
   generalize s.getD k 0=y at *;have rl:(Ex.aas (.bin .mul (.xx V1 I0 V5) (.xx V2 I0 V5))).den (PW (m-1)) (EQ (uq K r U) (cu s a) (cu Z a') (sR M.length) (sR (M.length+1)) (sI k) O) Y=.ok (.ref Y.length) (Y++[.lst ((List.range (y*z)).map nD)]):=by rw[Yt,mu];show(if((y*z:Nat):Int).natAbs<=100000 then new _ _ else _)=_;rw[dm (by lia)];rfl
   have lt:=vm N;have J:(Y++[MO.lst ((List.range (y*z)).map nD)])[M.length]?=_:=yd L;have c:(Y++[MO.lst ((List.range (y*z)).map nD)])[Y.length]?=_:=Dt;have d1:(Ex.tp Ha).den (PW (m-1)) (EQ (uq K r U) (cu s a) (cu Z a') (sR M.length) (sR (M.length+1)) (sI k) (sR Y.length)) (Y++[.lst ((List.range (y*z)).map nD)])=_:=ahq beu c j E G hz;have ap:=Ej (d:=wg ((List.range (y*z)).map λi=>fD i z)) J (by simp[Vl];lia);have T:((Y++[MO.lst ((List.range (y*z)).map nD)]).set M.length (.lst ((Vl fD k s Z).map wg++[wg ((List.range (y*z)).map λi=>fD i z)])))[M.length+1]?\(.lst ((Vl fM k s Z).map wg)):=by rw[j9 (h_ (jy _))];exact yd N
   have X:((Y++[MO.lst ((List.range (y*z)).map nD)]).set M.length (.lst ((Vl fD k s Z).map wg++[wg ((List.range (y*z)).map λi=>fD i z)])))[Y.length]?\(.lst ((List.range (y*z)).map nD)):=by rw[j9 (h_ (vm L))];exact c
   have p:(Ex.tp G9).den (PW (m-1)) (EQ (uq K r U) (cu s a) (cu Z a') (sR M.length) (sR (M.length+1)) (sI k) (sR Y.length)) ((Y++[MO.lst ((List.range (y*z)).map nD)]).set M.length (.lst ((Vl fD k s Z).map wg++[wg ((List.range (y*z)).map λi=>fD i z)])))=_:=ahq bev X j E G hz;have I:=Ej (d:=wg ((List.range (y*z)).map λi=>fM i z)) T (by simp[Vl];lia);generalize(List.range (y*z)).map nD=Q at *;generalize(List.range (y*z)).map (λi=>fD i z)=A at *;generalize(List.range (y*z)).map (λi=>fM i z)=B at *;refine(EQ (uq K r U) (cu s a) (cu Z a') (sR M.length) (sR (M.length+1)) (sI k) O,.next,EQ (uq K r U) (cu s a) (cu Z a') (sR M.length) (sR (M.length+1)) (sI k) (sR Y.length),((Y++[MO.lst Q]).set M.length (.lst ((Vl fD k s Z).map wg++[wg A]))).set (M.length+1) (.lst ((Vl fM k s Z).map wg++[wg B])),rfl,?_,.inl rfl,(_,_,rfl),?_,by rw[qj T,jc];rfl,λb o u=>?_)
   .have t:My=p7.q (.a 6 (.aas (.bin .mul (.xx V1 I0 V5) (.xx V2 I0 V5)))) (.ap V3 (.tp Ha)) (.ap V4 (.tp G9)):=rfl
    rw[t];simp[-Yt,-Nk,-List.map_append,rl,Ed J,d1,ap,Ed T,p,I]
   .rw[j9 (i_ (jy _)),qj J,jc];rfl
   .have:=vm u
    rw[j9 (by lia),j9 (i_ this)];exact yd (D _ _ u))
 let(M2,e2,k2):=acf (m:=m-1) (r:=r) (M:=M') (r_ g) P F H;have x:p8 .tuple [.ref M.length] M2=.ok (rD (Vl fD K s Z)) M2:=by simp[p8,Fw (ju (k2 _ _ L)),rD]
 have t2:p8 .tuple [.ref (M.length+1)] M2=.ok (rD (Vl fM K s Z)) M2:=by simp[p8,Fw (ju (k2 _ _ N)),rD]
 apply _k;refine(M2,?_,D.trans k2);simp only[w5,zg,z6]at e;simp[Fn.run,Qq,Qp,MW.new,e,e2,x,t2];rfl
noncomputable def tR(K:Nat)(f:Nat->List D):D:=.tup ((List.range K).map λk=>.tup (f k))
noncomputable def Fp(n e:Nat)(Y:Y3)(k:Nat):List D:=(List.range (Y.getD k 0)).map λj=>.sy (.v n e k j)
def a8r(h:ls.length=K):syM n e ls=tR K (Fp n e ls):=by
 subst h;show D.tup _=D.tup _
 congr 1
 apply q9;intro i
 by_cases h:i<ls.length
 .simp[h,syR,Fp]
 .simp[h]
def bew(h:k<K):Bx (tR K f) (.int k) M\(.tup (f k)):=Jf q_ (by simp[h])
def a8s(J:K<=3)(G:∀k,(f k).length<=100000)(Y:∀k,∀d∈f k,Smp 1 d):Smp 3 (tR K f):=.tup (by simp;lia) λd T=>by let(k,_,rfl):=bh.mp T;exact .tup (G k) (Y k)
noncomputable def prL(n e T J:Nat)(G Y:Y3)(k:Nat):List D:=(List.range (G.getD k 0)).map λj=>.sy (.a (.m (.v n e k j) (Y.getD k 0:Nat)) (.v T J k j))
def a8t(x:Sy)(j:Int)(h:-(2^64)<j/\j<2^64):Em .mul (.sy x) (.int j) M=.ok (.sy (.m x j)) M:=dm h
def avf{e G Y:Ex}(h:e.den W Z M=.ok (.sy x) M)(B:G.den W Z M=.ok (nD z) M)(T:Y.den W Z M=.ok (.sy y) M)(O:z<=50):(Ex.bin .add (.bin .mul e G) Y).den W Z M=.ok (.sy (.a (.m x (z:Nat)) y)) M:=by have J:Em .mul (.sy x) (nD z) M=.ok (.sy (.m x (z:Nat))) M:=a8t x z (by lia,by lia);rw[Nj,Nj,h,Res.yc,B,Res.yc,J,Res.yc,T,Res.yc];rfl
def al9{j:Nat}(h:(Eu [Fp n e ls k,Fp Z U ls k] (Fp Z U ls k).length)[j]?\d):j<ls.getD k 0/\d=.tup [.sy (.v n e k j),.sy (.v Z U k j)]:=by
 let(Y,rfl):=zip_get h;have Y:j<ls.getD k 0:=by simpa[Fp]using Y
 have g:∀n e,(Fp n e ls k).getD j .non=.sy (.v n e k j):=λn e=>by rw[Fp,bx,ir,u9 Y];rfl
 exact(Y,by simp only[f9,Bu,g])
def avh(G:1<=m)(J:ls.getD k 0<=7)(Y:Z.getD k 0<=50):prog.call m 25 [.tup (Fp n e ls k),.tup (Fp n' e' ls k),nD (Z.getD k 0)] M=.ok (.tup (prL n e n' e' ls Z k)) M:=by
 rw[call_of G rfl];have c:Fz.den (PW (m-1)) [some (.tup (Fp n e ls k)),some (.tup (Fp n' e' ls k)),some (nD (Z.getD k 0))] M=.ok (.vl (prL n e n' e' ls Z k)) M:=by
  unfold Fz;rw[Oi (ds:=Eu [Fp n e ls k,Fp n' e' ls k] (Fp n' e' ls k).length) (g:=λj=>.sy (.a (.m (.v n e k j) (Z.getD k 0:Nat)) (.v n' e' k j))) (by simp[zip2,Fp]) (by simp[Eu,Fp,-List.getD_eq_getElem?_getD];lia) (λj d T=>by
   let(B,rfl):=al9 T;exact([some (.tup (Fp n e ls k)),some (.tup (Fp n' e' ls k)),some (nD (Z.getD k 0)),some (.sy (.v n e k j)),some (.sy (.v n' e' k j))],rfl,avf rfl rfl rfl Y))]
  simp[prL,Eu,Fp]
 have t:(Ex.tp Fz).den (PW (m-1)) [some (.tup (Fp n e ls k)),some (.tup (Fp n' e' ls k)),some (nD (Z.getD k 0))] M=_:=al6 c;simp[-Nk,-List.getD_eq_getElem?_getD,Fn.run,Uy,Ux,t]
def aok(G:2<=m)(T:K<=3)(B:∀k,ls.getD k 0<=7)(w:Wd K hs Z U):prog.call m 24 [cu Z U,tR K (Fp n e ls),tR K (Fp n' e' ls)] M=.ok (tR K (prL n e n' e' ls Z)) M:=by
 rw[call_of (a_ ⋯ G) rfl];have J:=w.ls;have c:Nv.den (PW (m-1)) [some (cu Z U),some (tR K (Fp n e ls)),some (tR K (Fp n' e' ls))] M=.ok (.vl ((List.range K).map λk=>.tup (prL n e n' e' ls Z k))) M:=by
  unfold Nv;rw[Oi (ds:=Eu [(List.range K).map λk=>.tup (Fp n e ls k),(List.range K).map λk=>.tup (Fp n' e' ls k),Z.map nD] (Z.map nD).length) (g:=λk=>.tup (prL n e n' e' ls Z k)) (by simp[bjz,tR,Xl,wg,J]) (by simp[Eu];lia) (λk d O=>by
   let(Y,rfl):=zip_get O;have Y:k<Z.length:=by simpa using Y
   have T:k<K:=by lia
   have g:((Z.map nD).getD k .non)=nD (Z.getD k 0):=by simp[bx,Y]
   have C:∀f:Nat->D,((List.range K).map f).getD k .non=f k:=λf=>by simp[bx,T]
   refine([some (cu Z U),some (tR K (Fp n e ls)),some (tR K (Fp n' e' ls)),some (.tup (Fp n e ls k)),some (.tup (Fp n' e' ls k)),some (nD (Z.getD k 0))],by simp only[f9,Bu,g,C];rfl,?_);have:=avh (m:=m-1) (n:=n) (e:=e) (n':=n') (e':=e') (M:=M) (r_ G) (B k) (w.sm k);simpa using this)]
  simp[Eu,J]
 have t:(Ex.tp Nv).den (PW (m-1)) [some (cu Z U),some (tR K (Fp n e ls)),some (tR K (Fp n' e' ls))] M=_:=al6 c;simp[-Nk,Fn.run,afn,afm,t];rfl
noncomputable abbrev EY(o l r:D)(b3 b4 b5 b6:Option D):Env:=[some o,some l,some r,b3,b4,b5,b6]
def ajs(H:1<=m)(R:K<=3)(P:∀k,ls.getD k 0<=7)(w:Wd K hs Z U):∃M',prog.call m 40 [cu Z U,tR K (Fp n e ls),tR K (Fp n' e' ls)] M=.ok (tR K (prL n e n' e' ls Z)) M'/\vf M M':=by
 rw[call_of H rfl];let(J,M',q,(B,G,Y,rfl),T,O):=vz (S:=O8) (W:=PW (m-1)) (n:=K) (ρ:=EY (cu Z U) (tR K (Fp n e ls)) (tR K (Fp n' e' ls)) (sR M.length) none none none) (M:=M++[.lst []]) (M1:=M++[.lst []]) rfl (by simp[tR,axc]) (a_ R ⋯)
  (λk J M'=>(∃B G Y,J=EY (cu Z U) (tR K (Fp n e ls)) (tR K (Fp n' e' ls)) (sR M.length) B G Y)/\M'[M.length]?\(.lst ((List.range k).map λk=>.tup (prL n e n' e' ls Z k)))/\vf M M')
  ((none,none,none,rfl),Dt,vf.app _ _) (λk N M1 L Q=>by
   let((B,G,Y,rfl),T,O):=Q;have sz:=Oj (W:=PW (m-1)) (M:=M1) (ρ:=EY (cu Z U) (tR K (Fp n e ls)) (tR K (Fp n' e' ls)) (sR M.length) (sI k) G Y) (i:=0) (j:=4) rfl rfl (by rw[w.ls];exact L);have E:=w.sm k;have c:Ie.den (PW (m-1)) (EY (cu Z U) (tR K (Fp n e ls)) (tR K (Fp n' e' ls)) (sR M.length) (sI k) (some (nD (Z.getD k 0))) Y) M1=.ok (.vl (prL n e n' e' ls Z k)) M1:=by
    unfold Ie;rw[Oi (ds:=Eu [Fp n e ls k,Fp n' e' ls k] (Fp n' e' ls k).length) (g:=λj=>.sy (.a (.m (.v n e k j) (Z.getD k 0:Nat)) (.v n' e' k j))) (by simp[zip2,bew L,Fp]) (by have:=P k;simp[Eu,Fp,-List.getD_eq_getElem?_getD];lia) (λj d V=>by
     let(F,rfl):=al9 V;exact(EY (cu Z U) (tR K (Fp n e ls)) (tR K (Fp n' e' ls)) (sR M.length) (sI k) (some (nD (Z.getD k 0))) Y++[some (.sy (.v n e k j)),some (.sy (.v n' e' k j))],rfl,avf rfl rfl rfl E))]
    simp[prL,Eu,Fp]
   have ap:=Ej (d:=.tup (prL n e n' e' ls Z k)) T (by simp;lia);refine(EY (cu Z U) (tR K (Fp n e ls)) (tR K (Fp n' e' ls)) (sR M.length) (sI k) G Y,.next,EY (cu Z U) (tR K (Fp n e ls)) (tR K (Fp n' e' ls)) (sR M.length) (sI k) (some (nD (Z.getD k 0))) (some (.vl (prL n e n' e' ls Z k))),M1.set M.length (.lst (((List.range k).map λk=>.tup (prL n e n' e' ls Z k))++[.tup (prL n e n' e' ls Z k)])),rfl,?_,.inl rfl,(_,_,_,rfl),?_,λb o C=>?_)
   .generalize Z.getD k 0=z at *
    simp[-acw,O7,sz,c,Ed T,J9,ap]
   .rw[qj T,qi,jc];rfl
   .rw[j9 (i_ (vm C))];exact O _ _ C)
 have t:p8 .tuple [.ref M.length] M'=.ok (tR K (prL n e n' e' ls Z)) M':=by simp[p8,Fw (ju T),tR]
 exact(M',by simp[Fn.run,Tq,Tp,MW.new,q,t],O)
def avi(G:2<=m)(T:W6 t f M)(Y:M[a]?\(.lst (Yr a ls n)))(O:t<a)(C:n<6000000):∃d Z,prog.call m 33 [.ref t,.ref a] M=.ok d Z/\St t f M Z/\(d=.non\/n≠0/\∃v,d=syM a v ls):=by
 rw[call_of (a_ ⋯ G) rfl];have J:p8 .len [.ref a] M=.ok (.int n) M:=by rw[len_list (ju Y)];simp[Yr]
 by_cases z:n=0
 .subst z
  exact(.non,M,by simp[Fn.run,Qo,Qn,J],St.of T (vf.refl _),.inl rfl)
 .let(v,Z,e,l,s,_):=Dw (m:=m-1) (many:=(n:Int)) (r_ G) T (by lia) (by lia)
  have B:Bx (.ref a) (.int v) Z\(syM a v ls):=Ei (ju (s.keep _ _ (i_ O) Y)) q_ (by simp[Yr,o_ l]);exact(_,Z,by simp[Fn.run,Qo,Qn,J,z,e,B],s,.inr (z,v,rfl))
def ama(O:5<=m)(P:Gq sz K U jf)(C:Pu K U s1 a1)(N:Pu K U s2 a2)(G:∃G,Gn K U s1 a1 G)(B:W6 t f M)
 (A:e0.den (PW m) ρ M=.ok (.ref t) M) (E:∀Z,e1.den (PW m) ρ Z=.ok (uq K r U) Z) (L:∀Z,e2.den (PW m) ρ Z=.ok (cu s1 a1) Z) (R:∀Z,e3.den (PW m) ρ Z=.ok (cu s2 a2) Z) :
 ∃d Z,(Ex.call 33 (.p e0 (.call 31 (.q e1 e2 e3)))).den (PW m) ρ M=.ok d Z/\St t f M Z/\(d=.non\/∃a v,d=tR K (Fp a v s1)):=by
 symm
 let(q,X,n,D,e,V,S,I,T,Q):=a09 (m:=m) (r:=r) (M:=M) (a_ ⋯ O) P C N G;have Y:=St.of B I;let(d,F,W,J,H):=avi (m:=m) (a_ ⋯ O) Y.has V (b_ (by let(_,h,_):=B;exact vm h) S) Q;apply _k;refine(d,F,by simp[A,E,L,R,e,W],Y.trans J,?_);rcases H with rfl|⟨z,v,rfl⟩
 .exact .inl rfl
 .rcases T with y|rfl
  .exact absurd y z
  .exact .inr (_,v,a8r C.ls)
abbrev EP(t:Nat)(pt w1 w2 w3:D)(b5 b6 b7:Option D):Env:=[sR t,some pt,some w1,some w2,some w3,b5,b6,b7]
def avj(J:6<=m)(P:Gq sz K Z jf)(L:Pu K Z s1 a1)(D:Pu K Z s2 a2)(H:Pu K Z s3 U)(I:∃G,Gn K Z s1 a1 G)(z:W6 t f M) :
 ∃M',prog.call m 36 [.ref t,uq K r Z,cu s1 a1,cu s2 a2,cu s3 U] M=.ok (.bl true) M'/\St t f M M':=by
 rw[call_of (a_ ⋯ J) rfl];have k3:=P.k3;let(a,M',e,_,st):=vz (W:=PW (m-1)) (S:=Ef) (n:=2) (ρ:=EP t (uq K r Z) (cu s1 a1) (cu s2 a2) (cu s3 U) none none none) (M:=M) (M1:=M) rfl rfl ⋯
  (λ_ N M'=>(∃F R B,N=EP t (uq K r Z) (cu s1 a1) (cu s2 a2) (cu s3 U) F R B)/\St t f M M') ((none,none,none,rfl),St.of z (vf.refl _))
  (λi N g hi s=>by
   let((F,R,B,rfl),st):=s;let(d1,M2,E,C,X):=ama (m:=m-1) (r:=r) (e0:=.v 0) (e1:=.v 1) (e2:=.v 2) (e3:=.v 3) (ρ:=EP t (uq K r Z) (cu s1 a1) (cu s2 a2) (cu s3 U) (sI i) R B) (r_ J) P L D I st.has (by simp) (by simp) (by simp) (by simp);let(l,T,O,Q,c):=ama (m:=m-1) (r:=r) (e0:=.v 0) (e1:=.v 1) (e2:=.v 2) (e3:=.v 4) (ρ:=EP t (uq K r Z) (cu s1 a1) (cu s2 a2) (cu s3 U) (sI i) (some d1) B) (r_ J) P L H I C.has (by simp) (by simp) (by simp) (by simp);have Y:=st.trans (C.trans Q);have V:Km .isn .non .non T\false:=rfl;have A:∀f,Km .isn (tR K f) .non T\true:=λ_=>rfl
   refine(EP t (uq K r Z) (cu s1 a1) (cu s2 a2) (cu s3 U) (sI i) R B,.next,?_);rcases X with rfl|⟨x,u,rfl⟩
   .exact(EP t (uq K r Z) (cu s1 a1) (cu s2 a2) (cu s3 U) (sI i) (some .non) (some l),T,rfl,by simp[-Uv,Cz,E,O,V],.inl rfl,(_,_,_,rfl),Y)
   .rcases c with rfl|⟨y,v,rfl⟩
    .exact(EP t (uq K r Z) (cu s1 a1) (cu s2 a2) (cu s3 U) (sI i) (some (tR K (Fp x u s1))) (some .non),T,rfl,by simp[-Uv,Cz,E,O,V,A],.inl rfl,(_,_,_,rfl),Y)
    .have p1:=aok (m:=m-1) (n:=x) (e:=u) (n':=y) (e':=v) (M:=T) (r_ (a_ ⋯ J)) k3 L.s7 H.wd
     let(M4,o,k4):=ajs (m:=m-1) (n:=x) (e:=u) (n':=y) (e':=v) (M:=T) (r_ (a_ ⋯ J)) k3 L.s7 H.wd;have sm:=aex (m:=m-1) (M:=M4) (a8s (f:=prL x u y v s1 s3) k3 (λk=>by rw[prL,du,Bo];exact a_ (L.s7 k) ⋯) λk d hd=>by
      let(j,_,rfl):=bh.mp hd;exact .sy) (r_ (a_ ⋯ J))
     have b:(Ex.call 34 (.p (.call 24 (.q (.v 4) (.v 6) (.v 7))) (.call 40 (.q (.v 4) (.v 6) (.v 7))))).den (PW (m-1)) (EP t (uq K r Z) (cu s1 a1) (cu s2 a2) (cu s3 U) (sI i) (some (tR K (Fp x u s1))) (some (tR K (Fp y v s1)))) T=.ok (.bl true) M4:=by simp[p1,o,sm]
     exact(EP t (uq K r Z) (cu s1 a1) (cu s2 a2) (cu s3 U) (sI i) (some (tR K (Fp x u s1))) (some (tR K (Fp y v s1))),M4,rfl,by simp[-Uv,Cz,E,O,A,b],.inl rfl,(_,_,_,rfl),Y.trans (St.of Y.has k4)))
 have e:Ef.den _ _ _=_:=e;exact(M',by simp[Fn.run,Ir,Ip,e],st)
def amb(M:fc)(a:MO):(M++[a])[M.length]?\a:=by simp
def Pu.prod(P:Gq sz K Z jf)(G:Pu K Z s a)(T:Pu K Z U a'):Wd K Z (Vk K s U) (prA Z U a a' Z.length):=by
 refine(by simp[Vk],by simp[prA],λk=>?_,λj g Y=>?_)
 .by_cases h:k<K
  .rw[Vk,Wr h];exact a_ (wj (G.s7 k) (T.s7 k)) ⋯
  .simp[Vk,h]
 .rw[prA,aoj (ao.mp Y).1,aey,G.wd.rl j g Y,T.wd.rl j g Y,Vk,Wr (P.Y5 g (bf Y))]
noncomputable def onS(K c:Nat):List Nat:=List.replicate K c
noncomputable def onA(n c:Nat):List (List Nat):=List.replicate n (List.replicate c 0)
def a2y(P:Gq sz K Z U)(G:c<=1):Wd K Z (onS K c) (onA Z.length c):=by
 have g:∀k,k<K->(onS K c).getD k 0=c:=λk h=>by simp[onS,bx,h]
 refine(by simp[onS],by simp[onA],λk=>?_,λj J Y=>?_)
 .by_cases h:k<K
  .rw[g k h];exact a_ G ⋯
  .simp[onS,bx,h]
 .have T:=(ao.mp Y).1
  rw[g _ (P.Y5 J (bf Y))];simp[onA,bx,T]
def amc{k:Nat}(Y:k<=100000):Em .mul (.tup [d]) (.int k) M=.ok (.tup (List.replicate k d)) M:=by
 have:(0:Int)<=k/\(k:Int)<=100000:=by lia
 simp[Em,aj5,this]
def aez:cu (onS K c) (onA n c)=.tup [.tup (List.replicate K (.int c)),.tup (List.replicate n (.tup (List.replicate c (.int 0))))]:=by simp[cu,onS,onA,nD]
def a1d(Y:2<=m)(P:Gq sz K Z U)(h:Made n r K Z U M):prog.call m 38 [.ref n] M=.ok (cu (onS K 1) (onA Z.length 1)) M/\prog.call m 39 [.ref n] M=.ok (cu (onS K 0) (onA Z.length 0)) M:=by
 have k3:=P.k3;have O:=P.len;have cl:(PW (m-1)).cls[2]?\(0,[(0,2),(1,1)]):=rfl;have T:(Ex.meth V0 1).den (PW (m-1)) [sR n] M=.ok (.int K) M:=by
  have:prog.call (m-1) 1 [.ref n] M=.ok (.int K) M:=by rw[call_of (r_ Y) rfl];simp[Fn.run,Oq,Oo,h.f2]
  rw[Mh];simp[h.1,cl,List.lookup,this]
 have B:(Ex.meth V0 0).den (PW (m-1)) [sR n] M=.ok (Ka Z) M:=by rw[Mh];simp[h.1,cl,List.lookup,acb (m:=m-1) (r_ Y) h]
 have J:∀d,Em .mul (.tup [d]) (.int K) M=_:=λd=>amc (a_ k3 ⋯)
 have G:∀d,Em .mul (.tup [d]) (.int Z.length) M=_:=λd=>amc (a_ O ⋯)
 rw[aez,aez,call_of (a_ ⋯ Y) rfl,call_of (a_ ⋯ Y) rfl];constructor
 .simp[-Mh,Fn.run,W4,W3,B,T,Ig,J,G]
 .simp[-Mh,Fn.run,abi,abh,B,T,Ig,J,G]
def acg(T:s.length<=100000)(G:a.length<=100000)(J:∀l∈a,l.length<=100000):Smp (n+4) (cu s a):=by
 refine .tup (ds:=[wg s,rD a]) (by show 2<=100000;decide) λd Y=>?_
 rcases dh.mp Y with rfl|Y
 .exact al4 T
 .rw[ig.mp Y]
  exact aah G J
def avk(G:Wd K U s a)(T:Wd K U Z a'):∀l∈Vl f K s Z,l.length<=100000:=λl Y=>by let(j,_,rfl):=bh.mp Y;rw[du,Bo];exact a_ (wj (G.sm j) (T.sm j)) ⋯
def avl(P:Gq sz K Z jf)(G:Wd K Z s a)(T:Wd K Z U a'):Smp 5 (prD K Z s U a a'):=by
 have k3:=P.k3;have B:=P.len;refine .tup (by show 3<=100000;decide) λd Y=>?_
 rcases dh.mp Y with rfl|Y
 .refine acg (by simp[Vk];lia) (by simp[prA];lia) λl J=>?_
  let(j,_,rfl):=bh.mp J;rw[aey];exact a_ (wj (G.al j) (T.al j)) ⋯
 .rcases dh.mp Y with rfl|Y
  .exact aah (by simp[Vl];lia) (avk G T)
  .rw[ig.mp Y]
   exact aah (by simp[Vl];lia) (avk G T)
def avm(P:Gq sz K Z U):Smp 5 (.vl [cu (onS K 1) (onA Z.length 1),cu (onS K 0) (onA Z.length 0)]):=by
 have k3:=P.k3;have J:=P.len;have w:∀c,c<=1->Smp 4 (cu (onS K c) (onA Z.length c)):=λc G=>acg (by simp[onS];lia) (by simp[onA];lia) λl T=>by rw[(List.mem_replicate.mp T).2,ye];exact a_ G ⋯
 refine .vl (by show 2<=100000;decide) λd Y=>?_
 rcases dh.mp Y with rfl|Y
 .exact w 1 (bz 1)
 .rw[ig.mp Y];exact w 0 (jd 1)
abbrev EL(sc:D)(t:Nat)(pt:D)(n:Nat)(w1 w2 w3:D)(b7 b8 b9 b10 Iu:Option D):Env:=[some sc,sR t,some pt,sR n,some w1,some w2,some w3,b7,b8,b9,b10,Iu]
def aol(Y:5<=m)(P:Gq sz K Z jf)(C:Made n r' K Z jf M)(G:Wd K Z s a)(T:Wd K Z U a') :
 ∃M',ac9.den (PW m) (EL sc t (uq K r Z) n x1 x2 x3 b7 b8 b9 (some (cu s a)) (some (cu U a'))) M=.ok (.next,EL sc t (uq K r Z) n x1 x2 x3 b7 b8 b9 (some (cu s a)) (some (cu U a'))) M'/\vf M M':=by
 let(L,B,O):=ajr (m:=m) (a_ ⋯ Y) P C G T;let(J,N,k2):=ave (m:=m) (r:=r) (M:=L) (a_ ⋯ Y) P G T;have sm:=aex (m:=m) (M:=J) (avl P G T) Y;exact(J,by simp[ac9,B,N,sm],O.trans k2)
def a8u{m:Nat}{ns:Xs}{M:fc}(C:7<=m):∃M',prog.call m 37 [.fz (ns.map D.int)] M=.ok (.bl true) M':=by
 rw[call_of (a_ ⋯ C) rfl];let(f,f0,s0,o0):=aqs (m:=m-1) (k:=0) (ns:=ns) (M:=M) (r_ (a_ ⋯ C));have s0:prog.call (m-1) 13 [.fz (ns.map D.int),.int 0] M=_:=s0;have qv:W6 M.length f0 (M++[.lst [.int f,.bl f0]]):=(f,by simp,o0);let(K,r,sz,Y,O,M1,e0,p,lr,P,t0):=aio (m:=m-1) (r_ (a_ ⋯ C)) qv;have e0:prog.call (m-1) 17 [.ref M.length] (M++[.lst [.int f,.bl f0]])=.ok (uq K r Y) M1:=e0;have T:r≠M.length:=by have:=lr;simp at this;lia
 have di:p8 .dict [.ref r] M1=.ok (.ref M1.length) (M1++[.dT O]):=by show Xy M1 (.ref r)=_;simp[Xy,p,P.sm,MW.new]
 have nn:(M1++[.dT O]++[.ins 2 []])[(M1++[MO.dT O]).length]?\(.ins 2 []):=amb _ _;let(M2,a0,y,md,la,lb,k0):=axp (M:=M1++[.dT O]++[.ins 2 []]) (m:=m-1) (r:=M1.length) (n:=(M1++[MO.dT O]).length) (r_ (a_ ⋯ C)) P (yd (amb _ _)) nn;have L:vf M1 M2:=λa o h=>k0 a o (by have:=vm h;simp;lia) (yd (yd h))
 have q4:M.length<M1.length:=by let(k,h,o):=t0.has;exact vm h
 have mk:(Ex.make 2 (.q (.ix (.v 2) (.i 0)) (.ix (.v 2) (.i 1)) (.blt .dict (.o (.ix (.v 2) (.i 2)))))).den (PW (m-1)) [some (.fz (ns.map D.int)),sR M.length,sP K r Y,none,none,none,none,none,none,none,none,none] M1=.ok (.ref (M1++[MO.dT O]).length) M2:=by have cl:(prog.cls)[2]?\(0,[(0,2),(1,1)]):=rfl;generalize l:(M1++[MO.dT O]).length=q at y;simp only[w5]at y;simp[Rf,Kf,a2q,di,cl,<-l]at y⊢;simp[y]
 have nt:(M1++[MO.dT O]).length≠M.length:=by simp;lia
 generalize(M1++[MO.dT O]).length=n at mk md nt;have q2:W6 M.length f0 M2:=by let(k,h,o):=t0.has;exact(k,L _ _ h,o)
 have b:a0≠M.length:=by have:=la;simp at this;lia
 have h3:=P.k3;have l5:=P.len;have z:2<=m-1:=r_ (a_ ⋯ C)
 let(B,G,M3,e3,X,G1,s):=aae (m:=m-1) (r:=r) z P q2 (L _ _ p) T;let(J,N,M4,e4,V,G2,s4):=aae (m:=m-1) (r:=r) z P s.has (s.keep _ _ T (L _ _ p)) T;let(Q,R,M5,e5,w3,G3,F):=aae (m:=m-1) (r:=r) z P s4.has (s4.keep _ _ T (s.keep _ _ T (L _ _ p))) T;have I:=s.trans (s4.trans F);have A:Made n a0 K Y O M5:=(I.keep _ _ nt md.1,I.keep _ _ b md.2);have c1:ada.den (PW (m-1)) [some (.fz (ns.map D.int)),sR M.length,sP K r Y,sR n,none,none,none,none,none,none,none,none] M2=.ok (.vl [cu B G,cu J N,cu Q R]) M5:=by unfold ada;rw[Je];simp[srcOf,Bb,Src.len,Er,Src.item,Src.fin,Tg.put,qi,e3,e4,e5]
 have qq:∀d,Em .mul (.tup [d]) (.int K) M5=_:=λd=>amc (a_ h3 ⋯)
 have qk:∀d,Em .mul (.tup [d]) (.int Y.length) M5=_:=λd=>amc (a_ l5 ⋯)
 let(e,e6,k6):=acf (m:=m-1) (r:=r) (M:=M5) (r_ (a_ ⋯ C)) P X.wd V.wd;let(o1,o2):=a1d (m:=m-1) z P A;have sm:=aex (m:=m-1) (M:=M5) (avm P) (r_ (a_ ⋯ C));have u:=X.wd;have v2:=V.wd;have v3:=w3.wd;have g:=Pu.prod P X V;have v5:=a2y P (c:=0) (jd 1);have v6:=a2y P (c:=1) (bz 1);have q1:D.tup [.tup (List.replicate K (.int 1)),.tup (List.replicate Y.length (.tup [.int 0]))]=cu (onS K 1) (onA Y.length 1):=aez.symm;have Z:D.tup [.tup (List.replicate K (.int 0)),.tup (List.replicate Y.length (.tup []))]=cu (onS K 0) (onA Y.length 0):=aez.symm;generalize Vk K B J=sw at e6 g;generalize prA Y J G N Y.length=aw at e6 g;generalize onS K 0=z0 at *;generalize onA Y.length 0=y0 at *;generalize onS K 1=z1 at *;generalize onA Y.length 1=y1 at *;have U:=St.of F.has k6;let(q3,M7,e7,(E,Iu,rfl),j):=Du (S:=akb) (W:=PW (m-1)) (ρ:=EL (.fz (ns.map D.int)) M.length (uq K r Y) n (cu B G) (cu J N) (cu Q R) (some (cu z1 y1)) (some (cu z0 y0)) (some (cu sw aw)) none none) (M:=e) (M1:=e) rfl
  (d:=.vl ([Prod.mk (Prod.mk B G) (Prod.mk J N),Prod.mk (Prod.mk Q R) (Prod.mk sw aw),Prod.mk (Prod.mk sw aw) (Prod.mk B G),Prod.mk (Prod.mk z1 y1) (Prod.mk B G),Prod.mk (Prod.mk J N) (Prod.mk z0 y0),Prod.mk (Prod.mk B G) (Prod.mk J N)].map λq=>.tup [cu q.1.1 q.1.2,cu q.2.1 q.2.2])) (by simp) rfl
  (λ_ H M'=>(∃E Iu,H=EL (.fz (ns.map D.int)) M.length (uq K r Y) n (cu B G) (cu J N) (cu Q R) (some (cu z1 y1)) (some (cu z0 y0)) (some (cu sw aw)) E Iu)/\vf e M') ((none,none,rfl),vf.refl _) (λ_ _ _ _=>rfl)
  (λi x H M7 hx hI=>by
   let((E,Iu,rfl),j):=hI;let(q,l,rfl):=bh.mp (bf hx);have vv:Wd K Y q.1.1 q.1.2/\Wd K Y q.2.1 q.2.2:=by
    simp only[dh,yg,or_false]at l;rcases l with rfl|rfl|rfl|rfl|rfl|rfl
    .exact(u,v2)
    .exact(v3,g)
    .exact(g,u)
    .exact(v6,u)
    .exact(v2,v5)
    .exact(u,v2)
   let(M8,e8,k8):=aol (m:=m-1) (r:=r) (sc:=.fz (ns.map D.int)) (t:=M.length) (x1:=cu B G) (x2:=cu J N) (x3:=cu Q R) (b7:=some (cu z1 y1)) (b8:=some (cu z0 y0)) (b9:=some (cu sw aw)) (r_ (a_ ⋯ C)) P (A.keep (k6.trans j)) vv.1 vv.2;exact(_,.next,_,M8,rfl,e8,.inl rfl,(_,_,rfl),j.trans k8))
 have q0:=St.of U.has j;let(M8,e8,s8):=avj (m:=m-1) (r:=r) (r_ C) P w3 X V G3 q0.has;let(M9,e9,s9):=avj (m:=m-1) (r:=r) (r_ C) P w3 V X G3 s8.has;have tu:∀H,(Tg.names [4,5,6]).put (.vl [cu B G,cu J N,cu Q R]) H\(Hl [4,5,6] [cu B G,cu J N,cu Q R] H):=λ_=>rfl
 exact(M9,by simp[-afj,Fn.run,aqn,a1v,s0,e0,mk,c1,tu,Rf,Kf,Ig,qq,qk,q1,Z,o1,o2,sm,e6,e7,e8,e9])
open PySem L2
open PySem.W
def mid{Y:Type}{l r t:List Y}{x y z:Y}(G:l.length=15)(T:r.length=15)(h:(l++x::(r++y::t))[31]?\z):z=y:=by rw[jk (by rw[G];decide),G]at h;replace h:(r++y::t)[15]?\z:=h;rw[jk (by rw[T];decide),T]at h;cases h;rfl
set_option maxHeartbeats 0 in
def all_mk{l:OpenLaw}{K:Frag}{fs gs hs:X9}{cs ds es:List FuncData}{C G J Y:Addr}{D c1 T:FuncData}(X:mg "law"\(.ref U))
 (aC:Ck.Ug K mg tab (G::J::Y::Y::Y::Y::(fs++Y::(gs++U::hs))) tab.cls [none,none,some C] prog.cls) (B:Ck.Z7 mg tab.fns (G::J::Y::Y::Y::Y::(fs++Y::(gs++U::hs)))) (aF:Ck.ahd K Ds sts (G::J::Y::Y::Y::Y::(fs++Y::(gs++U::hs))) (D::c1::T::T::T::T::(cs++T::(ds++fnOf "law" "law" (Iz (top 44)) (Gf (top 44)) (By (top 44)) .none kW dc pm an cd ct::es)))) (M:Ck.aua mg tab.azw) (O:Ck.AllB mg Ck.Rb) (R:fs.length=15) (N:gs.length=15) (W:cs.length=15) (h4:ds.length=15) :
 ∃fd:FuncData,(∀(s:Shared)(v:Value),BindsTo s fd ([v],[]) [("script",v)])/\∀Z:Heap,K.In Z->Z.Ns mainGlobals mg->Ii l.prog w K mg Z CX0 170 U fd ["script"] (Ck.alm K):=by
 refine(fnOf "law" "law" (Iz (top 44)) (Gf (top 44)) (By (top 44)) .none kW dc pm an cd ct,λs v=>.of_eq rfl,λZ _ _=>?_);let(d,a,f,I,S,A,g4,V):=Ck.a78 (P:=l.prog) (w:=w) (base:=Z) (n:=10) (i:=37) (F:=aqn) bjg chk bjh bji bjj aF B aC M O rfl;cases I;cases mid R N S;cases mid W h4 A;exact V.imp λvs H Q E L=>Ck.a0j (λns hl=>a8u ⋯) L
end K31
open PySem PySem.W PyProof.Rows
namespace PySem.W.Fast
def tw203564034367094201:=Nat
def tw1519175231910168278:=Nat
def tw4705486268731116660:=Nat
def tw5406546119409292133:=Nat
def tw716627506661444972:=Nat
def tw2035441213663059709:=Nat
def tw12187008493978568078:=Nat
def tw13006131187197966410:=Nat
def tw2138213822000012395:=Nat
def tw18127812861721881209:=Nat
def tw3494322923844105462:=Nat
def tw12841640356054156373:=Nat
def tw11695772003236384013:=Nat
def tw5443169693665853918:=Nat
def tw7821111675092929642:=Nat
def tw3003392737863315669:=Nat
def tw16984473682593790832:=Nat
def tw128242888266115302:=Nat
def tw2872471911319174340:=Nat
def tw9052880541855104846:=Nat
def tw5760437592327932315:=Nat
def tw11792193727652083175:=Nat
def tw15877135036778991081:=Nat
def tw12693601413831870637:=Nat
def tw6686056800336936850:=Nat
def tw9800208173155783421:=Nat
def tw6695323080195681671:=Nat
def tw9843652464469059210:=Nat
def tw13244925928947533348:=Nat
def tw16203493738512197749:=Nat
def tw141447197421148281:=Nat
def tw9250598866897976616:=Nat
def tw811808262014254735:=Nat
def tw5403097078762354017:=Nat
def tw16094115484067995869:=Nat
def tw5060307394013475062:=Nat
def tw13878490780514234471:=Nat
def tw2257590765823830271:=Nat
def tw9501412401479337785:=Nat
def tw15042165422701100885:=Nat
def tw3854897830549384691:=Nat
def tw6699480999491754845:=Nat
def tw6572686433006115291:=Nat
def tw15970685060164925640:=Nat
def tw4408267672579143715:=Nat
def tw2339944404029667616:=Nat
def tw11861682653310624938:=Nat
def tw10575737450532687474:=Nat
def tw6150311890912865472:=Nat
def tw5903235445252305530:=Nat
def tw2878943505049397296:=Nat
def tw4863959178468936208:=Nat
def tw9675276880975905399:=Nat
def tw17746148713851492902:=Nat
def tw378734984758668062:=Nat
def tw3626331678698512466:=Nat
def tw882737719445947429:=Nat
def tw7424322107352078665:=Nat
def tw17926750697458403084:=Nat
def tw9334772924418932004:=Nat
def tw2823329651803981688:=Nat
def tw9693641838932851938:=Nat
def tw10140407639384109423:=Nat
def tw12473787830252547633:=Nat
def tw3746750283766079534:=Nat
def tw15020390346144373094:=Nat
def tw8421299610110151951:=Nat
def tw12761429699659558087:=Nat
def tw3884675474833442616:=Nat
def tw5776707453782693327:=Nat
def tw12207699570744509403:=Nat
def tw1408252081718057626:=Nat
def tw7431399878199897237:=Nat
def tw1749133111921610500:=Nat
def tw2763428286530382597:=Nat
def tw2491696557597637452:=Nat
def tw18149410751269004173:=Nat
def tw16159249837426640388:=Nat
def tw11782766006022284894:=Nat
def tw7411600559081837354:=Nat
def tw16748546212455806166:=Nat
def tw162668148389103465:=Nat
def tw1074172131145274024:=Nat
def tw7608767765160438138:=Nat
def tw8499837349670376973:=Nat
def tw604286522124828861:=Nat
def tw7949732527320795582:=Nat
def tw11786278076114975357:=Nat
def tw1493877909310716650:=Nat
def tw13696692539986695644:=Nat
def tw17767539852177545446:=Nat
def tw1716491573775963308:=Nat
def tw10461214427221736354:=Nat
def tw13944632971674061926:=Nat
def tw3476992336530592114:=Nat
def tw15614267056870023464:=Nat
def tw145507316011725517:=Nat
def tw2877570177509253096:=Nat
def tw2288036714700839440:=Nat
def tw9947068141480923782:=Nat
def tw10744601978434024004:=Nat
def tw14086663162967539408:=Nat
def tw17328886522303266953:=Nat
def tw5717238579011341012:=Nat
def tw15068839968649495424:=Nat
def tw1365755517565527354:=Nat
def tw1527269064585242999:=Nat
def tw1909228007277105414:=Nat
def tw10046550948117116570:=Nat
def tw2561934237799310057:=Nat
def tw15557470761291110815:=Nat
def tw15838610374214297957:=Nat
def tw9238715834466820043:=Nat
def tw3171690766481172933:=Nat
def tw11613404126342967948:=Nat
def tw12695437681004550716:=Nat
def tw6834629186007126709:=Nat
def tw9832101211302844637:=Nat
def tw5473967725664139710:=Nat
def tw3755469416422378032:=Nat
def tw3666345022147943620:=Nat
def tw7329059916194945258:=Nat
def tw16948830189188476471:=Nat
def tw10873035403156434701:=Nat
def tw12233419992043645147:=Nat
def tw6465556363533008639:=Nat
def tw13861087576243220816:=Nat
def tw18169386852116775452:=Nat
def tw2511495998334735661:=Nat
def tw1962785493003324041:=Nat
def tw9802341619809621081:=Nat
def tw18439704423488003125:=Nat
def tw10769631568367949365:=Nat
def tw6937967327592066583:=Nat
def tw5923116661287480254:=Nat
def tw4578278574147124957:=Nat
def tw12694845714188991197:=Nat
def tw616207862790320337:=Nat
def tw6876872097750271754:=Nat
def tw13939430954244887149:=Nat
def tw438942849154189620:=Nat
def tw3054305373134537491:=Nat
def tw5284922200797354125:=Nat
def tw9774680567572911761:=Nat
def tw2905706409683575749:=Nat
def tw17902603447969241554:=Nat
def tw7962839359260740598:=Nat
def tw229182980567414265:=Nat
def tw526351540705473564:=Nat
def tw2865349024948020618:=Nat
def tw12096712461977612988:=Nat
def tw17844928690798851492:=Nat
def tw13877356580221797444:=Nat
def tw4735303225845945986:=Nat
def tw7994202355879210113:=Nat
def tw16238916901152998086:=Nat
def tw14078557688853087065:=Nat
def tw14030610868481714750:=Nat
def tw2502546449533684458:=Nat
def tw3533709254456153370:=Nat
def tw8813594235821484353:=Nat
def tw1550901067410783942:=Nat
def tw14013917008268266579:=Nat
def tw9420178376491183429:=Nat
def tw318606363664174485:=Nat
def tw12456514044258999305:=Nat
def tw3641851067944238031:=Nat
def tw5123036680920648865:=Nat
def tw4983006217198933785:=Nat
def tw9744361752841977220:=Nat
def tw9400316340637260033:=Nat
def tw5938967165289482913:=Nat
def tw1089538866988824431:=Nat
def tw1460969709945971108:=Nat
def tw16396095059483925986:=Nat
def tw12055346447043404579:=Nat
def tw2211460305792641105:=Nat
def tw12064883382623416155:=Nat
def tw8294700240362022732:=Nat
def tw8364623541892845418:=Nat
def tw1887720703831632333:=Nat
def tw10581232317625294469:=Nat
def tw6557313260735411563:=Nat
def tw1568294287990585527:=Nat
def tw14409482020523389637:=Nat
def tw4276775698978089568:=Nat
def tw10970671109748142009:=Nat
def tw3263107135310619203:=Nat
def tw5468491427619964418:=Nat
def tw17163359817528511675:=Nat
def tw441387705625687515:=Nat
def tw2201543821599162543:=Nat
def tw16414364025458582501:=Nat
def tw8808183642243137834:=Nat
def tw17508622710909420172:=Nat
def tw11590972883888649431:=Nat
def tw10434111971171911146:=Nat
def tw952949596316146942:=Nat
def tw5240783050239878784:=Nat
def tw15485756594786006333:=Nat
def tw944261848086154297:=Nat
def tw15370790760899771484:=Nat
def tw8372751889534397484:=Nat
def tw6022763330565757991:=Nat
def tw16294950428164801057:=Nat
def tw9844226133578719600:=Nat
def tw9540849231712392060:=Nat
def tw9333415791528818602:=Nat
def tw9320985657475380634:=Nat
def tw9168318489843092531:=Nat
def tw8227907456838213014:=Nat
def tw8183248947089303189:=Nat
def tw7773502839585411437:=Nat
def tw7771140316427077775:=Nat
def tw7060898472873860485:=Nat
def tw7060153216689931372:=Nat
def tw6722738507722407428:=Nat
def tw6254972332876138472:=Nat
def tw6220391305475707428:=Nat
def tw6200300516386209926:=Nat
def tw6025081826059190367:=Nat
def tw5676313801474214271:=Nat
def tw5670517372297975406:=Nat
def tw5509599858941836907:=Nat
def tw5052121557340389033:=Nat
def tw4689290248412466472:=Nat
def tw4242502901355545759:=Nat
def tw3972777204686789474:=Nat
def tw3916696067267688870:=Nat
def tw3480456585668886890:=Nat
def tw3476510773470807269:=Nat
def tw241639720815517302:=Nat
def tw2337359485679505615:=Nat
def tw2284059917807738673:=Nat
def tw2012245076458156491:=Nat
def tw18043870405450680274:=Nat
def tw17599178808343999248:=Nat
def tw17124683465785636355:=Nat
def tw16901926197954324535:=Nat
def tw16065051953166014916:=Nat
def tw1593922260216606669:=Nat
def tw1591686220657933517:=Nat
def tw1568598858483416050:=Nat
def tw15104325943493540777:=Nat
def tw15067388609927214800:=Nat
def tw14802429609174798038:=Nat
def tw14715973142945522576:=Nat
def tw1408656944086528360:=Nat
def tw14026654680718720581:=Nat
def tw13831980972107798903:=Nat
def tw13643764011122938922:=Nat
def tw13571614758050416908:=Nat
def tw13526793683921072575:=Nat
def tw13455271410293552387:=Nat
def tw13326264945425848725:=Nat
def tw13298642800091094863:=Nat
def tw13088655487551731759:=Nat
def tw12838186454402293923:=Nat
end PySem.W.Fast
set_option maxRecDepth 100000 in
set_option maxHeartbeats 0 in
theorem PySem.Challenge.cw_mapwright_k31_products_holds : PySem.Challenge.rw_mapwright_k31_products.Holds := by
 w_on;o_law;k_head;(case hw=>w_witness2)
 k_fill
 refine Ck.walk (l:=PySem.Challenge.rw_mapwright_k31_products) rfl rfl (λw h Y=>PySem.W.kIn_of Y) ?F
 case F =>
  intro w mg fa h KX G hmg;have hl:=mg_of KX G (n :="law") (v:=.ref _) (by k_is);cases hmg.symm.trans hl;exact K31.all_mk (fs:=[_,_,_,_,_,_,_,_,_,_,_,_,_,_,_]) (gs:=[_,_,_,_,_,_,_,_,_,_,_,_,_,_,_]) (hs:=[_,_,_]) (cs:=[_,_,_,_,_,_,_,_,_,_,_,_,_,_,_]) (ds:=[_,_,_,_,_,_,_,_,_,_,_,_,_,_,_]) (es:=[_,_,_]) hmg
   (by
    refine Ck.cO (Ck.cO (Ck.cS (mg_of KX G (by k_is),(by k_is,by k_is,by k_is,by k_is),(_,rfl,(by k_is,by k_is,by k_is,by k_is)),?_,?_) Ck.cN))
    .repeat (first|exact Ck.mN|refine Ck.mC rfl rfl (by k_is,by k_is,by k_is) ?_)
    .repeat (first|exact Ck.nN|refine Ck.nC (by k_is) ?_))
   (by repeat (first|exact Ck.gN|refine Ck.gO ?_|refine Ck.gS (mg_of KX G (by k_is)) ?_))
   (by dsimp only[K31.Ds,K31.fd];repeat (first|exact Ck.fN|refine Ck.fE (by k_is,by k_is,by k_is) ?_))
   (by repeat (first|exact Ck.vN|refine Ck.vC (mg_of KX G (by k_is)) ?_))
   (by repeat (first|exact Ck.bN|refine Ck.bC (mg_none_of KX G (by k_is)) ?_)) rfl rfl rfl rfl
