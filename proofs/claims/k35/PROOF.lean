import PyProof.Rows.All
import Wide.All
import OpenK.AllK
import Wide.FinOn
import Lean
import PyProof.EqAt
import PyProof.EqKinds
import PyProof.TupleCall
import PyProof.NeKinds
import PyProof.SetScanFacts
import PyProof.TupleKey
import PyProof.SetKind
import PyProof.IsRules
import PyProof.Rules
import PyProof.Rows.SetFrom
import PyProof.SetRoads
import KE.KDictOf
import PyProof.Rows.MinMaxN
import PyProof.ListRange
import PyProof.TupleOfGen
import PyProof.EnumMake
import PyProof.ZipIter
import PyProof.Rows.ZipGen
import PyProof.CollectWalk
import PyProof.ForAny
import PyProof.Rows.SortWalk
import PyProof.CollectIter
import PyProof.Rows.SortRuns
import KE.KSortTup
import KE.KDictSum
import PyProof.FactsAll.tuple_2
import KE.KRevSl
import PySem.Challenge.RW_mapwright_k35_parts
set_option Elab.async false
set_option linter.all false
set_option tactic.hygienic false
set_option genSizeOf false
set_option bootstrap.genMatcherCode false
set_option compiler.extract_closed false
set_option compiler.reuse false
set_option genInjectivity false
set_option maxRecDepth 100000
open Lean in
local macro_rules(kind:=«term{_}»)|`({$k:num,$a,*})=>let k:=k.getNat;`($(mkIdent (.mkSimple s!"zI{k}_{a.getElems.size-k}")) $a*)
open Lean in
local macro_rules|`(tactic|let $p:term:=$e)=>let k s a:=mkNode (`Lean.Parser.Tactic++s) a;let m x:=k `rcasesPatMed #[mkNullNode #[x]];let K (a:Array Syntax):=#[a[1]![0]]++a[1]![2].getSepArgs;do
 let q:=p.raw.rewriteBottomUp λs=>match s with|.ident ..=>k `rcasesPat.one #[s]|.node _ `Lean.Parser.Term.hole _=>k `rcasesPat.ignore #[mkAtom "_"]|.node _ `Lean.Parser.Term.tuple a=>k `rcasesPat.tuple #[mkAtom "⟨",mkNullNode (mkSepArray ((K a).map λx=>k `rcasesPatLo #[m x,mkNullNode]) (mkAtom ",")),mkAtom "⟩"]|_=>s
 let o←`(tactic|obtain $(⟨m q⟩):rcasesPatMed:=$e)
 let c:=K p.raw.getArgs
 let n:=c.size
 if c.any (·.isOfKind `Lean.Parser.Term.tuple) then return o
 let z i:=mkIdent (.mkSimple s!"r_{i}")
 let u:=(Array.range n).filter λi=>c[i]!.getId==`rfl
 let x:Array Term:=(Array.range n).map λi=>⟨if u.contains i then z i else c[i]!⟩
 let U←u.mapM λi=>`(tactic|subst $(z i))
 if u.size>0&&!e.raw.isIdent&&(e.raw.find? λs=>s.isIdent&&x.any (·.raw.getId==s.getId.getRoot)).isSome then return o
 let mut r:=o
 for i in [0:n] do
  let k:=n-1-i
  if [(1,2),(3,4),(1,1),(0,2),(2,4),(2,2),(1,3),(2,3),(0,3),(5,4),(3,3),(1,4),(2,1),(4,6),(4,4),(2,5),(5,5),(4,7),(0,5),(4,5),(5,3),(0,4),(0,6),(6,7),(3,6),(3,2),(1,5),(6,5)].contains (k,n-k) then
   let l:=mkIdent (.mkSimple s!"zE{k}_{n-k}")
   let f←`(λ$x*=>?_)
   let v←if e.raw.isIdent then `(tactic|(revert $(⟨e.raw⟩):ident;refine λr_=>$l r_ $f;clear r_)) else `(tactic|refine $l $e $f)
   let q←`(tactic|($[$(#[v]++U):tactic];*))
   r←`(tactic|first|$q:tactic|$r:tactic)
 return r
local macro_rules|`(tactic|erw[$r,*]$[$l]?)=>do let a:Array (Lean.TSyntax `Lean.Parser.Tactic.simpLemma):=r.getElems.map λx=>⟨Lean.mkNode `Lean.Parser.Tactic.simpLemma #[Lean.mkNullNode,x.raw[0],x.raw[1]]⟩;`(tactic|simp only[$a,*]$[$l]?)
local macro_rules|`(($a,$b,*))=>`(⟨$a,$b,*⟩)|`(())=>`(none)
local macro_rules|`($a\$b)=>`($a=some $b)
local macro_rules|`(⋯)=>`((by decide))
local macro_rules|`(∅)=>`((by decide+kernel))
set_option hygiene false in
local macro_rules|`(tactic|symm)=>`(tactic|refine hG λ_ _k=>?_)
theorem k_(_:True:=by first|exact .inl rfl|exact .inr rfl|assumption):True:=trivial
theorem bL(_:True:=by decide):True:=trivial
theorem pA(_:True:=by first|exact yP _ (by decide) (by decide)|rfl):True:=trivial
theorem ke(_:True:=by intro _;rfl):True:=trivial
theorem aJ(_:True:=by rfl):True:=trivial
theorem pB(_:True:=by with_unfolding_all rfl):True:=trivial
theorem yQ(_:True:=by (repeat intro _);rfl):True:=trivial
local macro_rules|`(tactic|refine_lift $e)=>`(tactic|refine $e)
local macro_rules|`(↑$x)=>`(some $x)
local macro_rules|`(⇑$x)=>`(.int $x)
local macro_rules|`(↥$x)=>`(.ref $x)
local macro_rules|`($x⁻¹)=>`(($x).heap.objs.size)
local macro_rules|`(-$x)=>if x.raw.isOfKind `num then Lean.Macro.throwUnsupported else`(($x).length)
local macro_rules|`($a%$b)=>if b.raw.isOfKind `num||b.raw[1].isOfKind `«term_+_» then Lean.Macro.throwUnsupported else`(($a).map $b)
local macro_rules|`($a^$b)=>if a.raw.isOfKind `num then Lean.Macro.throwUnsupported else`(($a).get? $b)
local macro_rules|`($a/$b)=>if b.raw.isOfKind `num||b.raw.isOfKind `«term_^_» then Lean.Macro.throwUnsupported else`(($a).lookup $b)
local macro_rules|`($a>>$b)=>`(($a).trans $b)
local macro_rules|`($a*>$b)=>`(($a).bind $b)
local macro_rules|`($a<*$b)=>`(($a).mp $b)
local macro_rules|`(tactic|show $e)=>`(tactic|refine $e)
local macro_rules|`(tactic|let $d:letDecl)=>if d.raw[0].isOfKind `Lean.Parser.Term.letPatDecl then Lean.Macro.throwUnsupported else`(tactic|have $d:letDecl)
set_option hygiene false in
local macro_rules|`(tactic|left)=>`(tactic|apply _k)
local macro_rules|`($s<&>$h)=>`({ $s with heap:=$h })
local macro_rules|`(def $i $s $v:declVal)=>do let s←`(noncomputable def $i $s $v:declVal);return s.raw.setArg 0 (s.raw[0].rewriteBottomUp λs=>match s with|.node _ k a=>.node .none k a|.atom _ v=>.atom .none v|s=>s)
local macro_rules|`(protected def $i $s $v:declVal)=>`(set_option tactic.hygienic true in def $i $s $v:declVal)|`(abbrev $i $s $v:declVal)=>`(noncomputable abbrev $i $s $v:declVal)
set_option hygiene false in
local macro_rules|`('a')=>`((by lia))|`('b')=>`((by simp))|`('s' $x)=>`((by simpa using $x))|`('l' $x*)=>`({ cls:=.type "list",data:=.seq $x* })|`('k')=>`(λ(k:Nat)=>D.int (k:Int))|`('U')=>`(.type "tuple")|`('i')=>`(WM X pins σ H s)|`('t')=>`(tE nm W X.K)|`('q')=>`(wq X.prog X.w X.A)|`('p')=>`(wq prog w A)|`('o')=>`(wq M A)|`('r')=>`(List.range)|`('R')=>`(List.replicate)|`('A')=>`(wpAny _ _)
section
variable{X Y Z U V W S:Sort _}{G:Prop}(x:X)(y:Y)(z:Z)(u:U)(v:V)(w:W)(s:S)
section
variable{A B C D E I:Prop}
def zE0_2(h:A/\B)(f:A->B->G):G:=f h.1 h.2
def zE0_3(h:A/\B/\C)(f:A->B->C->G):G:=zE0_2 h.2 (f h.1)
def zE0_4(h:A/\B/\C/\D)(f:A->B->C->D->G):G:=zE0_3 h.2 (f h.1)
def zE0_5(h:A/\B/\C/\D/\E)(f:A->B->C->D->E->G):G:=zE0_4 h.2 (f h.1)
def zE0_6(h:A/\B/\C/\D/\E/\I)(f:A->B->C->D->E->I->G):G:=zE0_5 h.2 (f h.1)
end
section
variable{A B C D E:X->Prop}(a:A x)(b:B x)(c:C x)(d:D x)
def zE1_1(h:∃x,A x)(f:∀x,A x->G):G:=h.elim f
def zI1_1:∃x,A x:=(x,a)
def zE1_2(h:∃x,A x/\B x)(f:∀x,A x->B x->G):G:=h.elim λx h=>zE0_2 h (f x)
def zI1_2:∃x,A x/\B x:=(x,a,b)
def zE1_3(h:∃x,A x/\B x/\C x)(f:∀x,A x->B x->C x->G):G:=h.elim λx h=>zE0_3 h (f x)
def zI1_3:∃x,A x/\B x/\C x:=(x,a,b,c)
def zE1_4(h:∃x,A x/\B x/\C x/\D x)(f:∀x,A x->B x->C x->D x->G):G:=h.elim λx h=>zE0_4 h (f x)
def zI1_4:∃x,A x/\B x/\C x/\D x:=(x,a,b,c,d)
def zE1_5(h:∃x,A x/\B x/\C x/\D x/\E x)(f:∀x,A x->B x->C x->D x->E x->G):G:=h.elim λx h=>zE0_5 h (f x)
end
section
variable{A B C D E I:X->Y->Prop}(a:A x y)(b:B x y)(c:C x y)(d:D x y)(e:E x y)(i:I x y)
def zE2_1(h:∃x y,A x y)(f:∀x y,A x y->G):G:=h.elim λx h=>zE1_1 h (f x)
def zI2_1:∃x y,A x y:=(x,zI1_1 y a)
def zE2_2(h:∃x y,A x y/\B x y)(f:∀x y,A x y->B x y->G):G:=h.elim λx h=>zE1_2 h (f x)
def zI2_2:∃x y,A x y/\B x y:=(x,zI1_2 y a b)
def zE2_3(h:∃x y,A x y/\B x y/\C x y)(f:∀x y,A x y->B x y->C x y->G):G:=h.elim λx h=>zE1_3 h (f x)
def zI2_3:∃x y,A x y/\B x y/\C x y:=(x,zI1_3 y a b c)
def zE2_4(h:∃x y,A x y/\B x y/\C x y/\D x y)(f:∀x y,A x y->B x y->C x y->D x y->G):G:=h.elim λx h=>zE1_4 h (f x)
def zI2_4:∃x y,A x y/\B x y/\C x y/\D x y:=(x,zI1_4 y a b c d)
def zE2_5(h:∃x y,A x y/\B x y/\C x y/\D x y/\E x y)(f:∀x y,A x y->B x y->C x y->D x y->E x y->G):G:=h.elim λx h=>zE1_5 h (f x)
def zI2_5:∃x y,A x y/\B x y/\C x y/\D x y/\E x y:=(x,y,a,b,c,d,e)
def zI2_6:∃x y,A x y/\B x y/\C x y/\D x y/\E x y/\I x y:=(x,y,a,b,c,d,e,i)
end
section
variable{A B C D E I:X->Y->Z->Prop}(a:A x y z)(b:B x y z)(c:C x y z)(d:D x y z)(e:E x y z)(i:I x y z)
def zI3_1:∃x y z,A x y z:=(x,zI2_1 y z a)
def zE3_2(h:∃x y z,A x y z/\B x y z)(f:∀x y z,A x y z->B x y z->G):G:=h.elim λx h=>zE2_2 h (f x)
def zI3_2:∃x y z,A x y z/\B x y z:=(x,zI2_2 y z a b)
def zE3_3(h:∃x y z,A x y z/\B x y z/\C x y z)(f:∀x y z,A x y z->B x y z->C x y z->G):G:=h.elim λx h=>zE2_3 h (f x)
def zI3_3:∃x y z,A x y z/\B x y z/\C x y z:=(x,zI2_3 y z a b c)
def zE3_4(h:∃x y z,A x y z/\B x y z/\C x y z/\D x y z)(f:∀x y z,A x y z->B x y z->C x y z->D x y z->G):G:=h.elim λx h=>zE2_4 h (f x)
def zI3_4:∃x y z,A x y z/\B x y z/\C x y z/\D x y z:=(x,zI2_4 y z a b c d)
def zI3_5:∃x y z,A x y z/\B x y z/\C x y z/\D x y z/\E x y z:=(x,zI2_5 y z a b c d e)
def zE3_6(h:∃x y z,A x y z/\B x y z/\C x y z/\D x y z/\E x y z/\I x y z)(f:∀x y z,A x y z->B x y z->C x y z->D x y z->E x y z->I x y z->G):G:=by obtain⟨x,y,z,a,b,c,d,e,i⟩:=h;show f x y z a b c d e i
def zI3_6:∃x y z,A x y z/\B x y z/\C x y z/\D x y z/\E x y z/\I x y z:=(x,zI2_6 y z a b c d e i)
end
section
variable{A B C D E I J:X->Y->Z->U->Prop}(a:A x y z u)(b:B x y z u)(c:C x y z u)(d:D x y z u)(e:E x y z u)(i:I x y z u)(j:J x y z u)
def zI4_1:∃x y z u,A x y z u:=(x,zI3_1 y z u a)
def zI4_3:∃x y z u,A x y z u/\B x y z u/\C x y z u:=(x,zI3_3 y z u a b c)
def zE4_4(h:∃x y z u,A x y z u/\B x y z u/\C x y z u/\D x y z u)(f:∀x y z u,A x y z u->B x y z u->C x y z u->D x y z u->G):G:=h.elim λx h=>zE3_4 h (f x)
def zI4_4:∃x y z u,A x y z u/\B x y z u/\C x y z u/\D x y z u:=(x,zI3_4 y z u a b c d)
def zE4_5(h:∃x y z u,A x y z u/\B x y z u/\C x y z u/\D x y z u/\E x y z u)(f:∀x y z u,A x y z u->B x y z u->C x y z u->D x y z u->E x y z u->G):G:=h.elim λx h=>h.elim λy h=>zE2_5 h (f x y)
def zI4_5:∃x y z u,A x y z u/\B x y z u/\C x y z u/\D x y z u/\E x y z u:=(x,zI3_5 y z u a b c d e)
def zE4_6(h:∃x y z u,A x y z u/\B x y z u/\C x y z u/\D x y z u/\E x y z u/\I x y z u)(f:∀x y z u,A x y z u->B x y z u->C x y z u->D x y z u->E x y z u->I x y z u->G):G:=h.elim λx h=>zE3_6 h (f x)
def zI4_6:∃x y z u,A x y z u/\B x y z u/\C x y z u/\D x y z u/\E x y z u/\I x y z u:=(x,zI3_6 y z u a b c d e i)
def zE4_7(h:∃x y z u,A x y z u/\B x y z u/\C x y z u/\D x y z u/\E x y z u/\I x y z u/\J x y z u)(f:∀x y z u,A x y z u->B x y z u->C x y z u->D x y z u->E x y z u->I x y z u->J x y z u->G):G:=by obtain⟨x,y,z,u,a,b,c,d,e,i,j⟩:=h;show f x y z u a b c d e i j
def zI4_7:∃x y z u,A x y z u/\B x y z u/\C x y z u/\D x y z u/\E x y z u/\I x y z u/\J x y z u:=(x,y,z,u,a,b,c,d,e,i,j)
end
section
variable{A B C D E I:X->Y->Z->U->V->Prop}(a:A x y z u v)(b:B x y z u v)(c:C x y z u v)(d:D x y z u v)(e:E x y z u v)(i:I x y z u v)
def zI5_1:∃x y z u v,A x y z u v:=(x,zI4_1 y z u v a)
def zI5_2:∃x y z u v,A x y z u v/\B x y z u v:=(x,y,z,u,v,a,b)
def zE5_3(h:∃x y z u v,A x y z u v/\B x y z u v/\C x y z u v)(f:∀x y z u v,A x y z u v->B x y z u v->C x y z u v->G):G:=h.elim λx h=>h.elim λy h=>zE3_3 h (f x y)
def zE5_4(h:∃x y z u v,A x y z u v/\B x y z u v/\C x y z u v/\D x y z u v)(f:∀x y z u v,A x y z u v->B x y z u v->C x y z u v->D x y z u v->G):G:=h.elim λx h=>zE4_4 h (f x)
def zI5_4:∃x y z u v,A x y z u v/\B x y z u v/\C x y z u v/\D x y z u v:=(x,zI4_4 y z u v a b c d)
def zE5_5(h:∃x y z u v,A x y z u v/\B x y z u v/\C x y z u v/\D x y z u v/\E x y z u v)(f:∀x y z u v,A x y z u v->B x y z u v->C x y z u v->D x y z u v->E x y z u v->G):G:=h.elim λx h=>zE4_5 h (f x)
def zI5_5:∃x y z u v,A x y z u v/\B x y z u v/\C x y z u v/\D x y z u v/\E x y z u v:=(x,zI4_5 y z u v a b c d e)
def zI5_6:∃x y z u v,A x y z u v/\B x y z u v/\C x y z u v/\D x y z u v/\E x y z u v/\I x y z u v:=(x,zI4_6 y z u v a b c d e i)
end
section
variable{A B C D E I J:X->Y->Z->U->V->W->Prop}(a:A x y z u v w)(b:B x y z u v w)(c:C x y z u v w)(d:D x y z u v w)(e:E x y z u v w)
def zI6_1:∃x y z u v w,A x y z u v w:=(x,zI5_1 y z u v w a)
def zI6_4:∃x y z u v w,A x y z u v w/\B x y z u v w/\C x y z u v w/\D x y z u v w:=(x,zI5_4 y z u v w a b c d)
def zE6_5(h:∃x y z u v w,A x y z u v w/\B x y z u v w/\C x y z u v w/\D x y z u v w/\E x y z u v w)(f:∀x y z u v w,A x y z u v w->B x y z u v w->C x y z u v w->D x y z u v w->E x y z u v w->G):G:=h.elim λx h=>zE5_5 h (f x)
def zI6_5:∃x y z u v w,A x y z u v w/\B x y z u v w/\C x y z u v w/\D x y z u v w/\E x y z u v w:=(x,zI5_5 y z u v w a b c d e)
def zE6_7(h:∃x y z u v w,A x y z u v w/\B x y z u v w/\C x y z u v w/\D x y z u v w/\E x y z u v w/\I x y z u v w/\J x y z u v w)(f:∀x y z u v w,A x y z u v w->B x y z u v w->C x y z u v w->D x y z u v w->E x y z u v w->I x y z u v w->J x y z u v w->G):G:=h.elim λx h=>h.elim λy h=>zE4_7 h (f x y)
end
section
variable{A B C D E I J K L:X->Y->Z->U->V->W->S->Prop}(a:A x y z u v w s)(b:B x y z u v w s)(c:C x y z u v w s)(d:D x y z u v w s)(e:E x y z u v w s)(i:I x y z u v w s)(j:J x y z u v w s)(k:K x y z u v w s)(l:L x y z u v w s)
def zI7_2:∃x y z u v w s,A x y z u v w s/\B x y z u v w s:=(x,y,z,u,v,w,s,a,b)
def zI7_4:∃x y z u v w s,A x y z u v w s/\B x y z u v w s/\C x y z u v w s/\D x y z u v w s:=(x,zI6_4 y z u v w s a b c d)
def zI7_5:∃x y z u v w s,A x y z u v w s/\B x y z u v w s/\C x y z u v w s/\D x y z u v w s/\E x y z u v w s:=(x,zI6_5 y z u v w s a b c d e)
def zI7_7:∃x y z u v w s,A x y z u v w s/\B x y z u v w s/\C x y z u v w s/\D x y z u v w s/\E x y z u v w s/\I x y z u v w s/\J x y z u v w s:=(x,y,z,u,v,w,s,a,b,c,d,e,i,j)
def zI7_9:∃x y z u v w s,A x y z u v w s/\B x y z u v w s/\C x y z u v w s/\D x y z u v w s/\E x y z u v w s/\I x y z u v w s/\J x y z u v w s/\K x y z u v w s/\L x y z u v w s:=(x,y,z,u,v,w,s,a,b,c,d,e,i,j,k,l)
end
end
abbrev wq{a}(p:PySem.Program)(w:PySem.World):=@PySem.wpAny a (PySem.model p w)
abbrev Zl:=List PySem.Value
abbrev Zp:=List (PySem.Addr×PySem.Obj)
abbrev Zs:=PySem.Str->Option PySem.Value
abbrev Y1:=PySem.Value->PySem.Shared->Prop
abbrev Y2:=List Nat
abbrev Y3:=List PySem.Expr
abbrev Ya:=List PySem.Str
abbrev Yf:=List (PySem.Str×PySem.NameKind)
abbrev X0:=List PySem.Addr
abbrev X9:=List Int
abbrev Xs:=List (PySem.Str×PySem.Addr)
abbrev U1:=Array PySem.Value
def Cw:=@Array.forIn_toList
def lg:=@Array.getElem?_eq_some_iff
def p7:=@Array.getElem?_toList
def vd:=@Array.length_toList
def Dl:=@Array.toList_push
def Dn:=@Array.toList_setIfInBounds
def bf:=@Bool.and_eq_true
def Ay:=@Bool.eq_iff_iff
def dq:=@Bool.false_eq_true
def Av:=@Bool.false_ne_true
def Bl:=@Bool.not_false
def uv:=@Bool.not_true
def w5:=@Classical.byContradiction
def Cy:=@Int.emod_lt_of_pos
def Ei:=@Int.emod_nonneg
def Bc:=@Int.ofNat_inj
def vg:=@Int.toNat_natCast
def Bp:=@List.Perm.refl
def jr:=@List.all_eq_true
def Bx:=@List.any_eq_true
def yj:=@List.append_assoc
def De:=@List.append_nil
def Ej:=@List.cons.injEq
def zc:=@List.cons_append
def yt:=@List.drop_eq_getElem_cons
def uf:=@List.ext_getElem?
def By:=@List.filter_cons
def vq:=@List.find?_cons
def yu:=@List.findIdx?_eq_none_iff
def uz:=@List.findIdx?_eq_some_iff_getElem
def bx:=@List.getD_eq_getElem?_getD
def gf:=@List.getElem?_append_left
def jf:=@List.getElem?_append_right
def bh:=@List.getElem?_eq_getElem
def jk:=@List.getElem?_eq_none
def ak:=@List.getElem?_eq_some_iff
def ie:=@List.getElem?_map
def Be:=@List.getElem?_of_mem
def yo:=@List.getElem?_range
def Bq:=@List.getElem?_replicate
def ye:=@List.getElem?_set_ne
def Cu:=@List.getElem?_set_self
def Cz:=@List.getElem?_take
def Bf:=@List.getElem?_zipIdx
def j9:=@List.getElem_mem
def m9:=@List.getElem_of_mem
def u5:=@List.isEmpty_iff
def m5:=@List.length_append
def ik:=@List.length_cons
def uq:=@List.length_eq_zero_iff
def p8:=@List.length_filter_le
def dh:=@List.length_map
def Ag:=@List.length_range
def uh:=@List.length_set
def Ca:=@List.length_take
def Dt:=@List.length_take_le'
def ud:=@List.lookup_cons
def jc:=@List.map_append
def qg:=@List.map_congr_left
def gm:=@List.map_cons
def q9:=@List.map_map
def Ep:=@List.map_nil
def dz:=@List.mem_append
def qw:=@List.mem_append_left
def jz:=@List.mem_append_right
def dj:=@List.mem_cons
def bw:=@List.mem_cons_of_mem
def dw:=@List.mem_cons_self
def jn:=@List.mem_filter
def Cd:=@List.mem_flatMap
def xm:=@List.mem_iff_getElem?
def bu:=@List.mem_map
def az:=@List.mem_of_getElem?
def Du:=@List.mem_of_mem_take
def jg:=@List.mem_range
def ig:=@List.mem_singleton
def yp:=@List.nil_append
def Bg:=@List.nodup_append
def vy:=@List.nodup_cons
def j7:=@List.nodup_iff_pairwise_ne
def Dw:=@List.nodup_nil
def u9:=@List.not_mem_nil
def Df:=@List.of_mem_zip
def Aw:=@List.pairwise_cons
def vh:=@List.pairwise_map
def Br:=@List.pairwise_singleton
def Ce:=@List.range'_succ
def tu:=@List.range_succ
def gn:=@List.size_toArray
def w6:=@List.sum_cons
def An:=@List.take_length
def Cv:=@List.take_of_length_le
def zr:=@List.take_succ
def Ec:=@Nat.add_le_add_left
def Dg:=@Nat.le_add_left
def Ao:=@Nat.le_add_right
def Aj:=@Nat.le_of_lt
def Bh:=@Nat.le_of_lt_succ
def bz:=@Nat.le_refl
def xf:=@Nat.le_succ
def gh:=@Nat.le_trans
def ph:=@Nat.lt_irrefl
def El:=@Nat.lt_of_le_of_lt
def iu:=@Nat.lt_of_lt_of_le
def qi:=@Nat.lt_or_ge
def lz:=@Nat.lt_succ_of_lt
def mz:=@Nat.lt_succ_self
def yw:=@Nat.ne_of_gt
def gq:=@Nat.ne_of_lt
def vz:=@Nat.not_lt_zero
def xd:=@Nat.zero_add
def iw:=@Nat.zero_le
def j4:=@Ne.symm
def ir:=@Option.bind_eq_some_iff
def uo:=@Option.bind_some
def Ar:=@Option.getD_some
def qz:=@Option.isSome_iff_exists
def dg:=@Option.map_eq_some_iff
def xq:=@Option.map_some
def j6:=@Option.some.inj
def Bj:=@Option.some.injEq
def Dc:=@PyProof.Rows.Call_
def wy:=@PyProof.Rows.F.entry_set_update_loop
def qm:=@PyProof.Rows.F.plain_set_update_loop
def za:=@PyProof.Rows.callWith_builtin1
def jq:=@PyProof.Rows.callWith_type1
def Az:=@PyProof.Rows.slot_tuple_getitem
def ao:=@PyProof.Rows.wpS_bind
def jd:=@PyProof.Rows.wpS_forRange
def km:=@PyProof.Rows.wpS_mono
def au:=@PyProof.Rows.wpS_pure
def o8:=@PySem.Around.under_plainId
def m7:=@PySem.Calls.spliced_cons
def ur:=@PySem.Calls.spliced_nil
def zx:=@PySem.F.args_enumerate_next_1
def yd:=@PySem.F.called_set
def Ad:=@PySem.F.entry_enumerate_next
def qx:=@PySem.F.slot_enumerate_next
def yh:=@PySem.F.slot_tuple_iterator_next
def vm:=@PySem.F.slot_zip_next
def kh:=@PySem.Heap.SameBut.update
def aq:=@PySem.Heap.get?_push_of_some
def cu:=@PySem.Heap.get?_push_size
def yc:=@PySem.Heap.get?_update_other
def qy:=@PySem.Heap.get?_update_self
def cj:=@PySem.Heap.lt_size
def jh:=@PySem.Heap.size_push
def su:=@PySem.codeAny_builtin
def zg:=@PySem.codeAny_mono
def yf:=@PySem.isSubtype_type
def Bs:=@PySem.mem_of_lookup
def vo:=@PySem.sizeLine_eq
def zy:=@PySem.tupleKind_room_in1
def jx:=@PySem.wpAny_Call_Name_kw
def vf:=@PySem.wpAny_attempt
def aa:=@PySem.wpAny_bind
def ji:=@PySem.wpAny_callSpecial?_slot
def iz:=@PySem.wpAny_call_entry
def v8:=@PySem.wpAny_dictEntries
def jm:=@PySem.wpAny_field
def ou:=@PySem.wpAny_forIn_list
def je:=@PySem.wpAny_holding
def o4:=@PySem.wpAny_isInstance
def xr:=@PySem.wpAny_loadPart'
def mj:=@PySem.wpAny_mono
def m8:=@PySem.wpAny_newObj_type
def Ab:=@PySem.wpAny_newTuple
def xu:=@PySem.wpAny_passesOwn
def aj:=@PySem.wpAny_pure
def Ah:=@PySem.wpAny_pyIter_list
def z6:=@PySem.wpAny_pyIter_tuple
def o5:=@PySem.wpAny_rule
def wj:=@PySem.wpAny_seqItems
def qj:=@PySem.wpAny_setEntries_of
def jy:=@PySem.wpAny_setField_rec
def mq:=@PySem.wpAny_setState_of
def qd:=@PySem.wpAny_truthy_bool
def ux:=@PySem.wpAny_typeOf
def yx:=@Std.Legacy.Range.forIn_eq_forIn_range'
def xg:=@beq_eq_false_iff_ne
def Ef:=@beq_iff_eq
def Ci:=@beq_self_eq_true
def Ai:=@bne_self_eq_false
def rm:=@congrArg
def t8:=@decide_eq_false
def uw:=@decide_eq_true
def f9:=@decide_eq_true_eq
def jt:=@if_false
def cz:=@if_neg
def dm:=@if_pos
def my:=@if_true
def j8:=@of_decide_eq_true
def Dp:=@or_false
abbrev Fg:=PySem.W.Frag
noncomputable section
namespace Sr
open PySem PyProof.Rows
def yR:Bool->Keyed->Array Keyed->Nat->Nat->Nat->StateT SortSt Sem (Option Nat):=sortPriv% PySem.Builtin.gallop
def yS:Array Keyed->Array Keyed->StateT SortSt Sem (Array Keyed):=sortPriv% PySem.Builtin.mergeLo
def yT:Array Keyed->Array Keyed->StateT SortSt Sem (Array Keyed):=sortPriv% PySem.Builtin.mergeHi
abbrev setG(sx:SortSt)(g:Nat):SortSt:=SortSt.mk' (kindOf sx) (arrOf sx) (pendingOf sx) g (failedOf sx)
def Sg(T Y:SortSt):Prop:=∃g,Y=setG T g
def Sg.kd(h:Sg sx Z):kindOf Z=kindOf sx:=by let(g,rfl):=h;rfl
def Sg.bp(h:Sg U Z):Sg U (setG Z g):=by let(g,rfl):=h;show(_,rfl)
def Al(p:Keyed->Prop)(a:Array Keyed):Prop:=∀x,x∈a.toList->p x
section
variable{p:Keyed->Prop}{a b:Array Keyed}
theorem Al.push(h:Al p a)(T:p x):Al p (a.push x):=λy Y=>by
 rw[Dl]at Y;rcases dz<*Y with z|z
 .exact h y z
 .rw[ig<*z];show T
def Al.ZP(h:Al p a)(g:Al p b):Al p (a++b):=λy Y=>by rw[Array.toList_append]at Y;show(dz<*Y).elim (h y) (g y)
def Al.ext(h:Al p a)(i j:Nat):Al p (a.extract i j):=λy Y=>by rw[Array.toList_extract,List.extract_eq_take_drop]at Y;show h y (List.mem_of_mem_drop (Du Y))
def Al.rev(h:Al p a):Al p a.reverse:=λy Y=>by rw[Array.toList_reverse]at Y;show h y (List.mem_reverse.mp Y)
def Al.at(h:Al p a)(Y:i<a.size):∃x,a[i]?\x/\p x:=(a[i],Array.getElem?_eq_getElem Y,h _ 'b')
end
section
variable{prog:Program}{w:World}{A:Around}{E:Y1}{s:Shared}{sx:SortSt}{κ:SortKind}{p:Keyed->Prop}
def Ba{M:Model}{Y J:Type}{c:Prop}[Decidable c]{T G:StateT Y Sem J}{Q:J->Y->Prop}{sx:Y}(O:c->wpS M A E s T Q sx)(B:¬c->wpS M A E s G Q sx):wpS M A E s (if c then T else G) Q sx:=by
 by_cases h:c
 .rw[dm h];show O h
 .rw[cz h];show B h
def Ew{M:Model}{Y J:Type}{x y:Nat}{T G:StateT Y Sem J}{Q:J->Y->Prop}{sx:Y}(O:x=y->wpS M A E s T Q sx)(B:x≠y->wpS M A E s G Q sx):wpS M A E s (if(x==y)=true then T else G) Q sx:=
 Ba (λh=>O (Ef<*h)) (λh=>B λz=>h (Ef.mpr z))
def pE{M:Model}{Y T G:Type}{c:Prop}[Decidable c]{F:G->StateT Y Sem T}{x y:G}{Q:T->Y->Prop}{sx:Y}(h:∀z,wpS M A E s (F z) Q sx):wpS M A E s (if c then F x else F y) Q sx:=Ba (λ_=>h _) λ_=>h _
def iK{M:Model}{Y T J G:Type}{F:J->G->StateT Y Sem T}{m:StateT Y Sem T}{Q:T->Y->Prop}{sx:Y}(P:J->G->Prop)(B:∀x y,P x y->wpS M A E s (F x y) Q sx)(h:(∀x y,P x y->wpS M A E s (F x y) Q sx)->wpS M A E s m Q sx):wpS M A E s m Q sx:=h B
def Rk(prog:Program)(w:World)(A:Around)(s:Shared)(κ:SortKind)(p:Keyed->Prop):Prop:=
 ∀x y (E:Y1) (Q:Bool->Shared->Prop),p x->p y->(∀b,Q b s)->'p' (keyLt' κ x.1 y.1) Q E s
def fi{Q:Option Bool->SortSt->Prop}(K:Rk prog w A s κ p)(T:kindOf sx=κ)(G:p x)(Y:p y)(h:∀b,Q ↑b sx):wpS (model prog w) A E s (lt' x y) Q sx:=by rw[lt'_eq];show ao (wpS_get ?_);rw[T];show ao (wpS_lift (vf (K x y _ _ G Y λb=>(rfl,au (h b)))))
def Bu{Q:Keyed->SortSt->Prop}(e:arr[i]?\x)(h:Q x sx):wpS (model prog w) A E s (elem' arr i) Q sx:=by rw[elem'_eq,e];show au h
def bp{Q:Option Nat->SortSt->Prop}(K:Rk prog w A s κ p)(T:kindOf sx=κ)(B:p key)(P:∀i,i<n->∃x,arr[base+i]?\x/\p x)(R:hint<n)(h:∀k,k<=n->Q ↑k sx) :
 wpS (model prog w) A E s (yR left key arr base n hint) Q sx:=by
 let C:∀i (Q:Option Bool->SortSt->Prop),i<n->(∀b,Q ↑b sx)->wpS (model prog w) A E s (elem' arr (base+i)>>=λx=>if left=true then lt' x key else lt' key x>>=λo=>pure (o%λb=>!b)) Q sx:=λi Q G q=>by
  let(x,e,L):=P i G;show ao (Bu e ?_);cases left with
  |true=>show fi K T L B q|false=>show ao (fi K T B L λb=>au (q !b))
 let J:∀N G (Q:Option (Option Nat)×Nat×Nat->SortSt->Prop),G<=n->(∀l k,k<=n->Q ((),l,k) sx)->wpS (model prog w) A E s (forIn [:n] (((),N,G):Option (Option Nat)×Nat×Nat) (λ_ q=>if q.2.1 >= q.2.2 then pure (.done ((),q.2.1,q.2.2))else do
  let x<-elem' arr (base+(q.2.1+(q.2.2-q.2.1)/2))>>=λx=>if left=true then lt' x key else lt' key x>>=λo=>pure (o%λb=>!b)
  match x with
  |some m=>if m=true then pure (.yield ((),q.2.1+(q.2.2-q.2.1)/2+1,q.2.2))else pure (.yield ((),q.2.1,q.2.1+(q.2.2-q.2.1)/2))
  | _=>pure (.done (↑(),q.2.1,q.2.2)))) Q sx:=λN G Q O h=>by
  show jd (I:=λ_ (q:Option (Option Nat)×Nat×Nat) Y=>Y=sx/\∃l k,q=((),l,k)/\k<=n) ?_ (λq Y (e,l,k,e',T)=>by rw[e,e'];show h l k T) (rfl,N,G,rfl,O);rintro t q Y _ _ ⟨rfl,l,k,rfl,O⟩;show Ba (λz=>au (h l k O)) λz=>?_
  let z:¬l >= k:=z;show ao (C _ _ (by change l+(k-l)/2<n;omega) λb=>?_);cases b with
  |true=>show au (rfl,_,_,rfl,O)|false=>show au (rfl,_,_,rfl,by change l+(k-l)/2<=n;omega)
 show ao (C hint _ R λb=>?_);cases b with
 |true =>
  show ao (km (jd (Q:=λq Y=>Y=sx/\q.1=()) (I:=λ_ q Y=>Y=sx/\q.1=()) ?_ (λq Y h=>h) (rfl,rfl)) ?_)
  .rintro t ⟨o,l,k⟩ Y _ _ ⟨rfl,_⟩
   show Ba (λz=>au (rfl,rfl)) λz=>?_
   let z:¬k >= n-hint:=z;show ao (C _ _ (by change hint+k<n;omega) λb=>?_);cases b<;>show au (rfl,rfl)
  .rintro⟨o,l,k⟩ Y ⟨rfl,rfl⟩
   show ao (J _ _ _ (by change hint+min k (n-hint)<=n;omega) λl k T=>au (h k T))
 |false =>
  show ao (km (jd (Q:=λq Y=>Y=sx/\q.1=()) (I:=λ_ q Y=>Y=sx/\q.1=()) ?_ (λq Y h=>h) (rfl,rfl)) ?_)
  .rintro t ⟨o,l,k⟩ Y _ _ ⟨rfl,_⟩
   show Ba (λz=>au (rfl,rfl)) λz=>?_
   show ao (C _ _ (by change hint-k<n;omega) λb=>?_);cases b<;>show au (rfl,rfl)
  .rintro⟨o,l,k⟩ Y ⟨rfl,rfl⟩
   show ao (J _ _ _ (by change hint-l<=n;omega) λl k T=>au (h k T))
end
structure Iv(p:Keyed->Prop)(a b:Array Keyed)(t:Nat)(W_:Array Keyed)(ia ib:Nat):Prop where
 L:Al p W_
 ba:ia+1<a.size
 bb:ib<b.size
 bt:t<ia+ib
def Ps(p:Keyed->Prop)(a b:Array Keyed)(t:Nat)(o:Option (Array Keyed))(W_:Array Keyed)(T Y:Nat):Prop:=(∃x,o\x/\Al p x)\/(o=()/\Iv p a b t W_ T Y)
def Iv.le(h:Iv p a b t W_ Z ib)(z:u<=t):Iv p a b u W_ Z ib:=(h.L,h.ba,h.bb,El z h.bt)
def Ps.go(h:Iv p a b t W_ Z ib):Ps p a b t () W_ Z ib:=.inr (rfl,h)
def Ps.gd(h:Al p x):Ps p a b t ↑x W_ Z ib:=.inl (x,rfl,h)
section
variable{prog:Program}{w:World}{A:Around}{E:Y1}{s:Shared}{sx:SortSt}{κ:SortKind}{p:Keyed->Prop}{a b:Array Keyed}
def yU{Q:Array Keyed->SortSt->Prop}(K:Rk prog w A s κ p)(P:kindOf sx=κ)(G:Al p a)(B:Al p b)(h1:0<a.size)(h2:0<b.size)(h:∀Z W_,Sg sx Z->Al p W_->Q W_ Z):wpS (model prog w) A E s (yS a b) Q sx:=by
 let S0:Sg sx sx:=(gallopOf sx,rfl);show ao (wpS_lift (o5 (rfl,?_)))
 extract_lets -underBinder total done last
 let(y,ey,hy):=B.at h2;show ao (Bu ey ?_);let L0:Al p #[y]:=λx hx=>by rw[ig<*hx];show hy
 let D:∀{W_ Y ib},Al p W_->Al p (done W_ Y ib):=λL=>(L.ZP (G.ext _ _)).ZP (B.ext _ _)
 let X:∀{W_ Y ib},Al p W_->Al p (last W_ Y ib):=λL=>(L.ZP (B.ext _ _)).ZP (G.ext _ _)
 let ht:total=a.size+b.size:=rfl
 clear_value done last total
 extract_lets -underBinder o0 i0 i1
 show Ew (λc1=>au (h _ _ S0 (D L0))) λc1=>Ew (λc2=>au (h _ _ S0 (X L0))) λc2=>ao (wpS_get ?_)
 show ao (km (jd (Q:=λq Z=>Sg sx Z/\∃o,q.1\o/\Al p o) (I:=λt q Z=>Sg sx Z/\q.1=()/\Iv p a b t q.2.1 q.2.2.1 q.2.2.2.1) ?_ ?_ (S0,rfl,show Iv p a b 0 #[y] 0 1 from(L0,'a','a','a'))) ?_)
 .intro t q Z _ _ I
  let(S,_,I):=I
  extract_lets -underBinder s1 W_ s2 Y s3 ib mg
  let I:Iv p a b t W_ Y ib:=I
  clear_value W_ Y ib mg
  show ao (km (jd (Q:=λq T=>T=Z/\Ps p a b (t+1) q.1 q.2.1 q.2.2.1 q.2.2.2.1) (I:=λu q T=>T=Z/\q.1=()/\Iv p a b (t+u) q.2.1 q.2.2.1 q.2.2.2.1) ?_ ?_ (rfl,rfl,I)) ?_)
  .intro u q Z _ hu I
   let(rfl,_,I):=I
   extract_lets -underBinder s1 W_ s2 Y s3 ib s4 ac bc
   let I:Iv p a b (t+u) W_ Y ib:=I
   clear_value W_ Y ib ac bc
   let(L,M,R,b3):=I;let(x,W,C):=B.at R;let(o,V,O):=G.at (i:=Y) 'a';show ao (Bu W (ao (Bu V (ao (fi K (S.kd>>P) C O λ_=>?_)))));show Ba (λz=>ao (Bu W ?_)) λz=>ao (Bu V ?_)
   .exact Ew (λw=>au (rfl,.gd (D (L.push C)))) λw=>have J:Iv p a b (t+u+1) (W_.push x) Y (ib+1):=(L.push C,M,'a','a');Ba (λ_=>au (rfl,.go (J.le 'a'))) λ_=>au (rfl,rfl,J)
   .exact Ew (λw=>au (rfl,.gd (X (L.push O)))) λw=>have J:Iv p a b (t+u+1) (W_.push o) (Y+1) ib:=(L.push O,'a',R,'a');Ba (λ_=>au (rfl,.go (J.le 'a'))) λ_=>au (rfl,rfl,J)
  .intro q T I
   show(I.1,.inr (I.2.1,I.2.2.le 'a'))
  .intro q Z I
   let(o,q):=q;obtain⟨rfl,⟨x,rfl,z⟩|⟨rfl,I⟩⟩:=I
   .exact au (S,x,rfl,z)
   .extract_lets -underBinder o1 s1 W_ s2 Y s3 ib s4 ac bc
    let I:Iv p a b (t+1) W_ Y ib:=I
    clear_value W_ Y ib ac bc
    show ao (wpS_lift (o5 (rfl,?_)));show ao (km (jd (Q:=λq T=>Sg sx T/\Ps p a b (t+1) q.1 q.2.1 q.2.2.1 q.2.2.2.1) (I:=λu q T=>Sg sx T/\q.1=()/\Iv p a b (t+1) q.2.1 q.2.2.1 q.2.2.2.1) ?_ ?_ (S,rfl,I)) ?_)
    .intro u q Z _ hu I
     let(S,_,I):=I
     extract_lets -underBinder s1 W_ s2 Y s3 ib s4 mg s5 ac bc jp
     let I:Iv p a b (t+1) W_ Y ib:=I
     clear_value W_ Y ib mg ac bc
     let(L,M,R,b3):=I;let(x,W,C):=B.at R;show pE (F:=jp Unit.unit) λm=>?_
     show ao (wpS_modify ?_);let P:kindOf (setG Z m)=κ:=S.kd>>P;let S:Sg sx (setG Z m):=S.bp;show ao (Bu W (ao (bp K P C (λi hi=>G.at 'a') 'a' λk d1=>?_)));dsimp -zeta only
     extract_lets -underBinder ac jp2
     show iK (F:=jp2 Unit.unit) (λW_ H=>Al p W_/\Y<=H/\H+1<a.size) (λW_ H J=>?_) λN=>?_
     .let(L1,a1,a2):=J
      let(o,V,O):=G.at (i:=H) 'a';show ao (Bu W ?_)
      extract_lets -underBinder fm kf
      let U:Al p fm:=L1.push C;let q:kf=ib+1:=rfl
      clear_value fm kf
      show Ew (λw=>au (S,.gd (D U))) λw=>?_
      show ao (Bu V (ao (bp K P O (λi hi=>B.at 'a') 'a' λk1 e1=>?_)));dsimp -zeta only
      extract_lets -underBinder bc fq
      show iK (F:=fq Unit.unit) (λW_ jb=>Al p W_/\kf<=jb/\jb<b.size) (λW_ jb J=>?_) λN=>?_
      .let(L4,c1,c2):=J
       show ao (Bu V (Ew (λw=>au (S,.gd (X (L4.push O)))) λw=>have J:Iv p a b (t+1) (W_.push o) (H+1) jb:=(L4.push O,'a',c2,'a');Ba (λ_=>au (S,.go J)) λ_=>au (S,rfl,J)))
      .clear_value fq bc
       show Ba (λz=>Ew (λw=>au (S,.gd (D (U.ZP (B.ext _ _))))) λw=>N _ _ (U.ZP (B.ext _ _),'a','a')) λz=>N _ _ (U,bz _,'a')
     .clear_value jp2 ac
      show Ba (λz=>Ew (λw=>au (S,.gd (X (L.ZP (G.ext _ _))))) λw=>Ew (λw=>au (S,.gd (D (L.ZP (G.ext _ _))))) λw=>N _ _ (L.ZP (G.ext _ _),'a','a')) λz=>N _ _ (L,bz _,M)
    .intro q T I
     show(I.1,.inr I.2)
    .intro q Z I
     let(o,q):=q;obtain⟨S,⟨x,rfl,z⟩|⟨rfl,I⟩⟩:=I
     .exact au (S,x,rfl,z)
     .exact ao (wpS_modify (au (S.bp,rfl,I)))
 .intro q Z I
  let(_,_,_,M,R,b3):=I
  lia
 .intro q Z I
  let(o,q):=q;let(S,x,rfl,z):=I;show au (h _ _ S z)
end
structure Ih(p:Keyed->Prop)(a b:Array Keyed)(t:Nat)(na nb:Nat)(W_:Array Keyed):Prop where
 L:Al p W_
 ba:0<na
 bb:1<nb
 bt:t+na+nb<a.size+b.size
 sa:na<a.size
 sb:nb<=b.size
def Ph(p:Keyed->Prop)(a b:Array Keyed)(t:Nat)(o:Option (Array Keyed))(Y T:Nat)(W_:Array Keyed):Prop:=(∃x,o\x/\Al p x)\/(o=()/\Ih p a b t Y T W_)
def Ih.le(h:Ih p a b t na nb W_)(z:u<=t):Ih p a b u na nb W_:=(h.L,h.ba,h.bb,by let:=h.bt;lia,h.sa,h.sb)
def Ph.go(h:Ih p a b t na nb W_):Ph p a b t () na nb W_:=.inr (rfl,h)
def Ph.gd(h:Al p x):Ph p a b t ↑x na nb W_:=.inl (x,rfl,h)
section
variable{prog:Program}{w:World}{A:Around}{E:Y1}{s:Shared}{sx:SortSt}{κ:SortKind}{p:Keyed->Prop}{a b:Array Keyed}
def yV{Q:Array Keyed->SortSt->Prop}(K:Rk prog w A s κ p)(H:kindOf sx=κ)(C:Al p a)(P:Al p b)(h1:0<a.size)(h2:0<b.size)(h:∀Z W_,Sg sx Z->Al p W_->Q W_ Z):wpS (model prog w) A E s (yT a b) Q sx:=by
 let S0:Sg sx sx:=(gallopOf sx,rfl);show ao (wpS_lift (o5 (rfl,?_)))
 extract_lets -underBinder total done first Y T
 let(x,ex,hx):=C.at (i:=a.size-1) 'a';show ao (Bu ex ?_);let L0:Al p #[x]:=λy hy=>by rw[ig<*hy];show hx
 let D:∀{W_ Y T},Al p W_->Al p (done W_ Y T):=λL=>((C.ext _ _).ZP (P.ext _ _)).ZP L.rev
 let F:∀{W_ Y T},Al p W_->Al p (first W_ Y T):=λL=>((P.ext _ _).ZP (C.ext _ _)).ZP L.rev
 let ht:total=a.size+b.size:=rfl;let qa:Y=a.size-1:=rfl;let qb:T=b.size:=rfl
 clear_value done first total Y T
 extract_lets -underBinder o0
 show Ew (λc1=>au (h _ _ S0 (D L0))) λc1=>Ew (λc2=>au (h _ _ S0 (F L0))) λc2=>ao (wpS_get ?_)
 show ao (km (jd (Q:=λq Z=>Sg sx Z/\∃o,q.1\o/\Al p o) (I:=λt q Z=>Sg sx Z/\q.1=()/\Ih p a b t q.2.1 q.2.2.1 q.2.2.2.1) ?_ ?_ (S0,rfl,show Ih p a b 0 Y T #[x]from(L0,'a','a','a','a','a'))) ?_)
 .intro t q Z _ _ I
  let(S,_,I):=I
  extract_lets -underBinder s1 Y s2 T s3 W_ mg ac bc
  let I:Ih p a b t Y T W_:=I
  clear_value W_ Y T mg
  show ao (km (jd (Q:=λq G=>G=Z/\Ph p a b (t+1) q.1 q.2.1 q.2.2.1 q.2.2.2.1) (I:=λu q G=>G=Z/\q.1=()/\Ih p a b (t+u) q.2.1 q.2.2.1 q.2.2.2.1) ?_ ?_ (rfl,rfl,I)) ?_)
  .intro u q Z _ hu I
   let(rfl,_,I):=I
   extract_lets -underBinder s1 Y s2 T s3 W_ s4 ac bc
   let I:Ih p a b (t+u) Y T W_:=I
   clear_value W_ Y T ac bc
   let(L,U,b2,b3,b4,b5):=I;obtain⟨n,rfl⟩:∃n,Y=n+1:=(Y-1,'a');obtain⟨m,rfl⟩:∃m,T=m+1:=(T-1,'a');let(x,M,N):=P.at (i:=m) 'a';let(o,W,O):=C.at (i:=n) 'a';show ao (Bu M (ao (Bu W (ao (fi K (S.kd>>H) N O λ_=>?_)))));show Ba (λz=>ao (Bu W ?_)) λz=>ao (Bu M ?_)
   .exact Ew (λw=>au (rfl,.gd (D (L.push O)))) λw=>have J:Ih p a b (t+u+1) n (m+1) (W_.push o):=(L.push O,Nat.pos_of_ne_zero w,b2,'a','a',b5);Ba (λ_=>au (rfl,.go (J.le 'a'))) λ_=>au (rfl,rfl,J)
   .exact Ew (λw=>au (rfl,.gd (F (L.push N)))) λw=>have w:m≠1:=w;let J:Ih p a b (t+u+1) (n+1) m (W_.push x):=(L.push N,U,'a','a',b4,'a');Ba (λ_=>au (rfl,.go (J.le 'a'))) λ_=>au (rfl,rfl,J)
  .intro q G I
   show(I.1,.inr (I.2.1,I.2.2.le 'a'))
  .intro q Z I
   let(o,q):=q;obtain⟨rfl,⟨x,rfl,z⟩|⟨rfl,I⟩⟩:=I
   .exact au (S,x,rfl,z)
   .extract_lets -underBinder o1 s1 Y s2 T s3 W_ s4 ac bc
    let I:Ih p a b (t+1) Y T W_:=I
    clear_value W_ Y T ac bc
    show ao (wpS_lift (o5 (rfl,?_)));show ao (km (jd (Q:=λq G=>Sg sx G/\Ph p a b (t+1) q.1 q.2.1 q.2.2.1 q.2.2.2.1) (I:=λu q G=>Sg sx G/\q.1=()/\Ih p a b (t+1) q.2.1 q.2.2.1 q.2.2.2.1) ?_ ?_ (S,rfl,I)) ?_)
    .intro u q Z _ hu I
     let(S,_,I):=I
     extract_lets -underBinder s1 Y s2 T s3 W_ s4 mg s5 ac bc jp
     let I:Ih p a b (t+1) Y T W_:=I
     clear_value W_ Y T mg ac bc
     let(L,U,b2,b3,b4,b5):=I;obtain⟨m,rfl⟩:∃m,T=m+1:=(T-1,'a');let(x,M,N):=P.at (i:=m) 'a';show pE (F:=jp Unit.unit) λg=>?_
     show ao (wpS_modify ?_);let H:kindOf (setG Z g)=κ:=S.kd>>H;let S:Sg sx (setG Z g):=S.bp;show ao (Bu M (ao (bp K H N (λi hi=>C.at 'a') 'a' λk d1=>?_)));dsimp -zeta only
     extract_lets -underBinder k' ac jp2
     let qk:k'=Y-k:=rfl;show iK (F:=jp2 Unit.unit) (λV W_=>Al p W_/\V<=Y/\0<V) (λV W_ J=>?_) λR=>?_
     .let(L1,a1,a2):=J
      obtain⟨n,rfl⟩:∃n,V=n+1:=(V-1,'a');let(o,W,O):=C.at (i:=n) 'a';show ao (Bu M ?_)
      extract_lets -underBinder fm
      let L3:Al p fm:=L1.push N
      clear_value fm
      show Ew (λw=>au (S,.gd (F L3))) λw=>?_
      let w:m≠1:=w;show ao (Bu W (ao (bp (n:=m) K H O (λi hi=>P.at 'a') (show m-1<m by lia) λk1 e1=>?_)));dsimp -zeta only
      extract_lets -underBinder k2 bc fq
      let qk:k2=m-k1:=rfl;show iK (F:=fq Unit.unit) (λX W_=>Al p W_/\X<=m/\1<X) (λX W_ J=>?_) λR=>?_
      .let(B,c1,c2):=J
       show ao (Bu W (Ew (λw=>au (S,.gd (D (B.push O)))) λw=>have J:Ih p a b (t+1) n X (W_.push o):=(B.push O,Nat.pos_of_ne_zero w,c2,'a','a','a');Ba (λ_=>au (S,.go J)) λ_=>au (S,rfl,J)))
      .clear_value fq bc k2
       let B:=L3.ZP (P.ext k1 m).rev;show Ba (λz=>Ew (λw=>au (S,.gd (F B))) λw=>Ew (λv=>au (S,.gd (D B))) λv=>have w:k1≠1:=w;let v:k1≠0:=v;R _ _ (B,e1,'a')) λz=>R _ _ (L3,bz _,'a')
     .clear_value jp2 ac k'
      let B:=L.ZP (C.ext k Y).rev;show Ba (λz=>Ew (λw=>au (S,.gd (D B))) λw=>R _ _ (B,d1,Nat.pos_of_ne_zero w)) λz=>R _ _ (L,bz _,U)
    .intro q G I
     show(I.1,.inr I.2)
    .intro q Z I
     let(o,q):=q;obtain⟨S,⟨x,rfl,z⟩|⟨rfl,I⟩⟩:=I
     .exact au (S,x,rfl,z)
     .exact ao (wpS_modify (au (S.bp,rfl,I)))
 .intro q Z I
  let(_,_,_,U,b2,b3,_):=I
  lia
 .intro q Z I
  let(o,q):=q;let(S,x,rfl,z):=I;show au (h _ _ S z)
end
structure Cg(p:Keyed->Prop)(st0 sx:SortSt):Prop where
 eq:sx=setArr st0 (arrOf sx)
 al:Al p (arrOf sx)
 sz:(arrOf sx).size=(arrOf st0).size
def Cg.kd(h:Cg p st0 Z):kindOf Z=kindOf st0:=by rw[h.eq]
def Cg.ar(h:Cg p st0 Z)(Y:U.Perm (arrOf Z)):Cg p st0 (setArr Z U):=(by rw[h.eq],λx T=>h.al x ((Array.perm_iff_toList_perm.mp Y).mem_iff<*T),Y.size_eq>>h.sz)
def Cg.ft(h:Cg p st0 Z):Cg p st0 (setArr Z (mirror (arrOf Z) i j k)):=h.ar (mirror_perm _ _ _ _)
section
variable{prog:Program}{w:World}{A:Around}{E:Y1}{s:Shared}{st0 sx:SortSt}{κ:SortKind}{p:Keyed->Prop}
def fw{Q:Option Bool->SortSt->Prop}(K:Rk prog w A s κ p)(T:kindOf st0=κ)(C:Cg p st0 sx)(J:i<(arrOf st0).size)(O:j<(arrOf st0).size)(h:∀b,Q ↑b sx):wpS (model prog w) A E s (ltAt' i j) Q sx:=by let(x,G,N):=C.al.at (i:=i) (by rw[C.sz];show J);let(y,B,Y):=C.al.at (i:=j) (by rw[C.sz];show O);rw[ltAt'_eq];show ao (wpS_get (ao (Bu G (ao (Bu B (fi K (C.kd>>T) N Y h))))))
def asc{Q:Option (Option Nat)×Nat->SortSt->Prop}(K:Rk prog w A s κ p)(T:kindOf st0=κ)(C:Cg p st0 sx)(O:1<=a)(J:a<=nrem)(B:Z+nrem<=(arrOf st0).size)(h:∀n,a<=n->n<=nrem->Q ((),n) sx) :
 wpS (model prog w) A E s (forIn [a:nrem] (((),a):Option (Option Nat)×Nat) λ_ q=>do
  let x<-ltAt' (Z+q.2) (Z+q.2-1)
  match x with
  |some z=>if z=true then pure (.done ((),q.2))else pure (.yield ((),q.2+1))
  | _=>pure (.done (↑(),q.2))) Q sx:=by
 show jd (I:=λt q Y=>Y=sx/\q=((),t)) ?_ ?_ (rfl,rfl)
 .rintro t q Y G N ⟨rfl,rfl⟩
  show ao (fw K T C (by change Z+t<_;lia) (by change Z+t-1<_;lia) λ_=>Ba (λz=>au (h t G 'a')) λz=>au (rfl,rfl))
 .rintro q Y ⟨rfl,rfl⟩
  rw[show max a nrem=nrem by lia];show h nrem J (bz _)
def yW{Q:Option Nat->SortSt->Prop}(K:Rk prog w A s κ p)(G:kindOf st0=κ)(T:Cg p st0 st0)(M:1<=nrem)(P:Z+nrem<=(arrOf st0).size)
 (h:∀m sx,Cg p st0 sx->1<=m->m<=nrem->Q ↑m sx):wpS (model prog w) A E s (countRun' Z nrem) Q st0:=by
 show ao (asc K G T (bz 1) M P λn R H=>?_);show Ew (λv=>au (h n _ T R H)) λv=>?_
 let v:n≠nrem:=v
 extract_lets -underBinder jp
 let O:∀sx,Cg p st0 sx->wpS (model prog w) A E s (jp Unit.unit) Q sx:=λsx C=>by
  show ao (wpS_lift (o5 (rfl,?_)));show ao (km (jd (Q:=λq sx=>q.1=()/\Cg p st0 sx/\n+1<=q.2.1/\q.2.1<=nrem) (I:=λt q sx=>q.1=()/\q.2.1=t/\Cg p st0 sx) ?_ ?_ (rfl,rfl,C)) ?_)
  .rintro t ⟨L,x,B⟩ sx b1 b2 ⟨_,Y,C⟩
   let Y:x=t:=Y;subst Y;show ao (fw K G C (by change Z+x<_;lia) (by change Z+x-1<_;lia) λ_=>Ba (λz=>?_) λz=>?_)
   .exact Ba (λy=>ao (wpS_reverse (au (rfl,rfl,C.ft)))) λy=>au (rfl,rfl,C)
   .exact ao (fw K G C (by change Z+x-1<_;lia) (by change Z+x<_;lia) λ_=>Ba (λy=>au (rfl,C,b1,by change x<=_;lia)) λy=>au (rfl,rfl,C))
  .rintro⟨L,x,B⟩ sx ⟨J,Y,C⟩
   let Y:x=max (n+1) nrem:=Y;show(J,C,by change _<=x;lia,by change x<=_;lia)
  .rintro⟨L,x,B⟩ sx ⟨J,C,S,N⟩
   let J:L=():=J;subst J;let S:n+1<=x:=S
   let N:x<=nrem:=N
   extract_lets -underBinder o1 s1 x' Tx
   let F:o1=():=rfl
   clear_value o1
   subst F;dsimp -zeta only
   extract_lets -underBinder jp2
   let O:∀sx,Cg p st0 sx->wpS (model prog w) A E s (jp2 Unit.unit) Q sx:=λsx C=>by show ao (wpS_reverse (ao (asc K G C.ft (show 1<=x by lia) N P λm V W=>au (h m _ C.ft (by let V:x<=m:=V;lia) W))))
   show Ba (λy=>ao (wpS_reverse (O _ C.ft))) λy=>O _ C
 clear_value jp
 show Ba (λg=>ao (fw K G T (by change Z<_;lia) (by change Z+n-1<_;lia) λ_=>Ba (λz=>au (h n _ T R H)) λz=>ao (wpS_reverse (O _ T.ft)))) λg=>O _ T
def yX{Q:Bool->SortSt->Prop}(K:Rk prog w A s κ p)(J:kindOf st0=κ)(C:Cg p st0 sx)(N:Z+n<=(arrOf st0).size)(h:∀sx,Cg p st0 sx->Q true sx):wpS (model prog w) A E s (binarySort' Z n ok) Q sx:=by
 show ao (km (jd (I:=λt q sx=>q.1=()/\Cg p st0 sx) (Q:=λq sx=>q.1=()/\Cg p st0 sx) ?_ (λq sx h=>h) (rfl,C)) ?_)
 .rintro k q sx B O ⟨_,C⟩
  show ao (km (jd (I:=λt q Y=>Y=sx/\q.1=()/\q.2.2<=k) (Q:=λq Y=>Y=sx/\q.1=()) ?_ (λq sx h=>(h.1,h.2.1)) (rfl,rfl,bz _)) ?_)
  .rintro t ⟨o,l,q⟩ Y _ b3 ⟨rfl,T,G⟩
   let G:q<=k:=G
   show Ba (λz=>au (rfl,rfl)) λz=>?_
   let z:¬l >= q:=z;show ao (fw K J C (by change Z+k<_;lia) (by change Z+(l+q)/2<_;lia) λ_=>Ba (λy=>au (rfl,rfl,by change(l+q)/2<=k;lia)) λy=>au (rfl,rfl,G))
  .rintro⟨o,l,q⟩ Y ⟨rfl,T⟩
   let T:o=():=T;subst T;change wpS _ _ _ _ (moveDown' (Z+k) (Z+l)>>=λ_=>pure (ForInStep.yield (Prod.mk () Unit.unit))) _ _;rw[moveDown'_eq];show ao (wpS_modify (au (rfl,C.ar (bubble_perm _ _ _))))
 .rintro⟨o,q⟩ sx ⟨T,C⟩
  let T:o=():=T;subst T;show au (h sx C)
end
inductive Rn:Nat->Nat->List (Nat×Nat)->Prop
 |nil:Rn s s []
 |cons:0<l->Rn (s+l) e q->Rn s e ((s,l)::q)
def Rn.le(h:Rn s e q):s<=e:=by
 induction h with
 |nil=>show bz _|cons _ _ Y=>lia
def Rn.snoc(h:Rn s e q)(Y:0<l):Rn s (e+l) (q++[(e,l)]):=by
 induction h with
 |nil=>show .cons Y .nil|cons z _ T=>show .cons z T
def Rn.cut{Y:List (Nat×Nat)}(h:Rn s e (Y++(a,l)::(b,m)::Z)):b=a+l/\0<l/\0<m/\b+m<=e/\Rn s e (Y++(a,l+m)::Z):=by
 induction Y generalizing s with
 |nil=>cases h with
  |cons z t=>cases t with
   |cons y t=>show(rfl,z,y,t.le,.cons 'a' (by rw[<-Nat.add_assoc];show t))
 |cons x Y T=>cases h with
  |cons z t=>let(O,G,B,C,J):=T t;show(O,G,B,C,.cons z J)
def pr(q:List (Nat×Nat×Nat)):List (Nat×Nat):=q%λq=>(q.1,q.2.1)
structure Gw(κ:SortKind)(p:Keyed->Prop)(N:Nat)(l0:Nat)(sx:SortSt):Prop where
 kd:kindOf sx=κ
 fl:failedOf sx=()
 al:Al p (arrOf sx)
 sz:(arrOf sx).size=N
 ru:Rn 0 l0 (pr (pendingOf sx).toList)
 le:l0<=N
def yY{l:List (Keyed×Nat)}(T:∀q∈l,p q.1)(G:Al p Z):Al p (l.foldl (λa (q:Keyed×Nat)=>a.setIfInBounds (c+q.2) q.1) Z)/\(l.foldl (λa (q:Keyed×Nat)=>a.setIfInBounds (c+q.2) q.1) Z).size=Z.size:=by
 induction l generalizing Z with
 |nil=>show(G,rfl)
 |cons q l J =>
  let:=J (λx Y=>T x (bw _ Y)) (show Al p (Z.setIfInBounds (c+q.2) q.1)from λx Y=>by
   rw[Dn]at Y;rcases List.mem_or_eq_of_mem_set Y with z|z
   .exact G x z
   .rw[z];show T q 'b')
  rw[Array.size_setIfInBounds]at this;show this
def yZ{M:Model}{A:Around}{E:Y1}{s:Shared}{Y:Type}{x:Y}{Q:PUnit->Y->Prop}{sx:Y}(h:Q ⟨⟩ x):wpS M A E s (set x:StateT Y Sem PUnit) Q sx:=by unfold wpS;rw[StateT.run_set];show aj (rfl,h)
section
variable{prog:Program}{w:World}{A:Around}{E:Y1}{s:Shared}{sx:SortSt}{κ:SortKind}{p:Keyed->Prop}
def mag{Q:Bool->SortSt->Prop}(K:Rk prog w A s κ p)(G:Gw κ p N Z sx)(U:i+1<(pendingOf sx).size)(h:∀st',Gw κ p N Z st'->Q true st'):wpS (model prog w) A E s (mergeAt' i) Q sx:=by
 let(kd,fl,B,sz,P,le):=G;obtain⟨T,⟨sa,J,C⟩,⟨sb,O,pv⟩,p2,R,rfl⟩:∃T W M p2,(pendingOf sx).toList=T++W::M::p2/\-T=i:=by
  let H:i< -(pendingOf sx).toList:=by simp;lia
  let F:i+1< -(pendingOf sx).toList:=by simp;lia
  show((pendingOf sx).toList.take i,_,_,(pendingOf sx).toList.drop (i+2),by rw[<-yt F,<-yt H,List.take_append_drop],by rw[Ca];lia)
 let e1:(pendingOf sx)[T.length]?\(sa,J,C):=by rw[<-p7,R];simp
 let e2:(pendingOf sx)[-T+1]?\(sb,O,pv):=by rw[<-p7,R];simp
 rw[R,pr,jc]at P;let(rfl,n1,n2,n3,P):=Rn.cut (a:=sa) (l:=J) (b:=sb) (m:=O) P;let V:(((pendingOf sx).setIfInBounds (-T) (sa,J+O,C)).eraseIdxIfInBounds (-T+1)).toList=T++(sa,J+O,C)::p2:=by rw[Array.toList_eraseIdxIfInBounds,Dn,R];simp[List.eraseIdx_append_of_length_le]
 let fin:∀g (L:Array Keyed),Al p L->L.size=N->Q true (SortSt.mk' (kindOf sx) L (((pendingOf sx).setIfInBounds (-T) (sa,J+O,C)).eraseIdxIfInBounds (-T+1)) g (failedOf sx)):=λg L H F=>h _ (kd,fl,H,F,by
  change Rn 0 Z (pr (((pendingOf sx).setIfInBounds (-T) (sa,J+O,C)).eraseIdxIfInBounds (-T+1)).toList);rw[V,pr,jc];show P,le)
 show ao (wpS_get ?_);rw[e1,e2];show ao (yZ ?_);let(x,ex,hx):=B.at (i:=sa+J) 'a';show ao (Bu ex (ao (bp K kd hx (λi U=>B.at 'a') n1 λk d1=>?_)));show Ew (λz=>au (fin _ _ B sz)) λz=>?_
 let z:J-k≠0:=z;let(y,ey,hy):=B.at (i:=sa+k+(J-k)-1) 'a';show ao (Bu ey (ao (bp K kd hy (λi U=>B.at 'a') (show O-1<O by lia) λk2 d2=>?_)));show Ew (λy=>au (fin _ _ B sz)) λy=>?_
 let y:k2≠0:=y
 extract_lets -underBinder X Y jp
 let aX:Al p X:=B.ext _ _;let D:Al p Y:=B.ext _ _;let I:0<X.size:=by change 0<((arrOf sx).extract (sa+k) (sa+J)).size;rw[Array.size_extract];lia
 let zY:0<Y.size:=by change 0<((arrOf sx).extract (sa+J) (sa+J+k2)).size;rw[Array.size_extract];lia
 let hj:∀st' o,Sg (setPending sx (((pendingOf sx).setIfInBounds (-T) (sa,J+O,C)).eraseIdxIfInBounds (-T+1))) st'->Al p o->wpS (model prog w) A E s (jp o) Q st':=λst' o S G=>by let(g,rfl):=S;show ao (wpS_modify (ao (wpS_get ?_)));change wpS _ _ _ _ (pure (failedOf sx).isNone) Q _;rw[fl];let(W,M):=yY (c:=sa+k) (l:=o.toList.zipIdx) (λq hq=>G _ (List.fst_mem_of_mem_zipIdx hq)) B;show au (fin g _ W (M>>sz))
 clear_value jp X Y
 show Ba (λ_=>ao (yU K kd aX D I zY hj)) λ_=>ao (yV K kd aX D I zY hj)
def pF{M:Model}{Y T G:Type}{F:G->StateT Y Sem T}{m:StateT Y Sem T}{Q:T->Y->Prop}{sx:Y}(P:G->Y->Prop)(J:∀x sx,P x sx->wpS M A E s (F x) Q sx)(h:(∀x sx,P x sx->wpS M A E s (F x) Q sx)->wpS M A E s m Q sx):wpS M A E s m Q sx:=h J
def ya{st0:SortSt}{Q:Unit->SortSt->Prop}(K:Rk prog w A s κ p)(P:Gw κ p N 0 st0)(h:∀sx l0,Gw κ p N l0 sx->Q Unit.unit sx):wpS (model prog w) A E s sortRuns' Q st0:=by
 show ao (wpS_get ?_)
 extract_lets -underBinder size minrun l0
 let X:size=N:=P.sz
 clear_value size minrun
 show ao (km (jd (Q:=λq sx=>q.1=()/\Gw κ p N q.2 sx) (I:=λ_ q sx=>q.1=()/\Gw κ p N q.2 sx) ?_ (λq sx h=>h) (rfl,P)) ?_)
 .rintro t ⟨o,l0⟩ sx _ Y ⟨_,G⟩
  let G:Gw κ p N l0 sx:=G;show Ba (λz=>au (rfl,G)) λz=>?_
  let z:¬l0 >= size:=z;let sz:=G.sz;show ao (yW K G.kd (rfl,G.al,rfl) (by change 1<=size-l0;lia) (by change l0+(size-l0)<=_;lia) λm W R H L=>?_);let L:m<=size-l0:=L
  dsimp -zeta only
  extract_lets -underBinder n jp
  show pF (F:=jp Unit.unit) (λn st2=>Cg p sx st2/\1<=n/\n<=size-l0) (λn st2 J=>?_) λT=>?_
  .let(C,V,Z):=J
   let G:Gw κ p N l0 st2:=(C.kd>>G.kd,by rw[C.eq];show G.fl,C.al,C.sz>>sz,by rw[C.eq];show G.ru,G.le);show ao (wpS_get ?_)
   extract_lets -underBinder jp2
   show pF (F:=jp2) (λ_ sx=>Gw κ p N l0 sx) (λ_ sx G=>?_) λT=>?_
   .refine ao (wpS_modify (au (rfl,G.kd,G.fl,G.al,G.sz,?_,by change l0+n<=N;lia)))
    change Rn 0 (l0+n) (pr ((pendingOf sx).push (l0,n,0)).toList);rw[Dl,pr,jc];show G.ru.snoc V
   .clear_value jp2
    cases hb:(pendingOf st2).back? with
    |none=>show T Unit.unit st2 G
    |some q =>
     let(D,M,x):=q;show ao (km (jd (I:=λt q sx=>q.1=()/\Gw κ p N l0 sx) (Q:=λq sx=>q.1=()/\Gw κ p N l0 sx) ?_ (λq sx G=>G) (rfl,G)) ?_)
     .rintro t ⟨o,q⟩ sx _ _ ⟨_,G⟩
      show ao (wpS_get ?_);dsimp only;split
      .rename_i _ _ _ _ S
       let c:(pendingOf sx).size > 1:=by
        by_cases c:(pendingOf sx).size > 1
        .exact c
        .rw[cz c]at S;cases S
       show Ba (λ_=>au (rfl,G)) λ_=>ao (mag K G (show(pendingOf sx).size-2+1<(pendingOf sx).size by lia) λB O=>?_)
       rw[cz 'b'];show au (rfl,O)
      .exact au (rfl,G)
     .rintro⟨o,q⟩ sx ⟨b,G⟩
      let b:o=():=b;subst b;show ao (wpS_modify (T _ _ (G.kd,G.fl,G.al,G.sz,?_,G.le)));show cast (rm (Rn 0 l0) ?_) G.ru;change _=pr ((pendingOf sx).modify _ _).toList;rw[Array.toList_modify];apply uf;intro j;rw[pr,pr,ie,ie,List.getElem?_modify];cases(pendingOf sx).toList[j]? with
      |none=>rfl|some a=>change ↑_\_;split<;>rfl
  .clear_value jp
   show Ba (λy=>?_) λy=>T _ _ (R,H,L)
   show ao (wpS_lift (o5 (rfl,?_)))
   extract_lets -underBinder fo
   let y:m<minrun:=y
   let q:fo=min (size-l0) minrun:=rfl
   clear_value fo
   show ao (yX K G.kd R 'a' λsx C=>?_);rw[cz 'b'];show T _ _ (C,'a','a')
 .rintro⟨o,l0⟩ sx ⟨Y,G⟩
  let Y:o=():=Y;subst Y;show ao (km (jd (I:=λt q sx=>q.1=()/\Gw κ p N l0 sx) (Q:=λq sx=>q.1=()/\Gw κ p N l0 sx) ?_ (λq sx h=>h) (rfl,G)) ?_)
  .rintro t ⟨o,q⟩ sx _ Y ⟨_,G⟩
   show ao (wpS_get ?_);show Ba (λz=>au (rfl,G)) λz=>?_
   let z:¬(pendingOf sx).size<=1:=z
   extract_lets -underBinder i be j
   let T:j+1<(pendingOf sx).size:=by
    let k:∀(N:Nat)(c:Prop)[Decidable c],¬N<=1->(if c then N-2-1 else N-2)+1<N:=λN c _ h=>by split<;>lia
    show k _ _ z
   clear_value j
   show ao (mag K G T λB O=>?_);rw[cz 'b'];show au (rfl,O)
  .rintro⟨o,q⟩ sx ⟨Y,G⟩
   let Y:o=():=Y;subst Y;show au (h sx l0 G)
end
open PySem PySem.W PyProof.Rows PySem.Calls
section
variable{prog:Program}{w:World}{A:Around}{E:Y1}{s:Shared}
def yb{x y:X9}{a b:Addr}{P:PySem.Fin->Shared->Prop}(hx:IsTupleKey (intKind prog w) s.1 x a)(F:IsTupleKey (intKind prog w) s.1 y b)(h:∀r,P (.done (.ret (.bool r))) s) :
 'p' (Builtin.«tuple.__lt__» ([↥a,↥b],[])) P E s:=by
 let C:=F.typeIs;let(oa,X,na,L,_,R,S):=hx;let(ob,ys,nb,H,_,U,W):=F;change 'A' (isInstance ↥b 'U'>>=_) _ _ s;show aa (o4 C isSubtype_tuple_tuple ?_);erw[uv,dq,jt];show aa (wpAny_tupleItemsOf L R (aa (wpAny_tupleItemsOf H U (aa ?_))));show ou _ (λY r B=>r.1=()/\B=s/\∃M D T G,Y=List.zip T G/\ItemsAre (intKind prog w) M T/\ItemsAre (intKind prog w) D G) _ ?_ ?_ _ _ (rfl,rfl,x,y,X.toList,ys.toList,rfl,S,W)
 .rintro⟨u,v⟩ Y r B ⟨I,rfl,M,D,T,G,O,V,N⟩
  cases V with
  |nil=>simp at O
  |@cons k1 u' x'' xs'' h1 yi =>
   cases N with
   |nil=>simp at O
   |@cons k2 v' y'' ys'' h2 yn =>
    erw[List.zip_cons_cons,Ej,Prod.mk.injEq]at O;let((rfl,rfl),rfl):=O;show aa ((intKind prog w).eqBool (a:=k1) (b:=k2) h1 h2 ?_)
    by_cases K:k1=k2
    .rw[uw K]
     show aj (rfl,rfl,x'',y'',xs'',ys'',rfl,yi,yn)
    .rw[t8 K]
     let(t1,rfl):=Value.isInt_shape h1;let(t2,rfl):=Value.isInt_shape h2;show aa (o5 ?_);show aa (mj (PyProof.Rows.lt_int (Q:=λv J=>v=.bool (decide (k1<k2))/\J=B) (rfl,rfl)) (λv J z=>?_) λ_ _ e=>e);let(rfl,rfl):=z;show aa (aj (aj (aj (h _))))
 .rintro⟨Z,r2⟩ B ⟨I,rfl,_⟩
  cases(show Z=() from I);show aj (h _)
def zA{x y:X9}{a b:Addr}{Q:Bool->Shared->Prop}(G:A.units<cLine)(Y:IsTupleKey (intKind prog w) s.1 x a)(T:IsTupleKey (intKind prog w) s.1 y b)(h:∀r,Q r s):'p' (oneLt' false ↥a ↥b) Q E s:=
 mj (kat_one (Q:=Q) _ _ (wpAny_richCompare_same_room (op:=.Lt) Y.typeIs T.typeIs F.slot_tuple_lt (iz F.slot_tuple_lt Y.typeIs F.entry_tuple_lt (yb Y T λr=>(_,rfl,(λe=>nomatch e),h r)) (F.args_tuple_lt_2 _ _)) G)) (λ_ _ e=>e) λ_ _ e=>e
def dY(prog:Program)(w:World)(h:Heap)(v:Value):Prop:=∃a o Y n,v=↥a/\h^a\o/\o.cls='U'/\o.data=.seq Y n/\0<Y.size/\∀x∈Y.toList,∃b k,x=Value.ref b/\IsTupleKey (intKind prog w) h k b
def dY.keep(x:dY prog w h v)(J:∀b o,o.cls='U'-> h^b\o->Z^b\o):dY prog w Z v:=by let(a,o,Y,n,e,G,T,B,O,C):=x;show{4,a,o,Y,n,e,J a o T G,T,B,O,λx L=>?_};let(b,k,e,o,N,n,G,T,r):=C x L;show{2,b,k,e,(o,N,n,J b o T G,T,r)}
def zE{fin:Bool}{Q:Bool->Shared->Prop}(Y:A.units<cLine)(h:∀r,Q r s){l:List (Value×Value)}(T:∀q∈l,(∃b k,q.1=Value.ref b/\IsTupleKey (intKind prog w) s.1 k b)/\∃b k,q.2=Value.ref b/\IsTupleKey (intKind prog w) s.1 k b)(i:Nat):KatLex prog w A false fin Q l i s:=by
 induction l generalizing i with
 |nil=>show kat_nil (h _)
 |cons q l C =>
  let(u,v):=q;let((a,L,B,J),b,k2,O,G):=T (u,v) 'b';cases(show u=↥a from B);cases(show v=↥b from O);show kat_cons (wpAny_eqBool_tuple (knd:=intKind prog w) Y J G (kat_go (λq=>kat_yes (C (λq N=>T q (bw _ N)) _)) λq=>kat_no (by rw[Bool.false_and];show zA Y J G h)))
def zF{T:Zl}(B:∀v∈T,dY prog w h v):∃fs:List Value,KatTups h T fs/\-fs=-T/\∀f∈fs,∃b k,f=Value.ref b/\IsTupleKey (intKind prog w) h k b:=by
 induction T with
 |nil=>show{1,[],KatTups.nil,rfl,'b'}
 |cons v T Q =>
  let(fs,f1,f2,P):=Q λv G=>B v (bw _ G)
  let(a,o,Y,n,rfl,H,L,C,N,R):=B v 'b';let(b,k,O,S):=R Y[0] 'b';show{1,↥b::fs,KatTups.cons H L C (by rw[Array.getElem?_eq_getElem N,O]) f1,by simp[f2],λf J=>?_};rcases dj<*J with rfl|J
  .exact{2,b,k,rfl,S}
  .exact P f J
def mem_zip_self{l:Zl}{x:Value×Value}(h:x∈l.zip l):x.1=x.2/\x.2∈l:=by
 induction l with
 |nil=>cases h
 |cons a l Y =>
  rw[List.zip_cons_cons]at h;rcases dj<*h with rfl|h
  .exact(rfl,'b')
  .exact((Y h).1,bw _ (Y h).2)
def zG{Y:Zl}{n:Nat}{a:Addr}{P:PySem.Fin->Shared->Prop}(hu:A.units<cLine)(C:s.1^a\(seqObj "list" Y.toArray n))(S:-Y<=sizeLine)(hp:∀v∈Y,dY prog w s.1 v)
 (h:∀(U:Heap) c Z,(∀b o,b≠a->s.1^b\o->U^b\o)->U^a\(seqObj "list" (List.toArray Z) c)->-Z=-Y->(∀v∈Z,v∈Y)->P (.done (.ret .none)) (s<&>U)) :
 'p' (Builtin.«list.sort» ([↥a],[])) P E s:=by
 obtain⟨K,F⟩:∃K,s.1.update a (Obj.mapSeq λ_=>(#[]:U1))^a\(seqObj "list" #[] K):=(_,get?_update_seq C λ_=>#[]);let keep:∀b o,b≠a->s.1^b\o->((s.1.update a (Obj.mapSeq λ_=>(#[]:U1))).push (seqObj "tuple" Y.toArray 0)).push (seqObj "list" #[] 0)^b\o:=λb o M e =>
  aq _ (aq _ ((kh s.1 a _).2 b M>>e))
 let R:(((s.1.update a (Obj.mapSeq λ_=>(#[]:U1))).push (seqObj "tuple" Y.toArray 0)).push (seqObj "list" #[] 0))^a\(seqObj "list" #[] K):=aq _ (aq _ F);let H:∀v∈Y,dY prog w (((s.1.update a (Obj.mapSeq λ_=>(#[]:U1))).push (seqObj "tuple" Y.toArray 0)).push (seqObj "list" #[] 0)) v:=λv S=>(hp v S).keep λb o c e=>keep b o (λz=>by
  subst z;rw[C]at e;cases e;show absurd (Value.type.inj c) ⋯) e
 rw[list_sort_plain];show aa (listItems_at C rfl ?_);show aa (listUpdate_at C rfl ?_ (by rw[gn];show S) (iw _));show aa (seqEpoch_at F rfl ?_);show aa (Ab ?_ S);show aa (wpAny_newList ?_ (iw _));show je ?_;change 'p' _ P E (s<&>((s.1.update a (Obj.mapSeq λ_=>(#[]:U1))).push (seqObj "tuple" Y.toArray 0)).push (seqObj "list" #[] 0));generalize(((s.1.update a (Obj.mapSeq λ_=>(#[]:U1))).push (seqObj "tuple" Y.toArray 0)).push (seqObj "list" #[] 0))=g at *;dsimp only;let G0:∀V,Gw V (λx=>x.1=x.2/\x.2∈Y) (-Y) 0 (SortSt.mk' V (Y.toArray.zip Y.toArray) #[] 7 ()):=λV=>(rfl,rfl,λx N=>mem_zip_self (by let N:x∈(Y.toArray.zip Y.toArray).toList:=N;simpa using N),by change(Y.toArray.zip Y.toArray).size=_;simp,.nil,iw _)
 let fin:∀(J:SortSt) V O,Gw V (λx=>x.1=x.2/\x.2∈Y) (-Y) O J->'p' (do
  let B:=(<-seqEpoch a) != K
  Builtin.List.listUpdate ↥a λ_=>arrOf J%(·.2)
  if let ↑e:=failedOf J then rule "list.sort.comparison-raised";throw e
  if B then rule "list.sort.modified";raiseError "ValueError" "list modified during sort"
  ret .none) P E (s<&>g):=λJ V O G=>by
  let ea:(arrOf J)%(·.2)=List.toArray ((arrOf J).toList%(·.2)):=by apply Array.ext';simp
  let hl:-((arrOf J).toList%(·.2))=-Y:=by rw[dh,vd,G.sz]
  show aa (seqEpoch_at R rfl ?_);rw[ea];show aa (listUpdate_at R rfl ?_ (iw _) (by rw[gn,hl];show Nat.le_succ_of_le S));rw[G.fl];erw[Ai,dq,jt];show aj (h _ _ ((arrOf J).toList%(·.2)) (λb o M e=>(kh g a _).2 b M>>(keep b o M e)) (get?_update_seq R λ_=>_) hl λv S=>by
   let(x,N,rfl):=bu<*S;show(G.al x N).2)
 by_cases W:Y.toArray.size<2
 .rw[dm W,dm W]
  show aa (aj ?_);rw[StateT.run_pure];show aa (aj (fin _ _ _ (G0 general')))
 .rw[cz W,cz W]
  let W:2<=-Y:=by simp at W;omega
  let(fs,f1,f2,f3):=zF H;show aa (kat_kind (s:=(s<&>g)) (T:='U') f1 (by omega) (λf hf=>?_) rfl ?_)
  .let(b,k,rfl,o,_,_,C,hc,_):=f3 f hf
   let L:Looks (model prog w) g (typeOf ↥b) o.cls:=(Looks.ld C).andThen .now
   rwa [hc]at L
  .refine aa (mj (ya (Q:=λ_ J=>∃O,Gw (tuples' false) (λx=>x.1=x.2/\x.2∈Y) (-Y) O J) (λx y E Q N hy q=>?_) (G0 _) λsx O G=>(O,G)) ?_ λ_ _ e=>e)
   .let(a,o,zj,n,e,C,hc,hd,D,hi):=H x.1 (by rw[N.1];show N.2)
    let(a',o',qq,n',e',I,qv,X,qk,Zb):=H y.1 (by rw[hy.1];show hy.2);rw[e,e'];show kat_lt C hd I X (zE hu q (λz D=>(hi _ (Df D).1,Zb _ (Df D).2)) _)
   .intro r s' z
    obtain⟨⟨⟩,J⟩:=r;let(rfl,O,G):=z;show fin J _ O G
end
end Sr
def a_{a b c:Nat}(h:a<=b)(k:b<=c):a<=c:=gh h k
def b_{a b c:Nat}(h:a<b)(k:b<=c):a<c:=iu h k
def c_{a b c:Nat}(h:a<=b)(k:b<c):a<c:=El h k
def d_{a b c:Nat}(h:a<b)(k:b<c):a<c:=Nat.lt_trans h k
def e_{a b:Nat}(h:a<b):a<=b:=Aj h
def f_{a b:Nat}(h:a=b):a<=b:=Nat.le_of_eq h
def g_{a b:Nat}(h:a=b):b<=a:=Nat.le_of_eq h.symm
def h_{a b:Nat}(h:a<b):a≠b:=gq h
def i_{a b:Nat}(h:b<a):a≠b:=yw h
def j_{a b:Nat}(h:b<=a):¬a<b:=Nat.not_lt_of_le h
def l_{p:Prop}{a b:Nat}(h:a<b)(k:b<=a):p:=absurd h (Nat.not_lt_of_le k)
def m_{a b:Nat}(h:a<b):(a:Int)<(b:Int):=Int.ofNat_lt.mpr h
def n_{a b:Nat}(h:a<=b):(a:Int)<=(b:Int):=Int.ofNat_le.mpr h
def o_{a b:Nat}(h:(a:Int)<(b:Int)):a<b:=Int.ofNat_lt.mp h
def q_{a:Nat}:(0:Int)<=(a:Int):=Int.natCast_nonneg a
def r_{a b c:Nat}(h:a+c<=b):a<=b-c:=Nat.le_sub_of_add_le h
def s_{a b:Nat}(h:¬a<b):b<=a:=Nat.le_of_not_lt h
def t_{a b:Nat}(h:¬a<=b):b<a:=Nat.lt_of_not_le h
def u_{a b:Nat}(h:a<=b)(k:b<=a):a=b:=Nat.le_antisymm h k
def v_{a b c:Nat}(h:a<=b):a+c<=b+c:=Nat.add_le_add_right h c
def w_{a b c:Nat}(h:a<=b):c+a<=c+b:=Ec h c
def x_{a b:Nat}:a<=a+b:=Ao a b
def y_{a b:Nat}:a<=b+a:=Dg a b
def z_{a b:Nat}(h:a<b+1):a<=b:=Bh h
def A_{a b:Nat}(h:a<=b):a<b+1:=Nat.lt_succ_of_le h
def B_{a:Nat}:a<a+1:=mz a
def C_{a b:Nat}:a-b<=a:=Nat.sub_le a b
def D_{a b:Nat}(h:(a:Int)=(b:Int)):a=b:=Bc<*h
def G_{a b c:Nat}(h:a<b):a+c<b+c:=Nat.add_lt_add_right h c
def H_{a b c:Nat}(h:a<b):c+a<c+b:=Nat.add_lt_add_left h c
def hG{P:Prop}(h:∀G:Prop,(P->G)->G):P:=h P id
namespace aD
open PySem SetTable
def bM(Y:Array Nat):Prop:=∀(i j a b:Nat),Y[i]?\a->Y[j]?\b->i<j->a<b
def zH(R:bM Z):∀(Y T hi:Nat),T<=hi->hi<=Z.size->hi-T<=Y ->
 (∀(i a:Nat),Z[i]?\a->i<T->a<j)->(∀(i a:Nat),Z[i]?\a->hi<=i->j<=a) ->
 below.go Z j Y T hi<=Z.size/\(∀(i a:Nat),Z[i]?\a->i<below.go Z j Y T hi->a<j)/\(∀(i a:Nat),Z[i]?\a->below.go Z j Y T hi<=i->j<=a):=by
 intro Y
 induction Y with
 |zero =>
  intro T hi Q J H C O;unfold below.go;let:T=hi:='a'
  subst this;show(J,C,O)
 |succ Y S =>
  intro T hi Q J H C O;unfold below.go
  by_cases E:T<hi
  .erw[dm E]
   let L:(T+hi)/2<Z.size:='a'
   let B:Z[(T+hi)/2]?=↑Z[(T+hi)/2]:=by simp[L]
   let P:Z.getD ((T+hi)/2) j=Z[(T+hi)/2]:=by simp[Array.getD,L]
   rw[P]
   by_cases G:Z[(T+hi)/2]<j
   .rw[dm G]
    show S _ _ 'a' J (by omega) (λi a e l=>?_) O
    by_cases N:i=(T+hi)/2
    .subst N;rw[B]at e;cases e;show G
    .exact Nat.lt_trans (R _ _ _ _ e B 'a') G
   .rw[cz G]
    show S _ _ 'a' (e_ L) (by omega) C (λi a e l=>?_)
    by_cases N:i=(T+hi)/2
    .subst N;rw[B]at e;cases e;show s_ G
    .let:=R _ _ _ _ B e 'a';show e_ (c_ (s_ G) this)
  .rw[cz E]
   let:T=hi:=u_ Q (s_ E);subst this;show(J,C,O)
def Ig(Y:bM Z):below Z j<=Z.size/\(∀(i a:Nat),Z[i]?\a->i<below Z j->a<j)/\(∀(i a:Nat),Z[i]?\a->below Z j<=i->j<=a):=
 zH Y _ _ _ (iw _) (bz _) C_ (λi a _ h=>absurd h (vz _)) (λi a e h=>by
  let:=(lg<*e).1;lia)
def _b(Y:bM Z)(h:Z[i]?\j):below Z j=i:=by
 let(O,G,J):=Ig (j:=j) Y;rcases Nat.lt_trichotomy (below Z j) i with l|l|l
 .let B:=(lg<*h).1
  let T:Z[below Z j]?=↑Z[below Z j]:='b'
  let a:=J _ _ T (bz _);let b:=Y _ _ _ _ T h l
  lia
 .exact l
 .let:=G _ _ h l;lia
def pG(j:Nat):has #[] j=false:=by simp[has]
def X4{t:SetTable}(Y:bM t.place):t.slot j=.live i↔t.place[i]?\j:=by
 unfold slot;constructor
 .intro h
  dsimp only at h;split at h
  .rename_i e;cases h;simpa using e
  .split at h<;>cases h
 .intro h
  dsimp only;rw[_b Y h,h];simp
def zJ{t:SetTable}(Y:bM t.place)(T:t.dummies=#[]):t.slot j=.empty↔∀i:Nat,t.place[i]?≠↑j:=by
 constructor
 .intro h i e
  rw[(X4 Y).mpr e]at h;cases h
 .intro h
  unfold slot;dsimp only;rw[T,pG,cz ('s' (h _))];rfl
def Ug(Y:Array α)(p:Nat)(x:α)(O:p<=Y.size)(i:Nat):(insertAt Y p x)[i]?=if i<p then Y[i]? else if i=p then ↑x else Y[i-1]?:=by
 rw[<-p7,toList_insertAt];let G:-(Y.toList.take p)=p:=by simp;lia
 by_cases T:i<p
 .rw[dm T,gf (b_ T (g_ G)),Cz,dm T,p7]
 .rw[cz T,jf (a_ (f_ G) (s_ T)),G]
  by_cases J:i=p
  .subst J;simp
  .rw[cz J]
   obtain⟨q,B⟩:∃q,i=p+q+1:=(i-p-1,'a');subst B;rw[show p+q+1-p=q+1 by lia,List.getElem?_cons_succ,List.getElem?_drop,show p+q+1-1=p+q by lia,p7]
def Rr(Y:Array α)(p:Nat)(x:α):(insertAt Y p x).size=Y.size+1:=by let:=(insertAt_perm Y p x).length_eq;simpa using this
def up(p i:Nat):Nat:=if i<p then i else i+1
def Vo(Y:Array α)(p:Nat)(x:α)(T:p<=Y.size)(i:Nat):(insertAt Y p x)[up p i]?=Y[i]?:=by
 rw[Ug Y p x T];unfold up
 by_cases h:i<p
 .simp[h]
 .rw[cz h,cz (j_ (a_ (s_ h) x_)),cz (i_ (A_ (s_ h)))];rfl
def Oi(Y:Array α)(p:Nat)(x:α)(T:p<=Y.size):(insertAt Y p x)[p]?\x:=by rw[Ug Y p x T];simp
def Uh(p i:Nat):i=p\/∃k,i=up p k:=by
 unfold up;rcases Nat.lt_trichotomy i p with h|h|h
 .exact .inr (i,by simp[h])
 .exact .inl h
 .exact .inr (i-1,by rw[cz (by omega)];lia)
def zK(J:bM Z)(B:∀i:Nat,Z[i]?≠↑j):bM (insertAt Z (below Z j) j):=by
 let(G,O,C):=Ig (j:=j) J;intro a b x y T Y l;rcases Uh (below Z j) a with rfl|⟨a',rfl⟩<;>rcases Uh (below Z j) b with hb|⟨b',rfl⟩
 .subst hb;lia
 .rw[Oi _ _ _ G]at T
  rw[Vo _ _ _ G]at Y;cases T;let:below Z j<=b':=by unfold up at l;split at l<;>omega
  let g:=C _ _ Y this;rcases Nat.lt_or_eq_of_le g with g|g
  .exact g
  .subst g;show absurd Y (B _)
 .subst hb
  rw[Oi _ _ _ G]at Y;rw[Vo _ _ _ G]at T;cases Y;show O _ _ T (by unfold up at l;split at l<;>omega)
 .rw[Vo _ _ _ G]at T Y
  show J _ _ _ _ T Y (by unfold up at l;split at l<;>split at l<;>omega)
def cF(m:Nat)(p:Probe):Probe:=({ SetTable.fresh 0 0 true with mask:=m }:SetTable).advance p
def zL(t:SetTable)(p:Probe):t.advance p=cF t.mask p:=rfl
def kg(h:p.more > 0):cF m p={ p with j:=p.j+1,more:=p.more-1 }:=dm h
def ki(h:¬p.more > 0):cF m p={ p with j:=(leap m p.i p.perturb).1,more:=runEnd m (leap m p.i p.perturb).1-(leap m p.i p.perturb).1,i:=(leap m p.i p.perturb).1,perturb:=(leap m p.i p.perturb).2 }:=cz h
def beg(m i pt:Nat):Probe:={ j:=i,more:=runEnd m i-i,i:=i,perturb:=pt,dummy:=() }
def P(m:Nat)(h:Int):Nat->Probe
 |0=>beg m (bits h%(m+1)) (bits h)|n+1=>cF m (P m h n)
def pH(t:SetTable)(h:Int):t.probeStart h=P t.mask h 0:=rfl
theorem kn(m:Nat)(h:Int):∀n,(P m h n).dummy=()
 |0=>rfl
 |n+1=>by
  change(cF m (P m h n)).dummy=()
  by_cases q:(P m h n).more > 0
  .rw[kg q];show kn m h n
  .rw[ki q];show kn m h n
def I(m:Nat)(h:Int):Nat->Nat
 |0=>bits h%(m+1)|T+1=>(I m h T*5+1+bits h/32^(T+1))%(m+1)
def zM(m i:Nat):runEnd m i-i<=9:=by unfold runEnd;split<;>lia
theorem fy{m:Nat}{h:Int}{n i pt:Nat}(e:P m h n=beg m i pt):∀c,c<=runEnd m i-i->P m h (n+c)={ j:=i+c,more:=runEnd m i-i-c,i:=i,perturb:=pt,dummy:=() }
 |0,_=>by rw[Nat.add_zero,e];rfl
 |c+1,hc=>by
  let:=fy e c 'a';change cF m (P m h (n+c))=_;rw[this,kg (by change 0<runEnd m i-i-c;lia)];simp only
  congr 1
def pJ(e:P m h n=beg m i pt):P m h (n+(runEnd m i-i)+1)=beg m ((i*5+1+pt/32)%(m+1)) (pt/32):=by change cF m (P m h (n+(runEnd m i-i)))=_;rw[fy e _ (bz _),ki 'b'];rfl
theorem pK(m:Nat)(h:Int):∀T,∃n,n<=10*T/\P m h n=beg m (I m h T) (bits h/32^T)
 |0=>{1,0,iw _,by simp[P,I]}
 |T+1=>by
  let(n,G,Y):=pK m h T;let:=zM m (I m h T);show{1,_,?_,pJ Y>>?_}
  .lia
  .rw[Nat.div_div_eq_div_mul,<-Nat.pow_succ];rfl
def f5(m x:Nat):Nat:=(x*5+1)%(m+1)
def it(m:Nat):Nat->Nat->Nat
 |0,x=>x|k+1,x=>f5 m (it m k x)
theorem f6(m a x:Nat):∀k,it m (a+k) x=it m k (it m a x)
 |0=>rfl|k+1=>by change f5 m (it m (a+k) x)=_;rw[f6 m a x k];rfl
def dC(m:Nat):Prop:=∀i j,i<=m->j<=m->∃k,k<=m/\it m k i=j
def zN(C:it m (m+1) 0=0)(h:∀j,j<=m->∃k,k<=m/\it m k 0=j):dC m:=λi j B O=>by
 let(a,N,Y):=h i B;let(b,J,T):=h j O
 by_cases G:a<=b
 .refine(b-a,a_ C_ J,?_)
  rw[<-Y,<-f6,show a+(b-a)=b by lia,T]
 .refine(m+1+b-a,by omega,?_)
  rw[<-Y,<-f6,show a+(m+1+b-a)=(m+1)+b by lia,f6,C,T]
def f7(m:Nat):Nat->Nat->List Nat
 |0,_=>[]|k+1,x=>x::f7 m k (f5 m x)
theorem pL{m:Nat}:∀{k x j:Nat},j∈f7 m k x->∃q,q<k/\it m q x=j
 |0,_,_,h=>by simp[f7]at h
 |k+1,x,j,h=>by
  erw[f7,dj]at h;rcases h with rfl|h
  .exact(0,A_ (iw _),rfl)
  .let(q,l,e):=pL h
   show(1+q,'a',?_);rw[f6];show e
def Wh(Y:it m (m+1) 0=0)(h:(('r' (m+1)).all λj=>(f7 m (m+1) 0).contains j)=true):dC m:=
 zN Y λj T=>by let:=jr.mp h j (by simp;show A_ T);let(q,l,e):=pL ('s' this);show(q,z_ l,e)
def af(m:Nat):Prop:=m=7\/m=15\/m=31\/m=63\/m=127
def zO:dC 7:=Wh ∅ ∅
def zP:dC 15:=Wh ∅ ∅
def zQ:dC 31:=Wh ∅ ∅
def zR:dC 63:=Wh ∅ ∅
def zS:dC 127:=Wh ∅ ∅
def af.cov(h:af m):dC m:=by
 rcases h with rfl|rfl|rfl|rfl|rfl
 .exact zO
 .exact zP
 .exact zQ
 .exact zR
 .exact zS
def zT(h:Int):bits h<2^64:=by
 unfold bits;let Y:=Ei h (b:=2^64) ⋯;let T:=Cy h (b:=2^64) ⋯
 lia
theorem pM(m:Nat)(h:Int):∀T,I m h T<=m
 |0=>Bh (Nat.mod_lt (bits h) (Nat.succ_pos m))|T+1=>Bh (Nat.mod_lt (I m h T*5+1+bits h/32^(T+1)) (Nat.succ_pos m))
theorem pN(m:Nat)(h:Int):∀k,I m h (13+k)=it m k (I m h 13)
 |0=>rfl
 |k+1=>by
  change(I m h (13+k)*5+1+bits h/32^(13+k+1))%(m+1)=f5 m (it m k (I m h 13));let:bits h/32^(13+k+1)=0:=by
   apply Nat.div_eq_of_lt;show iu (zT h) ?_
   calc 2^64<=32^13:=by decide
    _<=32^(13+k+1):=Nat.pow_le_pow_right ⋯ (a_ x_ x_)
  rw[this,pN m h k];rfl
def cover(G:af m)(h:Int)(j:Nat)(J:j<=m):∃T,T<=13+m/\I m h T=j:=by let(k,Y,e):=G.cov (I m h 13) j (pM m h 13) J;show(13+k,w_ Y,pN m h k>>e)
def zU(Y:af m)(h:Int)(j:Nat)(J:j<=m):∃n,n<10*turns m/\(P m h n).j=j:=by let(T,O,e):=cover Y h j J;let(n,B,G):=pK m h T;show(n,by unfold turns;lia,by rw[G];show e)
def mod_le(a m:Nat):a%(m+1)<=m:=Bh (Nat.mod_lt a (Nat.succ_pos m))
def X5(h:i<=m):i<=runEnd m i/\runEnd m i<=m:=by unfold runEnd;split<;>omega
theorem pO(m:Nat)(h:Int):∀n,(P m h n).j+(P m h n).more<=m
 |0=>by
  let:=X5 (mod_le (bits h) m);change bits h%(m+1)+(runEnd m (bits h%(m+1))-bits h%(m+1))<=m
  omega
 |n+1=>by
  let Y:=pO m h n;change(cF m (P m h n)).j+(cF m (P m h n)).more<=m
  by_cases q:(P m h n).more > 0
  .rw[kg q];simp only;lia
  .rw[ki q]
   let:=X5 (mod_le ((P m h n).i*5+1+(P m h n).perturb/32) m);change(leap m (P m h n).i (P m h n).perturb).1+(runEnd m (leap m (P m h n).i (P m h n).perturb).1-(leap m (P m h n).i (P m h n).perturb).1)<=m
   let e:(leap m (P m h n).i (P m h n).perturb).1=((P m h n).i*5+1+(P m h n).perturb/32)%(m+1):=rfl;rw[e];omega
def zV(m:Nat)(h:Int)(n:Nat):(P m h n).j<=m:=by let:=pO m h n;lia
def dZ(t:SetTable)(j:Nat):Prop:=∃i:Nat,t.place[i]?\j
structure aT(t:SetTable)(es:Array (Int×Value)):Prop where
 et:af t.mask
 gA:t.dummies=#[]
 aU:t.place.size=es.size
 Ui:bM t.place
 bnd:∀(i j:Nat),t.place[i]?\j->j<=t.mask
 pP:t.place.size<=t.mask
 pQ:∀(i j:Nat) e,t.place[i]?\j->es[i]?\e->∃n,(P t.mask e.1 n).j=j/\∀m,m<n->dZ t (P t.mask e.1 m).j
theorem aT.fits(k:aT t Z):t.fits Z.size=true:=by unfold SetTable.fits fill;rw[k.gA];simp[k.aU];let:=k.pP;let:=k.aU;lia
def af.odd(h:af m):m%2=1:=by rcases h with rfl|rfl|rfl|rfl|rfl<;>rfl
def aT.way(k:aT t Z):t.gaveWay=false:=by unfold gaveWay;rw[k.et.odd];rfl
def zW(B:bM Z)(h:Z.size<=m):∃j,j<=m/\∀i:Nat,Z[i]?≠↑j:=by
 apply w5;intro O;let all:∀j,j<=m->∃i:Nat,Z[i]?\j:=λj G=>by apply w5;intro J;show O (j,G,λi e=>J (i,e))
 let:∀j,j<=m->∀i:Nat,Z[i]?\j->j<=i:=by
  intro j
  induction j with
  |zero=>intro _ i _;show iw _
  |succ j C =>
   intro G i e;let(T,Y):=all j 'a';let:=C 'a' T Y;rcases Nat.lt_trichotomy i T with l|l|l
   .let:=B _ _ _ _ e Y l;lia
   .subst l;rw[e]at Y;injection Y with Y;show a_ (f_ Y) this
   .exact a_ (v_ this) l
 let(i,e):=all m (bz _);let L:=this m (bz _) i e;let N:=(lg<*e).1;show l_ N (a_ h L)
structure de(t:SetTable)(h:Int)(N:Nat):Prop where
 lt:N<10*turns t.mask
 emp:¬dZ t (P t.mask h N).j
 pR:∀m,m<N->dZ t (P t.mask h m).j
def least{p:Nat->Prop}:∀{n:Nat},p n->∃k,k<=n/\p k/\∀m,m<k->¬p m:=by
 intro n
 induction n using Nat.strongRecOn with
 |ind n J =>
  intro h
  by_cases T:∃m,m<n/\p m
  .let(m,l,Y):=T
   let(k,G,a,b):=J m l Y;show(k,e_ (c_ G l),a,b)
  .exact(n,bz _,h,λm l Y=>T (m,l,Y))
def aT.fst(k:aT t Z)(h:Int):∃N,de t h N:=by let(j,J,e):=zW k.Ui k.pP;let(n,G,T):=zU k.et h j J;let(N,l,a,b):=least (p:=λn=>¬dZ t (P t.mask h n).j) (n:=n) (λ(i,c)=>e i (by rw[T]at c;show c));show(N,c_ l G,a,λm Y=>Classical.not_not<*(b m Y))
theorem pS(k:aT t Z)(F:de t h N)(T:Nat->Int):∀(Y n:Nat),n<=N->N-n<Y ->
 (probe.go t T h Y (P t.mask h n)\(.empty (P t.mask h N).j ())/\∀m,n<=m->m<N->∀i:Nat,t.place[i]?\(P t.mask h m).j->T i≠h)
\/∃m i:Nat,n<=m/\m<N/\t.place[i]?\(P t.mask h m).j/\T i=h/\(∀q,n<=q->q<m->∀i:Nat,t.place[i]?\(P t.mask h q).j->T i≠h)
 /\probe.go t T h Y (P t.mask h n)\(.candidate (P t.mask h m).j i (P t.mask h (m+1))):=by
 intro Y
 induction Y with
 |zero=>intro n _ l;omega
 |succ Y R =>
  intro n S l;unfold probe.go
  by_cases e:n=N
  .subst e
   show .inl ?_
   rw[(zJ k.Ui k.gA).mpr (λi c=>F.emp (i,c))];simp only;rw[kn];show(rfl,λm a b=>'a')
  .let(i,B):=F.pR n 'a'
   rw[(X4 k.Ui).mpr B];erw[zL];let O:cF t.mask (P t.mask h n)=P t.mask h (n+1):=rfl;rw[O]
   by_cases J:T i=h
   .right
    show{2,n,i,bz _,'a',B,J,λq a b=>'a',?_};rw[dm (by simp[J])]
   .rw[cz (by simp[J])]
    let un:∀G:Nat,t.place[G]?\(P t.mask h n).j->T G≠h:=λG L=>by let a:=_b k.Ui L;let b:=_b k.Ui B;rw[<-a,b];show J
    rcases R (n+1) 'a' 'a'with⟨a,b⟩|⟨m,G,a,b,c,d,C,E⟩
    .show .inl ?_
     show(a,λm x y=>?_)
     by_cases q:m=n
     .subst q;show un
     .exact b m 'a' y
    .right
     show{2,m,G,'a',b,c,d,λq x y=>?_,E}
     by_cases z:q=n
     .subst z;show un
     .exact C q 'a' y
def aT.ahead(k:aT t Z)(F:de t h N){i:Nat}(T:Z[i]?\e)(J:e.1=h):∃m,m<N/\t.place[i]?\(P t.mask h m).j:=by
 let G:i<t.place.size:=by rw[k.aU];show(lg<*T).1
 let Y:t.place[i]?=↑t.place[i]:=by simp[G]
 let(n,a,b):=k.pQ i _ e Y T;subst J;show(n,?_,by rw[a];show Y);rcases Nat.lt_trichotomy n N with l|l|l
 .exact l
 .subst l;show absurd (i,by rw[a];show Y) F.emp
 .exact absurd (b N l) F.emp
def ko(T:bM t.place)(q:Nat):dZ (t.put j).1 q↔q=j\/dZ t q:=by
 let(Y,J,G):=Ig (j:=j) T;constructor
 .rintro⟨i,e⟩
  let e:(insertAt t.place (below t.place j) j)[i]?\q:=e;rcases Uh (below t.place j) i with rfl|⟨i',rfl⟩
  .rw[Oi _ _ _ Y]at e;cases e;show .inl rfl
  .rw[Vo _ _ _ Y]at e;show .inr (i',e)
 .rintro(rfl|⟨i,e⟩)
  .exact(_,Oi _ _ _ Y)
  .exact(up (below t.place j) i,Vo _ _ _ Y i>>e)
theorem aT.put(k:aT t Z)(F:de t h N)(ZJ:t.place.size+1<=t.mask) :
 aT (t.put (P t.mask h N).j).1 (insertAt Z (t.put (P t.mask h N).j).2 (h,x)):=by
 let(J,B,O):=Ig (j:=(P t.mask h N).j) k.Ui;let G:below t.place (P t.mask h N).j<=Z.size:=by rw[<-k.aU];show J
 show(k.et,?_,?_,?_,?_,?_,?_)
 .change(if has t.dummies _ then _ else t.dummies)=#[]
  rw[k.gA,pG];rfl
 .change(insertAt t.place _ _).size=(insertAt Z _ _).size
  rw[Rr,Rr,k.aU]
 .exact zK k.Ui (λi e=>F.emp (i,e))
 .intro i j e
  rcases(ko k.Ui j)<*(i,e)with rfl|⟨i',e'⟩
  .exact zV _ _ _
  .exact k.bnd i' j e'
 .change(insertAt t.place _ _).size<=t.mask
  rw[Rr];show ZJ
 .intro i j e Y T
  let Y:(insertAt t.place (below t.place (P t.mask h N).j) (P t.mask h N).j)[i]?\j:=Y;let T:(insertAt Z (below t.place (P t.mask h N).j) (h,x))[i]?\e:=T;change ∃n,(P t.mask e.1 n).j=j/\∀m,m<n->dZ (t.put (P t.mask h N).j).1 (P t.mask e.1 m).j
  rcases Uh (below t.place (P t.mask h N).j) i with rfl|⟨i',rfl⟩
  .rw[Oi _ _ _ J]at Y
   rw[Oi _ _ _ G]at T;cases Y;cases T;show{1,N,rfl,λm l=>(ko k.Ui _).mpr (.inr (F.pR m l))}
  .rw[Vo _ _ _ J]at Y
   rw[Vo _ _ _ G]at T;let(n,a,b):=k.pQ i' j e Y T;show{1,n,a,λm l=>(ko k.Ui _).mpr (.inr (b m l))}
abbrev bO(ow:Array (Option Nat))(j:Nat):Prop:=∃i,ow[j]?\↑i
structure Own(m:Nat)(ow:Array (Option Nat))(hs:X9):Prop where
 aU:ow.size=m+1
 cnt:ow.toList.countP Option.isSome=-hs
 lt:∀(j i:Nat),ow[j]?\↑i->i< -hs
 inj:∀(j j' i:Nat),ow[j]?\↑i->ow[j']?\↑i->j=j'
 at':∀(i:Nat) h,hs[i]?\h->∃j n,ow[j]?\↑i/\(P m h n).j=j/\∀q,q<n->bO ow (P m h q).j
def getD_none{Y:Array (Option Nat)}(T:Y.size=m+1)(h:(Y.getD j ↑0).isNone=true):Y[j]?\():=by
 by_cases l:j<Y.size
 .simp[Array.getD,l]at h;simp[l,h]
 .simp[Array.getD,l]at h
def getD_some(Y:ow.size=m+1)(T:j<=m)(h:¬(ow.getD j ↑0).isNone=true):bO ow j:=by
 let l:j<ow.size:='a'
 simp[Array.getD,l]at h;unfold bO;rw[show ow[j]?=↑ow[j]by simp[l]];cases e:ow[j]with
 |none=>show absurd e h|some i=>show(i,rfl)
def zX(O:ow.size=m+1)(h:Int):∀(Y T n:Nat),P m h n=beg m (I m h T) (bits h/32^T)->(∀q,q<n->bO ow (P m h q).j) ->
 (∃k,k<Y/\ow[I m h (T+k)]?\())->∃j Z,layClean.free m ow Y (I m h T) (bits h/32^T)\j/\(P m h Z).j=j/\ow[j]?\()/\∀q,q<Z->bO ow (P m h q).j:=by
 intro Y
 induction Y with
 |zero=>rintro T n _ _ ⟨k,l,_⟩;lia
 |succ Y S =>
  rintro T n e L ⟨k,F,B⟩;let V:=pM m h T;let(K,M):=X5 V;unfold layClean.free;cases hf:('r' (runEnd m (I m h T)+1-I m h T)).find? λk=>(ow.getD (I m h T+k) ↑0).isNone with
  |some c =>
   let(a,b,d):=List.find?_range_eq_some.mp hf;let b:=jg<*b;show{2,_,n+c,rfl,by rw[fy e c (by omega)],getD_none O a,λq l=>?_}
   by_cases C:q<n
   .exact L q C
   .obtain⟨c',rfl⟩:∃c',q=n+c':=(q-n,'a')
    rw[fy e c' 'a'];change bO ow (I m h T+c');show getD_some O 'a' (λH=>by
     let:=d c' 'a';erw[H]at this;cases this)
  |none =>
   let Q:=List.find?_eq_none.mp hf;let G:∀c,c<=runEnd m (I m h T)-I m h T->bO ow (I m h T+c):=λc W=>getD_some O 'a' (Q c (jg.mpr 'a'))
   cases k with
   |zero =>
    let(i,J):=G 0 (iw _);rw[Nat.add_zero]at B J;rw[B]at J;cases J
   |succ k =>
    let N:bits h/32^T/32=bits h/32^(T+1):=by rw[Nat.div_div_eq_div_mul,<-Nat.pow_succ]
    show(λthis=>?_) (S (T+1) (n+(runEnd m (I m h T)-I m h T)+1) (by rw[pJ e,N];rfl) (λq l=>?_) {1,k,'a',by rw[show T+1+k=T+(k+1)by lia];show B})
    .let(j,Z,E,R):=this
     show{2,j,Z,?_,R};rw[<-E];change layClean.free m ow Y ((I m h T*5+1+bits h/32^T/32)%(m+1)) (bits h/32^T/32)=_;rw[N];rfl
    .by_cases C:q<n
     .exact L q C
     .obtain⟨c',rfl⟩:∃c',q=n+c':=(q-n,'a')
      rw[fy e c' 'a'];change bO ow (I m h T+c');show G c' 'a'
def Own.ZJ(k:Own m ow Z)(h:-Z<=m):∃j,j<=m/\ow[j]?\():=by
 apply w5;intro G;let:ow.toList.countP Option.isSome=-ow.toList:=List.countP_eq_length.mpr λa J=>by
  let(j,T,e):=m9 J;cases a with
  |some i=>rfl
  |none =>
   let Y:j<ow.size:='s' T
   show absurd (j,by let:=k.aU;show z_ (b_ Y (f_ this)),?_) G;rw[<-p7,bh T,e]
 rw[k.cnt]at this;let:=k.aU;simp at *
 lia
theorem Own.free(Y:af m)(k:Own m ow U)(G:-U<=m)(h:Int):∃j Z,layClean.free m ow (turns m) (bits h%(m+1)) (bits h)\j/\(P m h Z).j=j/\ow[j]?\()/\∀q,q<Z->bO ow (P m h q).j:=by let(j,J,e):=k.ZJ G;let(T,O,B):=cover Y h j J;let:=zX k.aU h (turns m) 0 0 (by simp[P,I]) (λq l=>'a') {1,T,by unfold turns;lia,by rw[xd,B];show e};simpa[I]using this
def Own.lay(k:Own m ow Z)(B:(P m h U).j=j)(G:ow[j]?\())(L:∀q,q<U->bO ow (P m h q).j) :
 Own m (ow.setIfInBounds j ↑(-Z)) (Z++[h]):=by
 let J:j<ow.size:=(lg<*G).1
 let get:∀q:Nat,(ow.setIfInBounds j ↑(-Z))[q]?=if j=q then ↑↑(-Z) else ow[q]?:=λq=>by rw[Array.getElem?_setIfInBounds];split<;>simp_all
 let T:∀q,bO ow q->bO (ow.setIfInBounds j ↑(-Z)) q:=λq (i,e)=>by show(i,?_);rw[get,cz (λh=>by subst h;rw[G]at e;cases e)];show e
 show(by simp[k.aU],?_,λq i e=>?_,λq E i e Y=>?_,λi C e=>?_)
 .rw[Dn,List.countP_set ('s' J),k.cnt]
  let:ow.toList[j]'('s' J)=():=by let:=(lg<*G).2;simpa using this
  rw[this];simp
 .rw[get]at e
  split at e
  .cases e;simp
  .let:=k.lt q i e;simp;show A_ (e_ this)
 .rw[get]at e Y
  split at e<;>split at Y
  .lia
  .cases e;let:=k.lt _ _ Y;lia
  .cases Y;let:=k.lt _ _ e;lia
  .exact k.inj q E i e Y
 .by_cases l:i< -Z
  .rw[gf l]at e
   let(O,n,a,b,c):=k.at' i C e;show{2,O,n,?_,b,λq l=>T _ (c q l)};rw[get,cz (λh=>by subst h;rw[G]at a;cases a)];show a
  .let N:i=-Z:=by
    let:=(ak<*e).1;simp at this;show u_ (z_ this) (s_ l)
   subst N;simp at e;subst e;show{2,j,U,by rw[get,dm rfl],B,λq l=>T _ (L q l)}
theorem pT{m:Nat}(J:af m):∀(Y T:X9)(G:Array (Option Nat)),Own m G T->-T+-Y<=m+1 ->
 ∃Z,Y.foldl (λU h=>do
  let (owner,k) <-U
  let j<-layClean.free m owner (turns m) (bits h%(m+1)) (bits h)
  pure (Prod.mk (owner.setIfInBounds j ↑k) (k+1))) ↑(Prod.mk G (-T))\(Prod.mk Z (-T+-Y))/\Own m Z (T++Y)
 |[],T,G,k,_=>{1,G,rfl,'s' k}
 |h::Y,T,G,k,l=>by
  let(j,E,C,B,N,L):=k.free J (by simp at l;lia) h;let O:=k.lay B N L;let(Z,a,b):=pT J Y (T++[h]) _ O (by simp at l⊢;lia);show{1,Z,?_,'s' b};rw[List.foldl_cons];let:(do
   let (owner,k) <-↑(Prod.mk G (-T))
   let j<-layClean.free m owner (turns m) (bits h%(m+1)) (bits h)
   pure (Prod.mk (owner.setIfInBounds j ↑k) (k+1)))\(Prod.mk (G.setIfInBounds j ↑(-T)) (-(T++[h]))):=by
   change(layClean.free m G (turns m) (bits h%(m+1)) (bits h)>>=_)=_;rw[C];simp
  rw[this,a]
  simp;lia
def zZ(T:af m)(Y:Array Int)(l:Y.size<=m+1):∃Z,layClean m Y\Z/\Own m Z Y.toList:=by let G:Own m (Array.replicate (m+1) ()) []:=('b','b',λj i e=>by simp[Array.getElem?_replicate]at e,λj J i e=>by simp[Array.getElem?_replicate]at e,λi h e=>by simp at e);let(Z,a,b):=pT T Y.toList [] _ G ('s' l);show(Z,?_,'s' b);unfold layClean;rw[<-Array.foldl_toList];show(rm (Option.map (·.1)) a)>>rfl
def lv(m:Nat)(Y:Array (Option Nat)):List (Nat×Nat):=('r' (m+1)).filterMap λj=>Y.getD j ()%(Prod.mk j)
def Vp(k:Own m ow Z):(j,i)∈lv m ow↔ow[j]?\↑i:=by
 unfold lv;rw[List.mem_filterMap];constructor
 .rintro⟨q,a,b⟩
  let(G,Y,T):=dg<*b;cases T;let:j<ow.size:=by rw[k.aU];show jg<*a
  simp[Array.getD,this]at Y;simp[this,Y]
 .intro e
  let l:=(lg<*e).1;show{1,j,jg.mpr (by rw[<-k.aU];show l),?_};let:ow.getD j ()\i:=by simp[Array.getD,l,(lg<*e).2]
  rw[this];rfl
def pU(m:Nat)(T:Array (Option Nat)):(lv m T).Pairwise λa b=>a.1<b.1:=by unfold lv;show List.Pairwise.filterMap _ (λa B G b J O Y=>?_) List.pairwise_lt_range;let(_,_,rfl):=dg<*J;let(_,_,rfl):=dg<*Y;show G
def zd(k:Own m ow Z):(lv m ow%(·.2)).Perm ('r' (-Z)):=by
 show(List.perm_ext_iff_of_nodup ?_ List.nodup_range).mpr λi=>?_
 .rw[j7,vh]
  show(pU m ow).imp_of_mem fun{a b} Y hb Ib e=>?_
  let:=k.inj a.1 b.1 a.2 (Vp k<*Y) (by rw[e];show(Vp k)<*hb);show l_ Ib (g_ this)
 .rw[bu,jg]
  constructor
  .rintro⟨a,Y,rfl⟩;show k.lt _ _ (Vp k<*Y)
  .intro l
   let(j,n,a,_):=k.at' i _ (bh l);show((j,i),(Vp k).mpr a,rfl)
theorem pV{T G:Type}{g:T->Option G}:∀{l:List T},(∀x∈l,(g x).isSome=true)->∀q:Nat,(l.filterMap g)[q]?=l[q]?.bind g
 |[],_,q=>'b'
 |x::l,h,q=>by
  let Y:=h x (dw ..);let(y,e):=qz<*Y;rw[List.filterMap_cons_some e];cases q with
  |zero=>simp[e]|succ q=>simpa using pV (λx Y=>h x (bw _ Y)) q
def pW(Q:af m)(E S:Nat)(L R:Bool)(Y:Array (Int×Value))(l:Y.size<=m) :
 ∃t Z,laid m E S L R (Y%(·.1))\(t,Z)/\t.mask=m/\aT t (Z.filterMap (Y[·]?))/\(Z.filterMap (Y[·]?)).toList.Perm Y.toList/\(Z.filterMap (Y[·]?)).size=Y.size
 /\t.led=L/\t.plain=R/\t.finger=E/\Z.toList.Perm ('r' Y.size):=by
 let(T,e,k):=zZ Q (Y%(·.1)) (by simp;show a_ l x_);let G:=zd k;simp at G;let J:-(lv m T)=Y.size:=by let:=G.length_eq;simpa using this
 let O:(((lv m T%(·.2)).toArray).filterMap (Y[·]?)).size=Y.size:=by let:=(G.filterMap (Y[·]?)).length_eq;rw[filterMap_getElem?_range]at this;rw[<-vd,Array.toList_filterMap,this];simp
 show({ mask:=m,place:=(lv m T%(·.1)).toArray,dummies:=#[],finger:=E,led:=L,moves:=S,plain:=R },(lv m T%(·.2)).toArray,?_,rfl,?_,?_,?_,rfl,rfl,rfl,G)
 .unfold laid;rw[e];rfl
 .let N:∀x∈lv m T%(·.2),(Y[x]?).isSome=true:=λx hx=>by
   let:=jg<*(G.mem_iff<*hx)
   simp;show this
  let get:∀q:Nat,(((lv m T%(·.2)).toArray).filterMap (Y[·]?))[q]?=(lv m T)[q]?*>λa=>Y[a.2]?:=λq=>by rw[<-p7,Array.toList_filterMap,pV N,ie];cases(lv m T)[q]?<;>rfl
  let Rt:∀q j:Nat,((lv m T%(·.1)).toArray)[q]?\j↔∃i,(lv m T)[q]?\(j,i):=λq j=>by
   erw[List.getElem?_toArray,ie,dg];constructor
   .rintro⟨a,h,rfl⟩;show(a.2,h)
   .rintro⟨i,h⟩;show(_,h,rfl)
  show(Q,rfl,?_,?_,?_,?_,?_)
  .change((lv m T%(·.1)).toArray).size=_
   rw[O];simp[J]
  .intro i j a b D A lt
   let(i1,B):=Rt i a<*D;let(i2,W):=Rt j b<*A;let(F,g1):=ak<*B;let(V,I):=ak<*W;let:=List.pairwise_iff_getElem.mp (pU m T) i j F V lt;rw[g1,I]at this;show this
  .intro i j e
   let(i1,B):=Rt i j<*e;let:=Vp k<*(az B);let:=(lg<*this).1;rw[k.aU]at this;change j<=m
   show z_ this
  .change((lv m T%(·.1)).toArray).size<=m
   simp[J];show l
  .intro q j e' H C
   let(i,B):=Rt q j<*H;rw[get,B]at C;let C:Y[i]?\e':=C;let(X,n,a,b,c):=k.at' i e'.1 (by simp[C]);let K:=k.inj j X i (Vp k<*(az B)) a;subst K;show{1,n,b,λw lw=>?_};let(M,P):=c w lw;let(z,U):=xm<*((Vp k).mpr P);show{1,z,(Rt z _).mpr {1,M,U}}
 .rw[Array.toList_filterMap]
  let:=G.filterMap (Y[·]?);rw[filterMap_getElem?_range]at this;show this
 .exact O
def pX:∀n,n<32->af (sizeAbove (grown n)-1)/\n<=sizeAbove (grown n)-1/\n+1<=sizeAbove (grown n)-1/\¬(n*5 >= (sizeAbove (grown n)-1)*3)/\sizeAbove (grown n)<=128:=by unfold af;decide+kernel
def zh:∀n,n<64->af (sizeAbove (n*2)-1)/\n<=sizeAbove (n*2)-1/\¬(n*5 >= (sizeAbove (n*2)-1)*3)/\sizeAbove (n*2)<=128:=by unfold af;decide+kernel
section
variable{prog:Program}{w:World}{K:Type}[DecidableEq K]{knd:KeyKind prog w K}{A:Around}{E:Y1}{s:Shared}
def zi(n:Nat)(h:carriedByValue v=true):ofAClassStatement n v=pure false:=by cases v<;>first|(simp[carriedByValue]at h;done)|(unfold ofAClassStatement;rfl)
def pY(O:IsTupleKey knd s.1 Z a)(h:Q false s):'p' (ofAClassStatement 8 ↥a) Q E s:=by
 let N:=O.typeIs;let(o,T,n,R,_,L,P):=O;unfold ofAClassStatement;show aa (ux N ?_);change 'A' (if("tuple"=="tuple")=true then _ else _) _ _ s;rw[dm ⋯];show aa (aj ?_);erw[uv,dq,jt];show aa (wj R L ?_);show aa ?_;change 'A' (forIn T _ _) _ _ s;rw[<-Cw];show ou _ (λY r J=>r.1=()/\J=s/\∀v∈Y,carriedByValue v=true) _ ?_ ?_ _ _ (rfl,rfl,P.byValue)
 .rintro v Y r J ⟨G,rfl,C⟩
  rw[zi _ (C v dw)];show aa (aj ?_);erw[dq,jt];show aj (rfl,rfl,λu B=>C u (bw _ B))
 .rintro⟨S,H⟩ J ⟨G,rfl,_⟩
  simp only at G;subst G;show aj h
def zo(B:IsTupleKey knd s.1 Z a)(P:∀v∈st,∃Z b,v=↥b/\IsTupleKey knd s.1 Z b)(h:Q false s) :
 'p' (searchCouldBeSeen ↥a st) Q E s:=by
 unfold searchCouldBeSeen;show aa ?_;show ou _ (λY r G=>r.1=()/\G=s/\∀v∈Y,∃Z b,v=↥b/\IsTupleKey knd s.1 Z b) _ ?_ ?_ _ _ (rfl,rfl,P)
 .rintro v Y r G ⟨J,rfl,O⟩
  let(L,b,rfl,C):=O v dw;let T:∀v∈Y,∃Z b,v=↥b/\IsTupleKey knd G.1 Z b:=λv N=>O v (bw _ N)
  dsimp only;split
  .exact aj (rfl,rfl,T)
  .refine aa (wpAny_eqIsQuiet_tuple B ?_)
   erw[uv,dq,jt];show aa (wpAny_eqIsQuiet_tuple C ?_);erw[uv,dq,jt];show aa (pY B ?_);erw[dq,jt];show aa (pY C ?_);erw[dq,jt];show aj (rfl,rfl,T)
 .rintro⟨R,S⟩ G ⟨J,rfl,_⟩
  simp only at J;subst J;show aj h
def YZ(knd:KeyKind prog w K)(x:List K×Addr):Int×Value:=(tupleKeyHash knd x.1,↥x.2)
def kr{Y:Array (Int×Value)}{T:List (List K×Addr)}(G:Y.toList=T%(YZ knd))(j:Nat):Y[j]?=T[j]?%(YZ knd):=by rw[<-p7,G,ie]
def zp{B:List (List K×Addr)}(hu:A.units<cLine)(hk:IsTupleKey knd s.1 k p)(ho:s.1^a\o)(hd:o.data=.set Z ep t)(T:aT t Z)(I:Z.toList=B%(YZ knd))(hx:∀x∈B,IsTupleKey knd s.1 x.1 x.2)(hn:(B%(·.1)).Nodup)(F:de t (tupleKeyHash knd k) N)(qk:∀(i:Nat) x,B[i]?\x->x.1=k->Q (.there (if adding then () else ↑i)) s)(qv:(∀x∈B,x.1≠k)->Q (.free (P t.mask (tupleKeyHash knd k) N).j false) s) :
 ∀(Y n:Nat)(st:Option Probe),n<=N->N-n<Y->st.getD (t.probeStart (tupleKeyHash knd k))=P t.mask (tupleKeyHash knd k) n ->
  (∀m,m<n->∀(i:Nat) x,t.place[i]?\(P t.mask (tupleKeyHash knd k) m).j->B[i]?\x->x.1≠k) ->
  'p' (setSearchFrom a ↥p (tupleKeyHash knd k) adding Y st) Q E s:=by
 intro Y
 induction Y with
 |zero=>intro n st _ l;omega
 |succ Y ih =>
  intro n st q4 l q3 D;unfold setSearchFrom;show aa (mq ho hd T.fits ?_);dsimp only;rw[T.way,q3];erw[dq,jt];let q6:=pS T F (λi=>(Z[i]?.map (·.1)).getD 0) (10*turns t.mask) n q4 (by let:=F.lt;show c_ C_ this);generalize C:t.probe _ (tupleKeyHash knd k) (P t.mask (tupleKeyHash knd k) n)=pr;let C:t.probe (λi=>(Z[i]?.map (·.1)).getD 0) (tupleKeyHash knd k) (P t.mask (tupleKeyHash knd k) n)=pr:=C;let dD:∀(i j:Nat),t.place[i]?\j->∃x,B[i]?\x/\Z[i]?\(YZ knd x):=λi j e=>by
   let li:i<Z.size:=by rw[<-T.aU];show(lg<*e).1
   let lx:i< -B:=by let:=rm List.length I;simp at this;show b_ li (f_ this)
   show{1,B[i],by simp[lx],?_};rw[kr I];simp[lx]
  rcases q6 with⟨e,q1⟩|⟨m,i,h1,h2,h3,h4,h5,e⟩
  .let e:pr=_:=C.symm>>e
   subst e;dsimp only;show aj (qv λx q2 G=>?_);let(i,hi):=xm<*q2;let J:Z[i]?\(YZ knd x):=by rw[kr I,hi];rfl
   let(m,lm,hp):=T.ahead F J (by unfold YZ;rw[G])
   by_cases M:m<n
   .exact D m M i x hp hi G
   .refine q1 m (s_ M) lm i hp ?_
    rw[J];change tupleKeyHash knd x.1=_;rw[G]
  .let e:pr=_:=C.symm>>e
   subst e;dsimp only;let(x,H,J):=dD i _ h3;let q0:=hx x (az H);let V:∀{R:Bool->Shared->Prop},R false s->'p' (searchCouldBeSeen ↥p ((Z.filter (·.1==tupleKeyHash knd k)).toList%(·.2))) R E s:=λhR=>zo hk (λv hv=>by
    let(y,hy,rfl):=bu<*hv;let W:y∈Z.toList:=by simp at hy;simpa using hy.1
    rw[I]at W;let(z,hz,rfl):=bu<*W;show{2,z.1,z.2,rfl,hx z hz}) hR
   rcases Bool.eq_false_or_eq_true t.led with pZ|pZ
   all_goals
    erw[pZ,uv,Bl,dq,jt,my]
    first
    |(rw[J];change 'A' (holding [↥x.2] (eqBool ↥x.2 ↥p)>>=_) _ _ _)
    |(show aa (V ?_);erw[dq,jt];rw[J];change 'A' (holding [↥x.2] (eqBool ↥x.2 ↥p)>>=_) _ _ _)
    show aa (je (wpAny_eqBool_tuple hu q0 hk ?_));show aa (mq ho hd T.fits ?_);dsimp only;let q5:t.sameMemory t.moves t.mask\true:=by unfold sameMemory;simp
    rw[q5];dsimp only;rw[dm rfl,(X4 T.Ui).mpr h3];dsimp only;rw[J]
    by_cases G:x.1=k
    .let L:decide (x.1=k)=true:=by simp[G]
     rw[L];let hq:=qk i x H G;cases adding
     .erw[Bool.false_and,dq,jt]
      show aa (wpAny_isSame_ref_self ?_);show aa (aj ?_);simpa using aj hq
     .erw[Bool.and_self,my]
      show aj hq
    .let L:decide (x.1=k)=false:=by simp[G]
     rw[L];erw[Bool.and_false,dq,jt];show aa (wpAny_isSame_ref_self ?_);show aa (aj ?_);erw[my];show ih (m+1) _ h2 'a' rfl λU q8 X x' S O=>?_
     by_cases hc:U<n
     .exact D U hc X x' S O
     .by_cases hm:U=m
      .subst hm
       let ei:X=i:=by rw[<-_b T.Ui S,<-_b T.Ui h3]
       subst ei;rw[H]at O;cases O;show G
      .intro qq
       let q7:Z[X]?\(YZ knd x'):=by rw[kr I,O];rfl
       show h5 U (s_ hc) 'a' X S ?_;rw[q7];change tupleKeyHash knd x'.1=_;rw[qq]
end
section
variable{prog:Program}{w:World}{K:Type}[DecidableEq K]{knd:KeyKind prog w K}{pk:List K×Addr->Prop}{A:Around}{E:Y1}{s:Shared}
abbrev bt(w:World):Bool:=w.params.followText "set-order"
def iL(h:Q (bt w) s):'p' setsByText Q E s:=by unfold setsByText;show aa (wpAny_askSetting (aj h))
def X6(knd:KeyKind prog w K)(pk:List K×Addr->Prop):Prop:=∀x,pk x->∀k∈x.1,∀v n,knd.is k v=true->hashByValue n v=pure true
def zt{G:List K}{J:Zl}(h:ItemsAre knd G J)(T:∀k∈G,∀v n,knd.is k v=true->hashByValue n v=pure true):∀v∈J,∀n,hashByValue n v=pure true:=by
 induction h with
 |nil=>simp
 |cons h t O =>
  intro v Y;rcases dj<*Y with rfl|Y
  .exact λn=>T _ dw _ n h
  .exact O (λk B=>T k (bw _ B)) v Y
def AA(B:X6 knd pk)(C:IsTupleKey knd s.1 Z a)(R:pk (Z,a))(h:Q true s):'p' (hashByValue 8 ↥a) Q E s:=by
 let L:=C.typeIs;let(o,T,n,H,_,P,S):=C;unfold hashByValue;show aa (wpAny_specialOf L F.slot_tuple_hash.lookup ?_);dsimp only;show aa (wj H P ?_);show aa ?_;change 'A' (forIn T _ _) _ _ s;rw[<-Cw];show ou _ (λY r J=>r.1=()/\J=s/\∀v∈Y,∀n,hashByValue n v=pure true) _ ?_ ?_ _ _ (rfl,rfl,zt S (B _ R))
 .rintro v Y r J ⟨G,rfl,N⟩
  rw[N v dw];show aa (aj ?_);erw[uv,dq,jt];show aj (rfl,rfl,λu O=>N u (bw _ O))
 .rintro⟨V,W⟩ J ⟨G,rfl,_⟩
  simp only at G;subst G;show aj h
structure X7(knd:KeyKind prog w K)(pk:List K×Addr->Prop)(h:Heap)(a:Addr)(xs:List (List K×Addr))(o:Obj)(es:Array (Int×Value))(ep:Nat)(t:SetTable):Prop where
 get:h^a\o
 bP:o.ExactSet
 ZR:o.data=.set es ep t
 YF:aT t es
 YZ:es.toList=xs%(YZ knd)
 ZK:∀x∈xs,IsTupleKey knd h x.1 x.2/\pk x
 bG:(xs%(·.1)).Nodup
 led:t.led=!bt w
 bQ:t.plain=true
def Gy(knd:KeyKind prog w K)(pk:List K×Addr->Prop)(h:Heap)(a:Addr)(S:List K->Prop)(n:Nat):Prop:=∃Y o T G t,X7 knd pk h a Y o T G t/\(∀k,S k↔k∈Y%(·.1))/\-Y=n/\t.place.size*5<t.mask*3
theorem X7.size(X:X7 knd pk h a U o Z ep t):Z.size=-U:=by let:=rm List.length X.YZ;simpa using this
def p_(p:Addr)(Y:Array (Int×Value)):byScan ↥p Y=false:=by unfold byScan;simp[Value.scannable]
def AB(h:af m):10*turns m<100000:=by rcases h with rfl|rfl|rfl|rfl|rfl<;>decide
def pf(J:A.units<cLine)(G:IsTupleKey knd s.1 k p)(X:X7 knd pk s.1 a Z o es U t)(F:de t (tupleKeyHash knd k) N)(T:∀(i:Nat) x,Z[i]?\x->x.1=k->Q (.there (if adding then () else ↑i)) s)(Y:(∀x∈Z,x.1≠k)->Q (.free (P t.mask (tupleKeyHash knd k) N).j false) s) :
 'p' (setSearch a ↥p (tupleKeyHash knd k) adding) Q E s:=by
 unfold setSearch;show zp J G X.get X.ZR X.YF X.YZ (λx B=>(X.ZK x B).1) X.bG F T Y 100000 0 () (iw _) (by let:=F.lt;let:=AB X.YF.et;lia) (pH _ _) (λm l=>'a')
def AD(C:A.units<cLine)(J:IsTupleKey knd s.1 k p)(L:Gy knd pk s.1 a S n)(h:∀r:Option Nat,(r.isSome=true↔S k)->Q r s):'p' (setFind a ↥p (tupleKeyHash knd k)) Q E s:=by
 let(H,o,R,P,t,X,G,_,_):=L;let(N,F):=X.YF.fst (tupleKeyHash knd k);unfold setFind setFindIn;show aa (mq X.get X.ZR X.YF.fits ?_);dsimp only;rw[p_];erw[dq,jt];show aa (pf C J X F (λi x O T=>?_) (λY=>?_))
 .erw[dq,jt]
  show aj (h _ (by simp;show(G k).mpr (bu.mpr (x,az O,T))))
 .dsimp only
  show aj (h _ ?_);erw[Option.isSome_none,dq,false_iff];intro B;let(x,T,e):=bu<*(G k<*B);show Y x T e
end
def Hh{J C:Type}{f:J->C}:∀{l G:List C},l.Perm G->∀{xs:List J},G=xs%f->∃Z:List J,l=Z%f/\Z.Perm xs:=by
 intro l G p
 induction p with
 |nil=>intro xs e;cases xs with
  |nil=>show([],rfl,.nil)|cons _ _=>cases e
 |cons a p E =>
  intro xs e;cases xs with
  |nil=>cases e
  |cons x xs =>
   erw[gm,Ej]at e;let(Z,Y,O):=E e.2;show(x::Z,by simp[Y,e.1],O.cons x)
 |swap a b l =>
  intro xs e
  match xs,e with
  |x::y::xs,e =>
   erw[gm,Ej]at e;let(rfl,rfl,rfl):=e;show(y::x::xs,rfl,.swap x y xs)
 |trans p q B T =>
  intro xs e;let(R,Y,O):=T e;let(L,P,N):=B Y;show(L,P,N>>O)
section
variable{prog:Program}{w:World}{K:Type}[DecidableEq K]{knd:KeyKind prog w K}{pk:List K×Addr->Prop}{A:Around}{E:Y1}{s:Shared}
def ku(x:IsTupleKey knd h U p)(P:h^a\o)(O:o.data=.set es ep t)(C:Heap.SameBut a h Z):IsTupleKey knd Z U p:=by
 let(J,T,n,G,N,Y,L):=x;let B:p≠a:=by rintro rfl;obtain rfl:J=o:=j6 (G.symm>>P);rw[O]at Y;show nomatch Y
 show{3,J,T,n,C.2 p B>>G,N,Y,L}
def newX(X:X7 knd pk h a xs o es ep t)(O:aT t' Z)(J:Z.toList=U%(YZ knd))(Y:∀x∈U,IsTupleKey knd h x.1 x.2/\pk x)(B:(U%(·.1)).Nodup)(C:t'.led=!bt w)(G:t'.plain=true) :
 X7 knd pk (h.update a (Obj.putSet Z t')) a U { o with data:=.set Z (ep+1) t' } Z (ep+1) t':=by
 let N:(h.update a (Obj.putSet Z t'))^a=some { o with data:=.set Z (ep+1) t' }:=by let:=qy (Obj.putSet Z t') X.get (by rw[putSet_of Z t' X.ZR];rfl);rw[putSet_of Z t' X.ZR]at this;show this
 show(N,X.bP,rfl,O,J,λx T=>(ku (Y x T).1 X.get X.ZR (kh h a _),(Y x T).2),B,C,G)
def Oj(h:n<=128):n<=sizeLine:=by rw[vo];show a_ h ⋯
def pj(X:X7 knd pk s.1 a xs o Z ep t)(V:af (sizeAbove wanted-1))(B:Z.size<=sizeAbove wanted-1)(O:sizeAbove wanted<=128)(h:∀h' U o' qk qq t',Heap.SameBut a s.1 h'->X7 knd pk h' a U o' qk qq t'->U.Perm xs->t'.mask=sizeAbove wanted-1->t'.place.size=Z.size->Q Unit.unit (s<&>h')) :
 'p' (setRelay a wanted) Q E s:=by
 let(t',Y,e,C,J,p,sz,S,N,_):=pW V t.finger (t.movedTo (sizeAbove wanted-1)) t.led t.plain Z B;unfold setRelay;show aa (mq X.get X.ZR X.YF.fits ?_);dsimp only;rw[cz (by let:=Oj O;show j_ this)];let H:t.relaid (Z%(·.1)) wanted\(t',Y):=e;rw[H];show aa ?_;let T:'p' (if((Y.filterMap (Z[·]?)).size != Z.size)=true then(do unsupported "internal:set-table-lost-an-element";pure (Prod.mk (Y.filterMap (Z[·]?)) t'))else pure (Prod.mk (Y.filterMap (Z[·]?)) t'))
  (λr L=>'p' (storeSet a r.1 r.2) Q E L) E s:=by
  rw[cz (by simp[sz])];show aj ?_;let(U,R,G):=Hh p X.YZ;let P:=newX X J R (λx W=>X.ZK x (G.mem_iff<*W)) ((G%_).nodup_iff.mpr X.bG) (S>>X.led) (N>>X.bQ);show wpAny_storeSet_of X.get X.ZR (h _ _ _ _ _ _ (kh s.1 a _) P G C (by rw[J.aU,sz])) (Oj (by rw[sz];show a_ B (a_ C_ O)))
 show T
def iM(H:X6 knd pk)(hu:A.units<cLine)(M:IsTupleKey knd s.1 k p)(d:pk (k,p))(hS:Gy knd pk s.1 a S n)(hn:n+1<32)(h:∀U n' b,Heap.SameBut a s.1 U->Gy knd pk U a (λZ=>S Z\/Z=k) n'->n'<=n+1->Q b (s<&>U)) :
 'p' (setAddHashed a ↥p (tupleKeyHash knd k)) Q E s:=by
 let(W,o,O,ep,t,X,u,R,nf):=hS;let(N,F):=X.YF.fst (tupleKeyHash knd k);let L:=X.size;unfold setAddHashed setAddHashedIn;show je (aa (mq X.get X.ZR X.YF.fits ?_));dsimp only;rw[p_];erw[dq,jt];show aa (pf hu M X F (λi x hi G=>?_) (λI=>?_))
 .dsimp only
  show aj ?_;let g:S k:=(u k).mpr (bu.mpr (x,az hi,G));let:=h s.1 n false (Heap.SameBut.refl a s.1) (W,o,O,ep,t,X,λZ=>by
   rw[<-u Z];show(λh=>h.elim id (λe=>e▸g),.inl),R,nf) x_
  show this
 .dsimp only
  show aa (mq X.get X.ZR X.YF.fits ?_);dsimp only;let ZJ:t.place.size+1<=t.mask:=by let:=X.YF.et;rcases this with e|e|e|e|e<;>lia
  let V:=X.YF.put (x:=↥p) F ZJ;let Kv:(t.put (P t.mask (tupleKeyHash knd k) N).j).1.plain=true:=X.bQ;rw[Kv];erw[my];show aa (AA H M d ?_);erw[my];let(T,ex,z):=Hh (f:=YZ knd) (insertAt_perm O (t.put (P t.mask (tupleKeyHash knd k) N).j).2 (tupleKeyHash knd k,↥p)) (xs:=W++[(k,p)]) (by rw[Dl,X.YZ,jc];rfl);let pm:=z%(·.1);let y:(T%(·.1)).Nodup:=pm.nodup_iff.mpr (by
   rw[jc,Bg];show(X.bG,'b',λa ha b hb=>?_);simp at hb;subst hb;rintro rfl;let(x,G,e):=bu<*ha;show I x G e)
  let q:∀x∈T,IsTupleKey knd s.1 x.1 x.2/\pk x:=λx G=>by
   rcases dz<*(z.mem_iff<*G)with G|G
   .exact X.ZK x G
   .simp at G;subst G;show(M,d)
  let r:=newX X V ex q y X.led X.bQ;let v:∀Z,(S Z\/Z=k)↔Z∈T%(·.1):=λZ=>by rw[pm.mem_iff,jc,dz,u Z];simp
  let B:-T=n+1:=by rw[z.length_eq];simp[R]
  let J:(insertAt O (t.put (P t.mask (tupleKeyHash knd k) N).j).2 (tupleKeyHash knd k,↥p)).size=O.size+1:=Rr _ _ _;show aa (wpAny_storeSet_of X.get X.ZR ?_ (Oj (by rw[J];show e_ (c_ (v_ (f_ L)) (c_ (v_ (f_ R)) (b_ hn ⋯))))));let C:(t.put (P t.mask (tupleKeyHash knd k) N).j).1.place.size=O.size+1:=by rw[V.aU,J]
  by_cases Y:(t.put (P t.mask (tupleKeyHash knd k) N).j).1.tooFull=true
  .rw[Y]
   erw[Bl,Bool.and_self,my];let(g1,g2,g3,g4,g5):=pX (O.size+1) (c_ (v_ (f_ L)) (c_ (v_ (f_ R)) hn));show aa (pj r g1 (by rw[J];show g2) g5 λU c o2 D l t2 sb X2 m em ps=>?_);show aj (h U (n+1) true (kh s.1 a _>>sb) {5,c,o2,D,l,t2,X2,λZ=>?_,by rw[m.length_eq,B],?_} (bz _))
   .exact(v Z)>>(m%(·.1)).mem_iff.symm
   .rw[ps,em,J];show t_ g4
  .rw[Bool.not_eq_true]at Y
   rw[Y];erw[Bool.and_false,dq,jt];show aj (h _ (n+1) true (kh s.1 a _) {5,T,_,_,_,_,r,v,B,?_} (bz _));unfold tooFull at Y;let hf:(t.put (P t.mask (tupleKeyHash knd k) N).j).1.fill=O.size+1:=by unfold fill;rw[C,V.gA];rfl
   rw[hf]at Y;rw[C];simp at Y;show Y
end
open PySem
def upto(J:Nat->β->Shared->Prop)(turn:∀i b z,i<n->J i b z->wpAny M A (f i b) (λr U=>match r with|.yield Z=>J (i+1) Z U|.done Z=>Q Z U) E z)(fin:∀b z,J n b z->Q b z)(ZM:J 0 b s) :
 wpAny M A (forIn [:n] b f) Q E s:=by
 let go:∀(k i:Nat)(b:β)(z:Shared),n=i+k->J i b z->wpAny M A (forIn (List.range' i k) b f) Q E z:=by
  intro k
  induction k with
  |zero=>intro i b z e T;subst e;show aj (fin b z T)
  |succ k G =>
   intro i b z e T;change wpAny M A (forIn (i::List.range' (i+1) k) b f) Q E z;rw[List.forIn_cons];show aa (mj (turn i b z 'a' T) (λr U Y=>?_) λ_ _ x=>x)
   match r,Y with
   |.done Z,Y=>show aj Y|.yield Z,Y=>show G (i+1) Z U 'a' Y
 let e:(forIn [:n] b f:Sem β)=forIn (List.range' 0 n) b f:=by rw[yx];simp[Std.Legacy.Range.size]
 rw[e];show go n 0 b s 'a' ZM
def sub_dict_set:isSubtype (.type "dict") (.type "set")=pure false:=by rw[yf];kernel_rfl
def sub_dict_frozenset:isSubtype (.type "dict") (.type "frozenset")=pure false:=by rw[yf];kernel_rfl
section
variable{prog:Program}{w:World}{K:Type}[DecidableEq K]{knd:KeyKind prog w K}{pk:List K×Addr->Prop}{A:Around}{E:Y1}{s:Shared}
def Ka(Y:s.TypeIs v T)(G:isSubtype (.type T) (.type "set")=pure false)(J:isSubtype (.type T) (.type "frozenset")=pure false)(h:Q false s) :
 'p' (Builtin.Frozenset.isAnySet v) Q E s:=by
 unfold Builtin.Frozenset.isAnySet;show aa (o4 Y G ?_);show o4 Y J h
def AE(Y:s.TypeIs v "set")(h:Q true s):'p' (Builtin.Frozenset.isAnySet v) Q E s:=by unfold Builtin.Frozenset.isAnySet;show aa (o4 Y sub_set_self ?_);show aj h
def Dq(w:World):Obj:={ cls:=.type "set",dict:=(),data:=.set #[] 0 (.fresh 0 0 (!bt w)) }
def AF(Y:h^a\(Dq w)):Gy knd pk h a (λ_=>False) 0:=
 ([],Dq w,#[],0,_,(Y,(rfl,rfl,rfl),rfl,(.inl rfl,rfl,rfl,λi j a b e=>by simp[SetTable.fresh]at e,λi j e=>by simp[SetTable.fresh]at e,by simp[SetTable.fresh],λi j e a=>by simp[SetTable.fresh]at a),
  rfl,λx T=>by simp at T,Dw,rfl,rfl),λk=>'b',rfl,by simp[SetTable.fresh])
def AG(I:Gy knd pk s.1 a S n)(M:n+m<64)(h:∀Z,Heap.SameBut a s.1 Z->Gy knd pk Z a S n->Q Unit.unit (s<&>Z)):'p' (setRoomFor a m) Q E s:=by
 let(R,o,F,ep,t,X,L,B,nf):=I;let T:=X.size;unfold setRoomFor;show aa (mq X.get X.ZR X.YF.fits ?_);dsimp only;unfold roomFor;let J:=X.YF.aU;split
 .rename_i Y e
  split at e
  .cases e
   let(g1,g2,g3,H):=zh (t.place.size+m) (c_ (v_ (f_ J)) (c_ (v_ (f_ T)) (c_ (v_ (f_ B)) M)));show pj X g1 'a' H λZ C U G O t2 W D N P V=>h Z W {5,C,U,G,O,t2,D,λk'=>?_,by rw[N.length_eq,B],?_}
   .exact(L k')>>(N%(·.1)).mem_iff.symm
   .rw[V,P];lia
  .cases e
 .exact aj (h s.1 (Heap.SameBut.refl _ _) {5,R,o,F,ep,t,X,L,B,nf})
theorem Gy.get(Y:Gy knd pk h a S n):∃o Z U t,h^a\o/\o.ExactSet/\o.data=.set Z U t/\t.fits Z.size=true:=
 let (_,o,Z,U,t,X,_):=Y;{4,o,Z,U,t,X.get,X.bP,X.ZR,X.YF.fits}
def Gy.typeIs(Y:Gy knd pk s.1 a S n):s.TypeIs ↥a "set":=
 let (o,_,_,_,ho,hc,_):=Y.get;(o,ho,hc.1)
def Gy.congr(J:Gy knd pk h a S n)(e:∀k,S k↔Z k):Gy knd pk h a Z n:=
 by let(B,o,G,Y,t,X,T,r):=J;show(B,o,G,Y,t,X,λk=>(e k).symm>>(T k),r)
def AH(F:X6 knd pk){id:String}(hu:A.units<cLine)(hS:Gy knd pk s.1 a S n)(hd:s.1.DictOfH (tupleKind knd) d Z)(X:(d==sysModules)=false)(qq:∀x∈Z,pk (x.1,x.2.1))(hl:n+-Z<31)(h:∀U n',Heap.SameBut a s.1 U->Gy knd pk U a (λk=>S k\/k∈Z%(·.1)) n'->Q Unit.unit (s<&>U)) :
 'p' (Builtin.Frozenset.updateFrom id a ↥d) Q E s:=by
 let hT:=hd.typeIs;let(od,P,q2,G,q7,Y,L,D,q6):=hd;let(o0,q3,q4,t0,C,q8,B,q5):=hS.get;let Zc:d≠a:=by rintro rfl;rw[G]at C;cases C;rw[Y]at B;cases B
 let J:P.size=-Z:=size_of_entries L;unfold Builtin.Frozenset.updateFrom;show aa (Ka hT sub_dict_set sub_dict_frozenset ?_);erw[dq,jt];show aa (ux hT ?_);rw[dm ⋯];show aa (o5 ?_);show aa (m:=Builtin.Frozenset.addrOf ↥d) (aj ?_);rw[cz (by rw[X];decide)];show aa (wpAny_dictEpoch G Y ?_);show aa (v8 G Y ?_);show aa (AG hS 'a' λh1 N q0=>?_);let I:h1^d\od:=N.2 d Zc>>G;show aa (v8 I Y ?_);show aa ?_;show upto (λi _ z=>∃U n',z=(s<&>U)/\Gy knd pk U a (λk=>S k\/k∈Z.take i%(·.1)) n'/\n'<=n+i/\Heap.SameBut a s.1 U) (λi _ z lt O=>?_) (λ_ z O=>?_) {2,h1,n,rfl,q0.congr (λk=>'b'),x_,N}
 .let(U,n',rfl,W,Rj,T):=O
  let R:U^d\od:=T.2 d Zc>>G;show aa (v8 R Y ?_);let V:i< -Z:=b_ lt (f_ J)
  let he:P[i]?\(entryOfKey (tupleKind knd) Z[i]):=by rw[entry_at L];simp[V]
  rw[he];let qv:IsTupleKey knd U Z[i].1 Z[i].2.1:=ku (D _ (j9 V)) C B T;change 'A' (holding [.ref Z[i].2.1] (setAddHashed a (.ref Z[i].2.1) (tupleKeyHash knd Z[i].1))>>=_) _ _ _;show aa (je (iM (s:=(s<&>U)) F hu qv (qq _ (j9 V)) W 'a' λqk M b H q1 zq=>?_));show aa (wpAny_dictEpoch (H.2 d Zc>>R) Y ?_);rw[Ai];show aj {2,qk,M,rfl,q1.congr (λk=>?_),'a',T>>H};rw[List.take_add_one,jc,dz,show Z[i]?=↑Z[i]by simp[V]];simp[or_assoc]
 .let(U,n',rfl,W,Rj,T):=O
  show aj (h U n' T (W.congr λk=>?_));rw[Cv (g_ J)]
end
section
variable{prog:Program}{w:World}{K:Type}[DecidableEq K]{knd:KeyKind prog w K}{pk:List K×Addr->Prop}{A:Around}{E:Y1}{s:Shared}
def AI(Y:R (.ref s⁻¹) (s<&>s.1.push (Dq w))) :
 codeAny (model prog w) A (.call (.builtin "set.__new__") ([.type "set",v],[])) (wants R E) s:=by
 show codeAny_call_builtin F.plain_set_new F.entry_set_new (wpAny_of_eq (F.newCall_set_1 v) ?_);let T:=sub_set_self;unfold Builtin.«set.__new__» Builtin.Frozenset.newClass
 wp_walk
 show wpAny_askSetting (aj (aa (wpAny_alloc (aj (aj Y)))))
set_option maxHeartbeats 3200000 in
def Ms{R:Shared->Prop}(B:wq prog w A.in1.in1 (Builtin.Frozenset.updateFrom "set.__init__" s⁻¹ x) (λ_ Z=>R Z) E (s<&>s.1.push (Dq w)))(h:∀Z,R Z->Q (.ref s⁻¹) Z) :
 'p' (call (.type "set") [x]) Q E s:=by
 let(c,tl,M):=yd.mro;let V:=yd.made;let H:=yd.sub;show wpAny_call (codeAny_of_tree ?_);change 'A' (callAny (.type "set") _) _ _ _;show aj (Code.quiet_builtin _ ∅,su F.entry_type_call ?_);rw[Around.under_plain (weight_type_call_type "set" [x] []) rfl];let U:=yd.notType;let h2:=yd.canCreate;let P:=F.typeCall_set_1 x
 repeat (any_goals (first|assumption|wp_step))
 show zg (AI (v:=x) (E:=E) (R:=λXR T=>XR=.ref s⁻¹/\T=(s<&>s.1.push (Dq w))) (rfl,rfl)) λr T C=>?_
 cases r with
 |error e=>show C
 |ok S =>
  cases S with
  |ret XR =>
   let(rfl,rfl):=C;let N:(s.1.push (Dq w))^s⁻¹\(Dq w):=cu _ rfl;let L:Shared.TypeIs (s<&>s.1.push (Dq w)) (.ref s⁻¹) "set":= {1,_,N,rfl};let X:=yd.init.lookup;let I:=yd.init*>(.ref s⁻¹)
   repeat (any_goals (first|assumption|wp_step))
   show zg (codeAny_call_builtin (R:=wants (λr G=>r=.none/\R G) E) yd.init.plain F.entry_set_init (check_set_init_1 L ?_)) λO G Y=>?_
   .unfold Builtin.«set.__init__» noKeywords
    generalize T1:Builtin.Frozenset.updateFrom=UF at B⊢;unfold Dq at N L B⊢
    wp_walk
    show mj B (λ_ Z C=>aj (rfl,C)) (λe Z W=>W)
   .cases O with
    |error e=>show Y
    |ok J =>
     cases J with
     |ret r =>
      let(rfl,D):=Y
      repeat (any_goals (first|assumption|wp_step))
      show h _ D
     |_=>show Y.elim
  |_=>show C.elim
end
open PyProof.Rows (F.entry_set_update_loop F.plain_set_update_loop)
section
variable{prog:Program}{w:World}{K:Type}[DecidableEq K]{knd:KeyKind prog w K}{pk:List K×Addr->Prop}{A:Around}{E:Y1}{s:Shared}
def Yb{wr:X0}(Y:IsTupleKey knd h U p)(T:p∉wr)(G:∀b o,b∉wr->h^b\o->Z^b\o):IsTupleKey knd Z U p:=
 let (o,items,n,ho,r):=Y;{3,o,items,n,G p o T ho,r}
def Gy._M{wr:X0}(B:Gy knd pk h a S n)(O:a∉wr)(G:∀(b:Addr) (U:List K),b∈wr->¬IsTupleKey knd h U b)(T:∀b o,b∉wr->h^b\o->Z^b\o):Gy knd pk Z a S n:=
 let (xs,o,es,ep,t,X,r):=B
 {5,xs,o,es,ep,t,(T a o O X.get,X.bP,X.ZR,X.YF,X.YZ,λx Y=>(Yb (X.ZK x Y).1 (λJ=>G _ _ J (X.ZK x Y).1) T,(X.ZK x Y).2),X.bG,X.led,X.bQ),r}
def AJ(qk:X6 knd pk){I:Addr}{P:Nat->Value->Prop}(hu:A.in1.units<cLine)(W:WalksS prog w A.in1 I fp wr G n P St)(a:Addr)(F:a∉fp)(Y:List (List K×Addr))(L:-Y=n)(U:∀i v x,P i v->Y[i]?\x->v=↥x.2)(q4:∀x∈Y,pk x)(N:n<31)(q6:∀x∈Y,x.2∉wr)(D:∀i (s:Shared),St i s->∀(b:Addr) (Y:List K),b∈wr->¬IsTupleKey knd s.1 Y b) :
 ∀(k i H:Nat)(s:Shared),n-i=k->i<=n->St i s->(∀x∈Y,IsTupleKey knd s.1 x.1 x.2) ->
  Gy knd pk s.1 a (λk'=>k'∈Y.take i%(·.1)) H->H<=i ->
  (∀Z qv,Moved (a::wr) G s Z->Gy knd pk Z.1 a (λk'=>k'∈Y%(·.1)) qv->R (.ok (.ret .none)) Z) ->
  codeAny (model prog w) A (.builtin "set.update.loop" ([↥a,↥I],[])) R s:=by
 let V:a∉wr:=λh=>F (W.sub _ h)
 let S:∀b∈wr,b∈a::wr:=λb N=>bw _ N
 intro k
 induction k with
 |zero =>
  intro i H s hk hi T Q hS Rj hR;let qq:i=n:='a'
  subst qq;show su wy ?_;rw[o8 qm _];change wpAny _ A.in1 (pyNext ↥I>>=_) _ _ s;show aa (W.done s _ _ T λZ C=>?_);change wpAny _ A.in1 (ret Value.none) _ _ Z;show aj (hR Z H (C.mono S) ((hS._M V (D _ s T) C.1).congr λk=>?_));rw[Cv (f_ L)]
 |succ k ih =>
  intro i H s hk hi T Q hS Rj hR;let Ib:i<n:='a'
  show su wy ?_;rw[o8 qm _];change wpAny _ A.in1 (pyNext ↥I>>=_) _ _ s;show aa (W.item i s _ _ Ib T λv Z hP q8 C=>?_);let lx:i< -Y:=b_ Ib (g_ L)
  let M:Y[i]?=↑Y[i]:=by simp[lx]
  obtain rfl:=U i v _ hP M;let J:=j9 lx;let X8:=hS._M V (D _ s T) C.1;let O:∀x∈Y,IsTupleKey knd Z.1 x.1 x.2:=λx X=>Yb (Q x X) (q6 x X) C.1
  change wpAny _ A.in1 (holding [Value.ref Y[i].2] (setAdd a (.ref Y[i].2))>>=_) _ _ Z;show aa (je ?_);unfold setAdd;show je ?_;show aa (wpAny_pyHash_tuple hu (O _ J) ?_);show iM (s:={ Z with toks:=Z.toks+(Y[i].1.length+1) }) qk hu (O _ J) (q4 _ J) X8 'a' λh' n2 b B q5 q1=>?_
  let(oa,zu,zk,ta,q0,zj,q2,zz):=X8.get;show aj (plainId_quiet qm _,ih (i+1) n2 _ 'a' Ib (W.frame _ Z _ _ q8 (Ao _ _) λb N o e=>?_) (λx X=>ku (O x X) q0 q2 B) (q5.congr λk=>?_) (a_ q1 (v_ Rj)) λq3 n3 q7 zq=>?_)
  .rw[B.2 b (λh:b=a=>F (by rw[<-h];show N))];show e
  .rw[List.take_add_one,jc,dz,M];simp
  .refine hR q3 n3 (Moved.trans W.gtrans ((C.mono S).then_heap (Ao _ _) λb o N e=>?_) q7) zq
   rw[B.2 b (λh:b=a=>N (by rw[h];show dw))];show e
def AK(W:X6 knd pk){id:String}{ks:List (List K×Addr)}(hh:A.handled=())(hu:A.in1.units+1<cLine)(hS:Gy knd pk s.1 a (λ_=>False) 0)(C:s.1.IsList l items)(P:items.toList=ks%λx=>↥x.2)(N:∀x∈ks,IsTupleKey knd s.1 x.1 x.2)(U:∀x∈ks,pk x)(R:-ks<31)(h:∀Z tk n',(∀b o,b≠a->s.1^b\o->Z^b\o)->Gy knd pk Z a (λk=>k∈ks%(·.1)) n'->Q Unit.unit { s with heap:=Z,toks:=tk }) :
 'p' (Builtin.Frozenset.updateFrom id a ↥l) Q E s:=by
 let hT:s.TypeIs ↥l "list":= let (o,Y,G,_):=C;(o,Y,G);let J:items.size=-ks:=by rw[<-vd,P];simp
 let(oa,q3,q4,ta,T,q2,O,q1):=hS.get;unfold Builtin.Frozenset.updateFrom;show aa (Ka hT F.sub_list_set F.sub_list_frozenset ?_);erw[dq,jt];show aa (ux hT ?_);rw[cz ⋯];show aa (Ah C ?_);show aa (wpAny_runValue ?_);let Ib:l<s⁻¹:=let (o,Y,_):=C;cj Y
 let q0:a<s⁻¹:=cj T
 let I:l≠a:=by rintro rfl;let(o,Y,_,n,hd):=C;rw[Y]at T;cases T;rw[hd]at O;cases O
 let D:l≠s⁻¹:=gq Ib;let qq:a∉[s⁻¹,l]:=by erw[dj,u9,Dp,not_or];show(gq q0,λe=>I e.symm)
 let keep:∀b o,s.1^b\o->(s.1.push { cls:=.type "list_iterator",data:=.fields #[↥l,.int 0 0] })^b\o:=λb o e=>aq _ e
 show AJ W 'a' ((Walks.list (by simp[hh]) _ l D items).toS) a qq ks J.symm (λi v x hv S=>?_) U (c_ (f_ J) R) (λx S G=>?_) (λi s' st b kk H qk=>?_) items.size 0 0 _ rfl (iw _)
  ({1,_,cu _ rfl,rfl,rfl},C.push _) (λx S=>Yb (wr:=[]) (N x S) 'b' λb o _ e=>keep b o e) ?_ (bz _) ?_
 .let:items.toList[i]?\v:='s' hv
  rw[P,ie,S]at this;show(j6 this).symm
 .simp at G
  let(o,_,_,Y,_):=N x S;let:=cj Y;rw[G]at this;show ph _ this
 .simp at H
  subst H;let(o,_,_,Y,G,_):=qk;let((o',B,L,_),_):=st;rw[Y]at B;cases B;rw[G]at L;show absurd L ⋯
 .refine(hS._M (wr:=[]) 'b' 'b' λb o _ e=>keep b o e).congr λk=>'b'
 .intro s' M V X8
  let(Z,g',d',qv,X):=s';let eg:g'=s.gens:=V.gens;let ed:d'=s.drawn:=V.drawn;let eo:X=s.os:=V.os;subst eg;subst ed;subst eo;change 'A' _ _ _ _;show aj (h Z qv M (λb o H e=>?_) X8);show V.1 b o ?_ (keep b o e);erw[dj,u9,Dp,not_or];show(H,gq (cj e))
end
theorem pw{Y:Type}:∀{l:List Y}{i:Nat}(h:i< -l),(l[i]::l.eraseIdx i).Perm l
 |x::l,0,_=>Bp _
 |x::l,i+1,h=>by
  let T:=pw (l:=l) (i:=i) ('s' h);erw[List.getElem_cons_succ,List.eraseIdx_cons_succ];show(List.Perm.swap x _ _)>>(T.cons x)
theorem p9{J:Type}(nx:Nat->Nat):∀(T k:Nat)(Y:List J)(W_:Array J),-Y=T->(pickOrder.go nx T k Y W_).toList.Perm (W_.toList++Y)
 |0,k,Y,W_,h=>by
  let:Y=[]:=uq<*h;subst this;unfold pickOrder.go;simp
 |T+1,k,Y,W_,h=>by
  unfold pickOrder.go;let G:HMod.hMod (nx k) (-Y)< -Y:=Nat.mod_lt _ 'a'
  rw[bh G];dsimp only;show(p9 nx T (k+1) _ _ (by rw[List.length_eraseIdx];split<;>lia))>>?_;rw[Dl,yj];show List.Perm.append_left _ ?_;show pw G
def qA(nx:Nat->Nat)(Y:Array α):(pickOrder nx Y).toList.Perm Y.toList:=by unfold pickOrder;simpa using p9 nx Y.size 0 Y.toList #[] 'b'
theorem qB{G:Type}[DecidableEq G]:∀{Y l2:List G},Y.Nodup->Y ⊆ l2->-l2<=-Y->∀x∈l2,x∈Y
 |[],l2,_,_,h,x,hx=>by
  let:l2=[]:=uq<*('s' h);subst this;simp at hx
 |a::Y,l2,hn,hs,h,x,hx=>by
  by_cases e:x=a
  .subst e;show dw
  .refine bw _ ?_
   let B:a∈l2:=hs dw;let J:=vy<*hn;show qB (l2:=l2.erase a) J.2 (λy T=>?_) ?_ x ((List.mem_erase_of_ne e).mpr hx)
   .exact(List.mem_erase_of_ne (λ(e:y=a)=>J.1 (by rw[<-e];show T))).mpr (hs (bw _ T))
   .rw[List.length_erase_of_mem B];simp at h;omega
def AL:entryFor table "set.__ne__"= ↑Builtin.«frozenset.__ne__»:=
 entryFor_alias (id' :="frozenset.__ne__") (by kernel_rfl) rfl ∅ (by kernel_rfl)
def sub_set_frozenset:isSubtype (.type "set") (.type "frozenset")=pure false:=by rw[yf];kernel_rfl
section
variable{prog:Program}{w:World}{K:Type}[DecidableEq K]{knd:KeyKind prog w K}{pk:List K×Addr->Prop}{A:Around}{E:Y1}{s:Shared}
def AM(X:X7 knd pk s.1 a xs o Z U t)(h:∀l,l.toList.Perm Z.toList->Q l s):'p' (setWalk a) Q E s:=by
 unfold setWalk;show aa (mq X.get X.ZR X.YF.fits ?_);dsimp only;show aa (iL ?_);split
 .exact aa (wpAny_askSetting (aj (h _ (qA _ _))))
 .rename_i T
  let T:bt w=false:='s' T
  split
  .rename_i Y
   let Y:(!t.plain&&decide (Z.size > 1))=true:=Y;rw[X.bQ]at Y;cases Y
  .refine aa ?_
   let:'p' (if(!t.led&&decide (Z.size > 1))=true then unsupported "set:maker-not-led" else pure Unit.unit) (λ_ G=>'p' (pure Z) Q E G) E s:=by rw[X.led,T];erw[Bl,uv,Bool.false_and,dq,jt];show aj (aj (h Z (Bp _)))
   show this
def AN(Y:IsTupleKey knd s.1 Z a)(h:Q false s):'p' (Builtin.Frozenset.quietEq ↥a) Q E s:=by
 unfold Builtin.Frozenset.quietEq;show aa (wpAny_specialOf Y.typeIs F.slot_tuple_eq.lookup ?_);show aj ?_;let:(↑(Value.builtin "tuple.__eq__")==↑(Value.builtin "object.__eq__"))=false:=by decide
 rw[this];show h
def kx(X:X7 knd pk h a U o Z ep t)(Y:e∈Z.toList):∃x∈U,e=YZ knd x:=by rw[X.YZ]at Y;let(x,T,rfl):=bu<*Y;show(x,T,rfl)
def AO(X:X7 knd pk s.1 a xs o Z ep t)(Y:X7 knd pk s.1 b ys o' qq U t')(h:∀l:List (Int×Value),l.Perm Z.toList->Q l s):'p' (Builtin.Frozenset.walkUnseen a b) Q E s:=by
 unfold Builtin.Frozenset.walkUnseen;show aa (qj X.get X.ZR X.YF.fits ?_);show aa (qj Y.get Y.ZR Y.YF.fits ?_);show aa ?_;show ou _ (λT r J=>r.1=()/\J=s/\∀e∈T,∃N p,e.2=↥p/\IsTupleKey knd s.1 N p) _ ?_ ?_ _ _ (rfl,rfl,λe G=>?_)
 .rintro e T r J ⟨B,rfl,L⟩
  symm
  let(N,p,O,P):=L e dw;let(V,S):=e;subst O;left;dsimp only;show aa (AN P ?_);erw[Bl,my];unfold Builtin.Frozenset.walk;show aa (aa (AM X λl R=>aj ?_));show aj (aj (h _ R))
 .rintro⟨H,W⟩ J ⟨B,rfl,_⟩
  simp only at B;subst B;show aj (h _ (Bp _))
 .rcases dz.mp G with G|G
  .let(x,C,rfl):=kx X G
   show{2,x.1,x.2,rfl,(X.ZK x C).1}
  .let(x,C,rfl):=kx Y G
   show{2,x.1,x.2,rfl,(Y.ZK x C).1}
def AQ{id:String}(U:A.units<cLine)(hS:Gy knd pk s.1 a S n)(M:Gy knd pk s.1 b T m)(h:∀c:Bool,(c=true↔n<=m/\∀k,S k->T k)->Q c s):'p' (Builtin.Frozenset.subsetOf id a b) Q E s:=by
 symm
 let P:=M;let(V,o,es,ep,t,X,I,hn,_):=hS;let(ys,o',qk,qq,t',Y,D,Rj,_):=M;let h1:=X.size;let h2:=Y.size;left;unfold Builtin.Frozenset.subsetOf Builtin.Frozenset.sizeOf;show aa (aa (qj X.get X.ZR X.YF.fits (aj ?_)));show aa (aa (qj Y.get Y.ZR Y.YF.fits (aj ?_)));split
 .exact aj (h false (by simp;lia))
 .refine aa (wpAny_setEpoch_of X.get X.ZR X.YF.fits ?_)
  show aa (AO X Y λl F=>?_);show aa ?_;show ou _ (λJ r N=>r.1=()/\N=s/\(∀e∈J,∃x∈V,e=YZ knd x)/\∀x∈V,YZ knd x∈J\/T x.1) _ ?_ ?_ _ _ (rfl,rfl,λe L=>kx X (F.mem_iff<*L),λx O=>.inl (F.mem_iff.mpr (by rw[X.YZ];show bu.mpr (x,O,rfl))))
  .rintro e J r N ⟨C,rfl,H,B⟩
   let(x,O,rfl):=H e dw;change 'A' (holding [↥x.2] (setFind b ↥x.2 (tupleKeyHash knd x.1))>>=_) _ _ _;show aa (je (AD U (X.ZK x O).1 P λr C=>?_));cases r with
   |none =>
    erw[Option.isNone_none,my];show aj (aj (h false ?_));erw[dq,false_iff,not_and,Classical.not_forall];intro _;show(x.1,(I x.1).mpr (bu.mpr (x,O,rfl)),λG=>?_);let:=C.mpr G;cases this
   |some i =>
    erw[Option.isNone_some,dq,jt];unfold Builtin.Frozenset.unchanged;show aa (aa (wpAny_setEpoch_of X.get X.ZR X.YF.fits ?_));rw[cz 'b'];show aj (aj (rfl,rfl,λe L=>H e (bw _ L),λy W=>?_));rcases B y W with G|G
    .rcases dj.mp G with G|G
     .right
      let R:T x.1:=C<*rfl;let Z:y.2=x.2:=by let:=rm Prod.snd G;unfold YZ at this;injection this
      let:y.1=x.1:=IsTupleKey.inj (X.ZK y W).1 (by rw[Z];show(X.ZK x O).1);rw[this];show R
     .exact .inl G
    .exact .inr G
  .rintro⟨r1,r2⟩ N ⟨C,rfl,_,B⟩
   simp only at C;subst C;show aj (h true ?_);erw[true_iff];show('a',λk hk=>?_);let(x,O,rfl):=bu<*(I k<*hk);rcases B x O with G|G
   .simp at G
   .exact G
def AR(Z:A.in1.units<cLine)(H:A.units<cLine)(B:Gy knd pk s.1 a S n)(C:Gy knd pk s.1 b T m)(h:∀c:Bool,(c=true↔¬∀k,S k↔T k)->Q (.bool c) s):'p' (compareOp .NotEq ↥a ↥b) Q E s:=by
 change 'A' (richCompare .NotEq ↥a ↥b) _ _ _;show wpAny_richCompare_same_room (op:=.NotEq) B.typeIs C.typeIs F.slot_set_ne (iz F.slot_set_ne B.typeIs AL ?_ (F.args_set_ne_2 _ _)) H;let fin:∀c:Bool,(c=true↔∀k,S k↔T k)->Q (.bool !c) s:=λc I=>h _ (by cases c<;>simp_all)
 symm
 let D:=B;let P:=C;let(U,o,es,ep,t,X,V,W,_):=D;let(ys,o',qk,qq,t',Y,G,R,_):=P;let h1:=X.size;let h2:=Y.size;let same:(∀k,S k↔T k)->n=m:=λe=>by
  let:(U%(·.1)).Perm (ys%(·.1)):=(List.perm_ext_iff_of_nodup X.bG Y.bG).mpr λk=>by rw[<-V k,<-G k];show e k
  let:=this.length_eq;simp at this;show u_ (a_ (g_ W) (a_ (f_ this) (f_ R))) (a_ (g_ R) (a_ (g_ this) (f_ W)))
 let J:n=m->(∀k,S k->T k)->∀k,S k↔T k:=λe M k=>(M k,λN=>(V k).mpr (qB X.bG (λk N=>G k<*(M k ((V k).mpr N))) (by simp;show a_ (f_ R) (a_ (g_ e) (g_ W))) k (G k<*N)))
 left;change 'A' (Builtin.Frozenset.slot1 "__ne__" ([↥a,↥b],[])>>=_) _ _ _;unfold Builtin.Frozenset.slot1 slotArgs;simp only[List.isEmpty_nil,uv,dq,↓reduceIte,bind_assoc,ik,List.length_nil,Ai];show aa (aj ?_)
 try dsimp only
 show aa (aj ?_)
 try dsimp only
 show aa (AE C.typeIs ?_);simp only[uv,dq,↓reduceIte];show aa (m:=Builtin.Frozenset.addrOf ↥a) (aj ?_);show aa (m:=Builtin.Frozenset.addrOf ↥b) (aj ?_);unfold Builtin.Frozenset.sizeOf;show aa (aa (qj X.get X.ZR X.YF.fits (aj ?_)));show aa (aa (qj Y.get Y.ZR Y.YF.fits (aj ?_)));show aa ?_;split
 .rename_i L
  show aj ?_;show aj (_,rfl,(λe=>nomatch e),fin false ?_);erw[dq,false_iff];intro e;let:=same e;simp at L;lia
 .rename_i L
  let O:n=m:=by simp at L;lia
  show aa (aa (o4 B.typeIs sub_set_frozenset ?_));show aj ?_;simp only[dq,↓reduceIte];show AQ Z B C λc I=>?_
  show aj (_,rfl,(λe=>nomatch e),fin c (I>>(λe=>J O e.2,λe=>(f_ O,λk=>(e k).mp))))
end
def qC{prog:Program}{w:World}{A:Around}{Y:Type}{Q:Y->Shared->Prop}{E:Y1}{s:Shared}(T:A.handled=())(q:∀Z x,(∀b o,s.1^b\o->Z^b\o)->(∃o,Z^x\o/\o.cls=.type "StopIteration")->E ↥x (s<&>Z)):'p' (newExc (.type "StopIteration") []>>=raiseNew) Q E s:=by erw[newExc,newTuple];show aa (aa (m8 (aa (m:=firstArgMember _ _) (wpAny_of_eq (a:=Value.none) (by first|rfl|(erw[firstArgMember];rfl)) (m8 ?_ (by size_fits)))) (by size_fits)));erw[raiseNew];show aa (wpAny_handled ?_);rw[T];show aa (aj (wpAny_throw (q _ _ (λb o e=>aq _ (aq _ e)) (_,cu _ rfl,rfl))))
def AS(k:aT t Z)(F:de t h N)(ZJ:t.place.size+1<=t.mask) :
 layNew t Z h x=(insertAt Z (t.put (P t.mask h N).j).2 (h,x),(t.put (P t.mask h N).j).1,false,false):=by
 let e:t.freeSlot h\((P t.mask h N).j,false):=by
  unfold freeSlot probe;rw[pH];rcases pS k F (λ_=>h+1) (10*turns t.mask) 0 (iw _) (by let:=F.lt;show c_ C_ this)with⟨a,_⟩|⟨m,i,_,_,_,c,_⟩
  .rw[a];rfl
  .lia
 let f:=(k.put (x:=x) F ZJ).fits;unfold layNew;rw[e];change Prod.mk (insertAt Z (t.put (P t.mask h N).j).2 (h,x)) (Prod.mk ((t.put (P t.mask h N).j).1.orStandIn (insertAt Z (t.put (P t.mask h N).j).2 (h,x)).size) (Prod.mk false (!(t.put (P t.mask h N).j).1.fits (insertAt Z (t.put (P t.mask h N).j).2 (h,x)).size)))=_;unfold orStandIn;rw[dm f,f];rfl
def AU(C:af (sizeAbove wanted-1))(O:es.size<=sizeAbove wanted-1) :
 ∃Z t',relayAll t es wanted=(Z,t',false)/\t'.mask=sizeAbove wanted-1/\aT t' Z/\Z.toList.Perm es.toList/\t'.led=t.led/\t'.plain=t.plain:=by
 symm
 let(t',Y,e,J,G,p,sz,N,B,_,T):=pW C t.finger (t.movedTo (sizeAbove wanted-1)) t.led t.plain es O;let L:t.relaid (es%(·.1)) wanted\(t',Y):=e;left;show{2,Y.filterMap (es[·]?),t',?_,J,G,p,N,B};unfold relayAll;rw[L];dsimp only;rw[dm];rw[bf];show(by unfold coversAll;show List.isPerm_iff.mpr T,G.fits)
def br(x:Int×Tok):Int×Value:=(hashInt x.1,.int x.1 x.2)
structure Px(w:World)(h:Heap)(a:Addr)(xs:List (Int×Tok))(o:Obj)(es:Array (Int×Value))(ep:Nat)(t:SetTable):Prop where
 get:h^a\o
 bP:o.ExactSet
 ZR:o.data=.set es ep t
 YF:aT t es
 YZ:es.toList=xs%br
 bG:(xs%(·.1)).Nodup
 led:t.led=!bt w
 bQ:t.plain=true
def Es(w:World)(h:Heap)(a:Addr)(S:Int->Prop)(n:Nat):Prop:=∃Y o T G t,Px w h a Y o T G t/\(∀k,S k↔k∈Y%(·.1))/\-Y=n/\t.place.size*5<t.mask*3
theorem Px.size(X:Px w h a U o Z ep t):Z.size=-U:=by let:=rm List.length X.YZ;simpa using this
def Px.elems(X:Px w h a U o Z ep t):ElemsOf (intKind prog w) Z.toList:=λe Y=>by rw[X.YZ]at Y;let(x,_,rfl):=bu<*Y;show((x.1,by simp[br,intKind,Value.isInt],rfl),rfl)
def qD(X:Px w h a xs o es ep t)(J:aT t' Z)(T:Z.toList=U%br)(G:(U%(·.1)).Nodup)(B:t'.led=!bt w)(Y:t'.plain=true) :
 Px w (h.update a (Obj.putSet Z t')) a U { o with data:=.set Z (ep+1) t' } Z (ep+1) t':=by
 let O:(h.update a (Obj.putSet Z t'))^a=some { o with data:=.set Z (ep+1) t' }:=by let:=qy (Obj.putSet Z t') X.get (by rw[putSet_of Z t' X.ZR];rfl);rw[putSet_of Z t' X.ZR]at this;show this
 show(O,X.bP,rfl,J,T,G,B,Y)
theorem Es.get(Y:Es w h a S n):∃o Z U t,h^a\o/\o.ExactSet/\o.data=.set Z U t/\t.fits Z.size=true:=
 let (_,o,Z,U,t,X,_):=Y;{4,o,Z,U,t,X.get,X.bP,X.ZR,X.YF.fits}
theorem k7:∀{a b:X9},a.Nodup->(∀x∈a,x∈b)->-a<=-b
 |[],_,_,_=>iw _
 |x::a,b,h,s=>by
  let(T,G):=vy<*h;let:=k7 (b:=b.erase x) G λy Y=>(List.mem_erase_of_ne (λe:y=x=>T (e▸Y))).mpr (s y (.tail _ Y))
  rw[List.length_erase_of_mem (s x (.head _))]at this;let:=List.length_pos_of_mem (s x (.head _));rw[ik];lia
def Es.le(J:Es w h a S n){B:X9}(G:∀k,S k->k∈B):n<=-B:=by
 symm
 let(C,o,O,N,t,X,T,rfl,_):=J;left;rw[<-dh (f:=(·.1))];show k7 X.bG λk Y=>G k ((T k).mpr Y)
def Es.congr(J:Es w h a S n)(e:∀k,S k↔Z k):Es w h a Z n:=
 by let(B,o,G,Y,t,X,T,r):=J;show(B,o,G,Y,t,X,λk=>(e k).symm>>(T k),r)
def Es._M(T:Es w h a S n)(Y:∀o,h^a\o->Z^a\o):Es w Z a S n:=
 let (xs,o,es,ep,t,X,r):=T
 {5,xs,o,es,ep,t,(Y o X.get,X.bP,X.ZR,X.YF,X.YZ,X.bG,X.led,X.bQ),r}
def qE(Y:h^a\(Dq w)):Es w h a (λ_=>False) 0:=
 ([],Dq w,#[],0,_,(Y,(rfl,rfl,rfl),rfl,(.inl rfl,rfl,rfl,λi j a b e=>by simp[SetTable.fresh]at e,λi j e=>by simp[SetTable.fresh]at e,by simp[SetTable.fresh],λi j e a=>by simp[SetTable.fresh]at a),
  rfl,Dw,rfl,rfl),λk=>'b',rfl,by simp[SetTable.fresh])
def AV(hS:Es w s.1 a S n)(hn:n+1<32)(h:∀h' n' b,Heap.SameBut a s.1 h'->Es w h' a (λZ=>S Z\/Z=k) n'->n'<=n+1->Q b (s<&>h')) :
 'p' (setAddHashed a (.int k U) (hashInt k)) Q E s:=by
 symm
 let(H,o,T,ep,t,X,hm,hl,nf):=hS;let(N,F):=X.YF.fst (hashInt k);let qk:=X.size;let K:=X.elems (prog:=prog);let q3:(intKind prog w).is k (.int k U)=true:=by simp[intKind,Value.isInt]
 left;unfold setAddHashed setAddHashedIn;show je (aa (mq X.get X.ZR X.YF.fits ?_));dsimp only;rw[byScan_of (knd:=intKind prog w) (x:=.int k U) rfl (by unfold scanBound;lia) K];simp only[↓reduceIte];unfold setAddByScan;show aa ?_;show aa (o5 ?_);show aa (wpAny_setScan_of (knd:=intKind prog w) (k:=k) q3 X.get X.ZR X.YF.fits K ?_);cases hr:List.findIdx? (λe=>(intKind prog w).is k e.2) T.toList with
 |some j =>
  dsimp only;let(hj,q4,_):=uz<*hr;let q6:S k:=by
   obtain⟨x,I,D⟩:∃x∈H,br x=T.toList[j]:=by let C:=j9 hj;generalize T.toList[j]=e at C;rw[X.YZ]at C;show bu<*C
   let qv:(intKind prog w).is k (br x).2=true:=by rw[D];show q4
   show(hm k).mpr (bu.mpr (x,I,?_));let:(intKind prog w).is x.1 (br x).2=true:=by simp[br,intKind,Value.isInt]
   show(intKind prog w).inj _ _ _ this qv
  show aj (aj ?_);let:=h s.1 n false (Heap.SameBut.refl a s.1) (H,o,T,ep,t,X,λZ=>by
   rw[<-hm Z];show(λh=>h.elim id (λe=>e▸q6),.inl),hl,nf) x_
  show this
 |none =>
  dsimp only;let q0:∀x∈H,x.1≠k:=λx I e=>by let:=yu.mp hr (br x) (by rw[X.YZ];show bu.mpr (x,I,rfl));subst e;simp[br,intKind,Value.isInt]at this
  let ZJ:t.place.size+1<=t.mask:=by let:=X.YF.et;rcases this with e|e|e|e|e<;>lia
  let T':=X.YF.put (x:=.int k U) F ZJ;rw[AS X.YF F ZJ];let Kv:(t.put (P t.mask (hashInt k) N).j).1.plain=true:=X.bQ;let M:(t.put (P t.mask (hashInt k) N).j).1.led=!bt w:=X.led;let(G,D,px):=Hh (f:=br) (insertAt_perm T (t.put (P t.mask (hashInt k) N).j).2 (hashInt k,.int k U)) (xs:=H++[(k,U)]) (by rw[Dl,X.YZ,jc];rfl);let pm:=px%(·.1);let W:(G%(·.1)).Nodup:=pm.nodup_iff.mpr (by
   rw[jc,Bg];show(X.bG,'b',λa ha b hb=>?_);simp at hb;subst hb;rintro rfl;let(x,I,e):=bu<*ha;show q0 x I e)
  let hX:=qD X T' D W M Kv;let C:∀Z,(S Z\/Z=k)↔Z∈G%(·.1):=λZ=>by rw[pm.mem_iff,jc,dz,hm Z];simp
  let B:-G=n+1:=by rw[px.length_eq];simp[hl]
  let J:(insertAt T (t.put (P t.mask (hashInt k) N).j).2 (hashInt k,Value.int k U)).size=T.size+1:=Rr _ _ _;let R:(t.put (P t.mask (hashInt k) N).j).1.place.size=T.size+1:=by rw[T'.aU,J]
  let hf:(t.put (P t.mask (hashInt k) N).j).1.fill=T.size+1:=by unfold fill;rw[R,T'.gA];rfl
  generalize insertAt T (t.put (P t.mask (hashInt k) N).j).2 (hashInt k,Value.int k U)=es1 at *;generalize(t.put (P t.mask (hashInt k) N).j).1=t1 at *;dsimp only;show aa (aj ?_);rw[Kv];erw[my];show aa ?_;rw[hashByValue_scannable 8 (x:=.int k U) rfl];show aj ?_;let q1:plainKind (.int k U)=true:=rfl;erw[q1,my];show aa (wpAny_storeSet_of X.get X.ZR ?_ (Oj 'a'))
  by_cases Y:t1.tooFull=true
  .rw[Y]
   erw[Bl,Bool.and_self,my];symm
   let(g1,g2,g3,g4,g5):=pX (T.size+1) (c_ (v_ (f_ qk)) (c_ (v_ (f_ hl)) hn));let(V,t2,e2,m2,T2,p2,l2,q2):=AU (t:=t1) (es:=es1) (wanted:=grown (T.size+1)) g1 (a_ (f_ J) g2);left;rw[J,e2];dsimp only;show aa (aj ?_);let(q7,q5,O):=Hh p2 D;let qq:=qD hX T2 q5 ((O%_).nodup_iff.mpr W) (l2>>M) (q2>>Kv);let L:V.size=T.size+1:=by let:=p2.length_eq;simp at this;show this>>J
   show aa (wpAny_storeSet_of hX.get rfl ?_ (Oj (a_ (f_ L) (a_ g2 (a_ C_ g5)))));show aj (aj (h _ (n+1) true (kh s.1 a _>>(kh _ a _)) {5,q7,_,V,_,t2,qq,λZ=>?_,by rw[O.length_eq,B],?_} (bz _)))
   .exact(C Z)>>(O%(·.1)).mem_iff.symm
   .rw[T2.aU,m2,L];show t_ g4
  .rw[Bool.not_eq_true]at Y
   rw[Y];erw[Bool.and_false,dq,jt];show aj (aj (h _ (n+1) true (kh s.1 a _) {5,G,_,_,_,_,hX,C,B,?_} (bz _)));unfold tooFull at Y;rw[hf]at Y;rw[R];simp at Y;show Y
def AW{I:Addr}{P:Nat->Value->Prop}(W:WalksS prog w A.in1 I fp wr G n P St)(a:Addr)(Q:a∉fp)(Y:X9)(O:-Y=n)(F:∀i v x,P i v->Y[i]?\x->∃tk,v=.int x tk){B:X9}(hB:∀k∈Y,k∈B)(J:-B<31) :
 ∀(k i L:Nat)(s:Shared),n-i=k->i<=n->St i s ->
  Es w s.1 a (λk'=>k'∈Y.take i) L->L<=-B ->
  (∀Z U,Moved (a::wr) G s Z->Es w Z.1 a (λk'=>k'∈Y) U->U<=-B->R (.ok (.ret .none)) Z) ->
  codeAny (model prog w) A (.builtin "set.update.loop" ([↥a,↥I],[])) R s:=by
 let S:a∉wr:=λh=>Q (W.sub _ h)
 let N:∀b∈wr,b∈a::wr:=λb J=>bw _ J
 intro k
 induction k with
 |zero =>
  intro i L s M hi T X Rj hR;let K:i=n:='a'
  subst K;show su wy ?_;rw[o8 qm _];change wpAny _ A.in1 (pyNext ↥I>>=_) _ _ s;show aa (W.done s _ _ T λZ V=>?_);change wpAny _ A.in1 (ret Value.none) _ _ Z;show aj (hR Z L (V.mono N) ((X._M λo=>V.1 a o S).congr λk=>?_) Rj);rw[Cv (f_ O)]
 |succ k ih =>
  intro i L s M hi T X Rj hR;let D:i<n:='a'
  show su wy ?_;rw[o8 qm _];change wpAny _ A.in1 (pyNext ↥I>>=_) _ _ s;show aa (W.item i s _ _ D T λv Z hP q1 V=>?_);let lx:i< -Y:=b_ D (g_ O)
  let H:Y[i]?=↑Y[i]:=by simp[lx]
  let(tk,rfl):=F i v _ hP H;let X8:=X._M λo=>V.1 a o S
  change wpAny _ A.in1 (holding [Value.int Y[i] tk] (setAdd a (.int Y[i] tk))>>=_) _ _ Z;show aa (je ?_);unfold setAdd;show je ?_;show aa (wpAny_pyHash_int ?_);show AV (s:={ Z with toks:=Z.toks+1 }) X8 'a' λh' n2 b E qv q3=>?_
  let C:Es w h' a (λk=>k∈Y.take (i+1)) n2:=qv.congr λk=>by rw[List.take_add_one,dz,H];simp
  show aj (plainId_quiet qm _,ih (i+1) n2 _ 'a' D (W.frame _ Z _ _ q1 (Ao _ _) λb J o e=>?_) C (C.le λk M=>hB k (Du M)) λqk n3 q0 q2 qq=>?_)
  .rw[E.2 b (λh:b=a=>Q (by rw[<-h];show J))];show e
  .refine hR qk n3 (Moved.trans W.gtrans ((V.mono N).then_heap (Ao _ _) λb o J e=>?_) q0) q2 qq
   rw[E.2 b (λh:b=a=>J (by rw[h];show dw))];show e
def qF{id T:String}{K N:Obj}{Y:U1}{St:Nat->Heap->Prop}(hS:Es w s.1 a (λ_=>False) 0)(J:s.1^l\N)(hc:N.cls=.type T)(V:∀es ep t,N.data≠.set es ep t)(n1:isSubtype (.type T) (.type "set")=pure false)(n2:isSubtype (.type T) (.type "frozenset")=pure false)(nd:(Value.type T==.type "dict")=false)
 (hi:∀{Q:Y1},Q (.ref s⁻¹) (s<&>s.1.push K)->'p' (pyIter ↥l) Q E s) (W:l≠s⁻¹->Walks prog w A.in1 s⁻¹ [s⁻¹,l] [s⁻¹] Y.size (λi v=>Y[i]?\v) St) (h0:St 0 (s.1.push K))
 (O:PyProof.Rows.IntsAre Y.toList U) {B:X9} (hB:∀k∈U,k∈B) (C:-B<31) (h:∀Z tk n',(∀b o,b≠a->s.1^b\o->Z^b\o)->Es w Z a (λk=>k∈U) n'->n'<=-B->Q Unit.unit { s with heap:=Z,toks:=tk }) :
 'p' (Builtin.Frozenset.updateFrom id a ↥l) Q E s:=by
 let hT:s.TypeIs ↥l T:=(N,J,hc);let P:Y.size=-U:=by rw[<-vd];show PyProof.Rows.IntsAre.length O
 symm
 let(oa,qv,q0,ta,G,qk,S,qq):=hS.get;left;unfold Builtin.Frozenset.updateFrom;show aa (Ka hT n1 n2 ?_);erw[dq,jt];show aa (ux hT ?_);rw[cz (by rw[nd];simp)];show aa (hi ?_);show aa (wpAny_runValue ?_);let Ib:l<s⁻¹:=cj J
 let X:a<s⁻¹:=cj G
 let H:l≠a:=by rintro rfl;rw[J]at G;cases G;show V _ _ _ S
 let M:a∉[s⁻¹,l]:=by erw[dj,u9,Dp,not_or];show(gq X,λe=>H e.symm)
 let keep:∀b o,s.1^b\o->s.1.push K^b\o:=λb o e=>aq _ e
 show AW ((W (gq Ib)).toS) a M U P.symm (λi v x hv hx=>?_) hB C Y.size 0 0 _ rfl (iw _)
  h0 ?_ (iw _) ?_
 .let(tk,e):=PyProof.Rows.IntsAre.int_at O i v (by rw[p7];show hv)
  rw[bx,hx]at e;show(tk,e)
 .refine(hS._M λo e=>keep a o e).congr λk=>'b'
 .intro s' R L X8 D
  symm
  let(Z,g',d',I,F):=s';let eg:g'=s.gens:=L.gens;let ed:d'=s.drawn:=L.drawn;let eo:F=s.os:=L.os;subst eg;subst ed;subst eo;left;change 'A' _ _ _ _;show aj (h Z I R (λb o hb e=>?_) X8 D);show L.1 b o ?_ (keep b o e);erw[dj,u9,Dp,not_or];show(hb,gq (cj e))
def AX{id:String}(S:A.handled=())(P:Es w s.1 a (λ_=>False) 0)(G:s.1.IsList l items)(T:PyProof.Rows.IntsAre items.toList U){B:X9}(N:∀k∈U,k∈B)(Y:-B<31)(h:∀Z tk n',(∀b o,b≠a->s.1^b\o->Z^b\o)->Es w Z a (λk=>k∈U) n'->n'<=-B->Q Unit.unit { s with heap:=Z,toks:=tk }) :
 'p' (Builtin.Frozenset.updateFrom id a ↥l) Q E s:=by
 let J:=G;let(o,R,L,n,C):=J;show qF P R L (λ_ _ _ z=>by rw[C]at z;cases z) F.sub_list_set F.sub_list_frozenset ⋯ (Ah G) (λO=>Walks.list (by simp[S]) _ l O items) ({1,_,cu _ rfl,rfl,rfl},G.push _) T N Y h
def AY{id:String}(S:A.handled=())(R:Es w s.1 a (λ_=>False) 0)(C:s.1.IsTuple l items)(T:PyProof.Rows.IntsAre items.toList U){B:X9}(P:∀k∈U,k∈B)(Y:-B<31)(h:∀Z tk n',(∀b o,b≠a->s.1^b\o->Z^b\o)->Es w Z a (λk=>k∈U) n'->n'<=-B->Q Unit.unit { s with heap:=Z,toks:=tk }) :
 'p' (Builtin.Frozenset.updateFrom id a ↥l) Q E s:=by
 let G:=C;let(o,N,O,n,J):=G;show qF R N O (λ_ _ _ z=>by rw[J]at z;cases z) (by rw[yf];kernel_rfl) (by rw[yf];kernel_rfl) ⋯ (z6 C) (λL=>Walks.tuple (by simp[S]) _ l L items) ({1,_,cu _ rfl,rfl,rfl},o,aq _ N,O,n,J) T P Y h
def AZ(P:A.handled=())(L:s.1.IsList l items)(J:PyProof.Rows.IntsAre items.toList ks){B:X9}(N:∀k∈ks,k∈B)(Y:-B<31)(h:∀Z tk U,(∀b o,s.1^b\o->Z^b\o)->Es w Z s⁻¹ (λk=>k∈ks) U->U<=-B->Q (.ref s⁻¹) { s with heap:=Z,toks:=tk }) :
 'p' (call (.type "set") [↥l]) Q E s:=by
 show Ms (R:=λC=>∃Z tk U,C={ s with heap:=Z,toks:=tk }/\(∀b o,s.1^b\o->Z^b\o)/\Es w Z s⁻¹ (λk=>k∈ks) U/\U<=-B)
  (AX (s:=(s<&>s.1.push (Dq w))) (by simp[P]) (qE (cu _ rfl)) (L.push _) J N Y λZ tk U T G O=>{3,Z,tk,U,rfl,λb o e=>T b o (gq (cj e)) (aq _ e),G,O})
  λC (Z,tk,U,e,T,G,O)=>by subst e;show h Z tk U T G O
def Ap(P:A.handled=())(L:s.1.IsTuple l items)(J:PyProof.Rows.IntsAre items.toList ks){B:X9}(N:∀k∈ks,k∈B)(Y:-B<31)(h:∀Z tk U,(∀b o,s.1^b\o->Z^b\o)->Es w Z s⁻¹ (λk=>k∈ks) U->U<=-B->Q (.ref s⁻¹) { s with heap:=Z,toks:=tk }) :
 'p' (call (.type "set") [↥l]) Q E s:=by
 show Ms (R:=λC=>∃Z tk U,C={ s with heap:=Z,toks:=tk }/\(∀b o,s.1^b\o->Z^b\o)/\Es w Z s⁻¹ (λk=>k∈ks) U/\U<=-B)
  (AY (s:=(s<&>s.1.push (Dq w))) (by simp[P]) (qE (cu _ rfl)) (let (o,ho,r):=L;{1,o,aq _ ho,r}) J N Y λZ tk U T G O=>{3,Z,tk,U,rfl,λb o e=>T b o (gq (cj e)) (aq _ e),G,O})
  λC (Z,tk,U,e,T,G,O)=>by subst e;show h Z tk U T G O
def As:entryFor table "set.__iter__"= ↑Builtin.«frozenset.__iter__»:=
 entryFor_alias (id' :="frozenset.__iter__") (by kernel_rfl) rfl ∅ (by kernel_rfl)
def Er:Slot "set_iterator" "__next__" "set_iterator.__next__":=
 .of (owner :="set_iterator") (n :="__next__") (by rw[typeLookup_type,builtinLookup_eq_fast];kernel_rfl) ∅ ∅ ∅
  (by first|show .inl ∅|show .inr ∅) (by rw[yf];kernel_rfl)
def Qx:Slot "set_iterator" "__iter__" "set_iterator.__iter__":=
 .of (owner :="set_iterator") (n :="__iter__") (by rw[typeLookup_type,builtinLookup_eq_fast];kernel_rfl) ∅ ∅ ∅
  (by first|show .inl ∅|show .inr ∅) (by rw[yf];kernel_rfl)
def Ol:entryFor table "set_iterator.__next__"= ↑Builtin.«set_iterator.__next__»:=entryFor_of_fast (by kernel_rfl)
def Yc:entryFor table "set_iterator.__iter__"= ↑Builtin.«dict_keyiterator.__iter__»:=
 entryFor_alias (id' :="dict_keyiterator.__iter__") (by kernel_rfl) rfl ∅ (by kernel_rfl)
def Qy(a:Value):argsOk "set_iterator.__next__" ([a],[]):=by unfold argsOk;kernel_rfl
def Z7(a:Value):argsOk "set_iterator.__iter__" ([a],[]):=by unfold argsOk;kernel_rfl
def Au(Y:bM Z):below Z 0=0:=by
 let(G,T,J):=Ig (j:=0) Y;rcases Nat.eq_zero_or_pos (below Z 0)with e|e
 .exact e
 .let l:0<Z.size:=b_ e G
  let:=T 0 Z[0] (by simp[l]) e
  lia
def A0(Y:bM Z)(h:Z[i]?\j):below Z (j+1)=i+1:=by
 let(N,B,C):=Ig (j:=j+1) Y;let J:i<below Z (j+1):=by
  rcases qi i (below Z (j+1))with l|l
  .exact l
  .let:=C i j h l;lia
 let O:¬i+1<below Z (j+1):=λl=>by
  let G:i+1<Z.size:=b_ l N
  let T:Z[i+1]?=↑Z[i+1]:=by simp[G]
  let:=B (i+1) _ T l;let:=Y i (i+1) j _ h T B_
  lia
 show u_ (s_ O) J
def aw(w:World)(a:Addr)(Y:Array (Int×Value))(T:Nat):Array (Int×Value):=if bt w then pickOrder (w.params.setOrder a T) Y else Y
def qG:(aw w a es ep).toList.Perm es.toList:=by
 unfold aw;split
 .exact qA _ _
 .exact Bp _
def k8:(aw w a Z U).size=Z.size:=by let:=(qG (w:=w) (a:=a) (es:=Z) (ep:=U)).length_eq;simpa using this
def bR(a:Addr)(Y i n T:Nat):Obj:={ cls:=.type "set_iterator",data:=.fields #[.int Y 0,.int i 0,↥a,.int n 0,.int T 0] }
def qH(X:Px w s.1 a xs o es Z t){Y:Nat}(L:bt w=false->below t.place Y=i)(B:∀e U,(aw w a es Z)[i]?\e->(bt w=false->below t.place U=i+1)->Q ↑(e.2,U) s)(O:(aw w a es Z)[i]?=()->Q () s) :
 'p' (setNext a Y i Z) Q E s:=by
 unfold setNext;show aa (mq X.get X.ZR X.YF.fits ?_);dsimp only;show aa (iL ?_);cases hbt:bt w with
 |true =>
  erw[my,Ai,dq,jt];show aa ?_;unfold setWalk;show aa (mq X.get X.ZR X.YF.fits ?_);dsimp only;show aa (iL ?_);rw[hbt];erw[my];show aa (wpAny_askSetting (aj (aj ?_)));let G:aw w a es Z=pickOrder (w.params.setOrder a Z) es:=by unfold aw;rw[hbt];rfl
  change Q ((pickOrder (w.params.setOrder a Z) es)[i]?%_) s;rw[<-G];cases hg:(aw w a es Z)[i]? with
  |none=>show O hg|some e=>show B e Y hg (λc=>by rw[hbt]at c;cases c)
 |false =>
  let G:aw w a es Z=es:=by unfold aw;rw[hbt];rfl
  erw[dq,jt];split
  .rename_i T
   let T:(!t.plain&&decide (es.size > 1))=true:=T;rw[X.bQ]at T;cases T
  .refine aa ?_
   let fin:Q (match es[below t.place Y]?,t.place[below t.place Y]? with|some (_,x),↑j=>↑(x,j+1)|_,_=>()) s:=by
    rw[L hbt];cases hg:es[i]? with
    |none=>show O (by rw[G];show hg)
    |some e =>
     let C:i<t.place.size:=by rw[X.YF.aU];show(lg<*hg).1
     let J:t.place[i]?=↑t.place[i]:=by simp[C]
     rw[J];show B e _ (by rw[G];show hg) (λ_=>A0 X.YF.Ui J)
   let:'p' (if(!t.led&&!es.isEmpty)=true then unsupported "set:maker-not-led" else pure Unit.unit) (λ_ N=>'p' (pure (match es[below t.place Y]?,t.place[below t.place Y]? with|some (_,x),↑j=>↑(x,j+1)|_,_=>())) Q E N) E s:=by rw[X.led,hbt];erw[Bl,uv,Bool.false_and,dq,jt];show aj (aj fin)
   show this
def A2{I:Addr}(X:Px w s.1 a xs o es U t){Y:Nat}(C:s.1^I\(bR a Y i es.size U))(W:bt w=false->below t.place Y=i)(T:(aw w a es U)[i]?\e)(P:∀h' Z,h'^I\(bR a Z (i+1) es.size U)->(bt w=false->below t.place Z=i+1)->Heap.SameBut I s.1 h'->Q ↑e.2 (s<&>h')) :
 'p' (pyNext ↥I) Q E s:=by
 let N:s.TypeIs ↥I "set_iterator":= (_,C,rfl);unfold pyNext;show aa (vf (ji (name:=Str.ofString "__next__") N Er
  (iz Er N Ol ?_ (Qy _))))
 unfold Builtin.«set_iterator.__next__»;show aa (m:=slotArgs "__next__" 0 _) (aj ?_);show aa (wpAny_fieldsOf C rfl ?_);change 'A' (setEntries a>>=_) _ _ s;show aa (qj X.get X.ZR X.YF.fits ?_);rw[Ai];erw[dq,jt];change 'A' (setNext a Y i U>>=_) _ _ s;show aa (qH X W (λF Z O J=>?_) (λV=>by rw[V]at T;cases T));rw[O]at T;cases T;dsimp only;show aa (jy C 'b' λL H G=>?_);show aa (jy (s:=(s<&>L)) H 'b' λS R B=>?_);show aj {1,_,rfl,aj (P S Z (by rw[R];rfl) J (G>>B))}
def A4{I:Addr}(H:A.handled=())(X:Px w s.1 a xs o es U t){Y:Nat}(B:s.1^I\(bR a Y i es.size U))(S:bt w=false->below t.place Y=i)(O:(aw w a es U)[i]?=())(R:∀Z,Heap.ExtBut I s.1 Z->Q () (s<&>Z)) :
 'p' (pyNext ↥I) Q E s:=by
 let C:s.TypeIs ↥I "set_iterator":= (_,B,rfl);unfold pyNext;show aa (vf (ji (name:=Str.ofString "__next__") C Er
  (iz Er C Ol ?_ (Qy _))))
 unfold Builtin.«set_iterator.__next__»;show aa (m:=slotArgs "__next__" 0 _) (aj ?_);show aa (wpAny_fieldsOf B rfl ?_);change 'A' (setEntries a>>=_) _ _ s;show aa (qj X.get X.ZR X.YF.fits ?_);rw[Ai];erw[dq,jt];change 'A' (setNext a Y i U>>=_) _ _ s;show aa (qH X S (λW M J P=>by rw[J]at O;cases O) (λK=>?_));dsimp only;show aa (jy B 'b' λV F G=>?_);change 'A' (newExc (.type "StopIteration") []>>=_) _ _ _;show qC (show A.in1.handled=() from H) λZ x k z_=>?_
 let(o,N,L):=z_;show aa (o4 (T :="StopIteration") (b:=true) {1,o,N,L} isSubtype_stop (aj (R _ λb o n z=>k b o (G.extBut b o n z))))
def A5(w:World)(a I:Addr)(J:List (Int×Tok))(o:Obj)(T:Array (Int×Value))(G:Nat)(t:SetTable)(i:Nat)(h:Heap):Prop:=
 Px w h a J o T G t/\∃Y,h^I\(bR a Y i T.size G)/\(bt w=false->below t.place Y=i)
def Px.at(X:Px w h a Z o U ep t)(e:h'^a\o):Px w h' a Z o U ep t:=(e,X.bP,X.ZR,X.YF,X.YZ,X.bG,X.led,X.bQ)
theorem Walks.A6{I:Addr}(K:A.handled=())(W:a≠I)(F:List (Int×Tok))(o:Obj)(J:Array (Int×Value))(O:Nat)(t:SetTable) :
 Walks prog w A I [I,a] [I] J.size (λi v=>((aw w a J O)[i]?%(·.2))\v) (A5 w a I F o J O t)where
 sub:=λb Y=>by simp at Y;simp[Y]
 frame:=λ_ _ _ st R=>(st.1.at (R a 'b' o st.1.get),let (P,e,r):=st.2;(P,R I 'b' _ e,r))
 item:=λi s Q E H st G=>by
  let(X,T,B,Y):=st;let S:(aw w a J O)[i]?\((aw w a J O)[i]'(by rw[k8];show H)):=by simp[k8,H]
  show A2 X B Y S λN P g r V=>G _ N s.toks (by rw[S];rfl) (X.at (V.2 a W>>X.get),P,g,r) λb o Y e=>V.2 b (λh=>Y (by simp[h]))>>e
 done:=λs Q E st G=>by let(X,T,B,Y):=st;show A4 K X B Y (by simp[k8]) λN L=>G N s.toks λb o Y e=>L b o (λh=>Y (by simp[h])) e
 self:=λ_ s _ _ st G=>by let(X,T,B,Y):=st;let C:s.TypeIs ↥I "set_iterator":= (_,B,rfl);show wpAny_pyIter_slot C Qx (iz Qx C Yc ?_ (Z7 _));change 'A' (ret ↥I) _ _ s;show aj {1,_,rfl,("set_iterator",_,C,Er.lookup,G)}
def A7(X:Px w s.1 a xs o Z U t)(G:Q (.ref s⁻¹) (s<&>s.1.push (bR a 0 0 Z.size U))):'p' (pyIter ↥a) Q E s:=by
 let Y:s.TypeIs ↥a "set":= (o,X.get,X.bP.1);show wpAny_pyIter_slot Y F.slot_set_iter (iz F.slot_set_iter Y As ?_ (F.args_set_iter_1 _));unfold Builtin.«frozenset.__iter__» Builtin.Frozenset.slot0 slotArgs;simp only[List.isEmpty_nil,uv,dq,↓reduceIte,bind_assoc,List.length_nil,Ai];unfold Builtin.Frozenset.addrOf Builtin.Frozenset.sizeOf;show aa (aj ?_)
 try dsimp only
 show aa (aj ?_);show aa (aa (qj X.get X.ZR X.YF.fits (aj ?_)));show aa ?_;unfold setDrawn;show aa (mq X.get X.ZR X.YF.fits ?_);dsimp only;show aa (iL (aj ?_));let T:(!bt w&&(!t.plain&&decide (Z.size > 1)))=false:=by rw[X.bQ];simp
 change 'A' (if(!bt w&&(!t.plain&&decide (Z.size > 1)))=true then _ else _) _ _ s;rw[T];erw[dq,jt];show aa (aj (aa (wpAny_setEpoch_of X.get X.ZR X.YF.fits ?_)));show aa (m8 (aj {1,_,rfl,("set_iterator",_,{1,_,cu _ rfl,rfl},Er.lookup,G)}))
def A8(Y:s.TypeIs ↥a "set")(h:Q false s):'p' (Builtin.List.listLengthHint ↥a) Q E s:=by
 unfold Builtin.List.listLengthHint;show aa (wpAny_specialOf Y F.slot_set_len.lookup ?_)
 (generalize hid:("set.__len__": String)=id0;(fail_if_success (clear hid id0));wp_delta;rw[show splitId id0\("set","__len__")from by subst hid;decide+kernel];subst hid)
 show aa (o4 (b:=true) Y sub_set_self ?_);show aa (ux Y ?_);show aj h
def A9(m:A.handled=())(X:Px w s.1 a xs o Z U t)(z:Z.size<=sizeLine)(h:∀h' tk qq,(∀b o,s.1^b\o->h'^b\o)->s⁻¹<=h'.objs.size->ItemsOf (λi v=>((aw w a Z U)[i]?%(·.2))\v) qq Z.size->Q qq.toList { s with heap:=h',toks:=tk }) :
 'p' (collect ↥a) Q E s:=by
 let D:a<s⁻¹:=cj X.get
 let G:s⁻¹≠a:=yw D;unfold collect;show aa (wpAny_runValue (su F.entry_proto_collect ?_));rw[o8 F.plain_proto_collect _];change wpAny _ A.in1 (newList []>>=λl=>again (.builtin "list.__iadd__" ([l,↥a],[]))) _ _ s;show aa (m8 ?_);show aj (plainId_quiet F.plain_list_iadd _,su F.entry_list_iadd ?_);rw[o8 F.plain_list_iadd _];let S:Px w (s.1.push ('l' ([]:Zl).toArray)) a xs o Z U t:=X.at (aq _ X.get);let R:Shared.TypeIs (s<&>s.1.push ('l' ([]:Zl).toArray)) ↥a "set":= {1,o,S.get,S.bP.1};let u:Builtin.List.listSameRef (.ref s⁻¹) ↥a=false:=by simp[Builtin.List.listSameRef,G]
 change wpAny _ A.in1 (Builtin.List.listExtendWith (.ref s⁻¹) ↥a (.ref s⁻¹)) _ _ _;unfold Builtin.List.listExtendWith;show aa (ux R ?_);rw[cz (by rw[u];decide)];show aa (A7 (s:=(s<&>s.1.push ('l' ([]:Zl).toArray))) S ?_);let C:(s.1.push ('l' ([]:Zl).toArray)).objs.size=s⁻¹+1:=jh ..;change wpAny _ A.in1 (holding [↥(s.1.push ('l' ([]:Zl).toArray)).objs.size] (Builtin.List.listLengthHint ↥a)>>=_) _ _ (s<&>(s.1.push ('l' ([]:Zl).toArray)).push (bR a 0 0 Z.size U));let M:((s.1.push ('l' ([]:Zl).toArray)).push (bR a 0 0 Z.size U))^(s.1.push ('l' ([]:Zl).toArray)).objs.size\(bR a 0 0 Z.size U):=cu _ rfl;let gS:((s.1.push ('l' ([]:Zl).toArray)).push (bR a 0 0 Z.size U))^s⁻¹=some ('l' ([]:Zl).toArray):=aq _ (cu _ rfl);let J:∀b o,s.1^b\o->(s.1.push ('l' ([]:Zl).toArray)).push (bR a 0 0 Z.size U)^b\o:=λb o e=>aq _ (aq _ e)
 let y:s⁻¹<=((s.1.push ('l' ([]:Zl).toArray)).push (bR a 0 0 Z.size U)).objs.size:=by rw[jh,C];show a_ x_ x_
 generalize(s.1.push ('l' ([]:Zl).toArray)).push (bR a 0 0 Z.size U)=hp at *;rw[C]at M⊢;let q:Px w hp a xs o Z U t:=X.at (J a o X.get);show aa (je (A8 (o,q.get,q.bP.1) ?_));rw[dm ∅];show aa (o5 ?_);show aa ?_;change wpAny _ A.in1 (updateSeq s⁻¹ (·.push .none)>>=λ_=>updateSeq s⁻¹ (·.pop)) _ _ _;show aa (wpAny_updateSeq gS rfl ?_);let Y:=qy (Obj.mapSeq (·.push Value.none)) gS rfl;show wpAny_updateSeq (hz:=by seq_fits) Y rfl ?_;let B:=qy (Obj.mapSeq (·.pop)) Y rfl;let T:∀b o,b≠s⁻¹->hp^b\o->((hp.update s⁻¹ (Obj.mapSeq (·.push Value.none))).update s⁻¹ (Obj.mapSeq (·.pop)))^b\o:=
  λb o O e=>yc _ _ (j4 O)>>(yc _ _ (j4 O)>>e)
 let g:((hp.update s⁻¹ (Obj.mapSeq (·.push Value.none))).update s⁻¹ (Obj.mapSeq (·.pop))).objs.size=hp.objs.size:=by rw[Heap.size_update,Heap.size_update]
 generalize(hp.update s⁻¹ (Obj.mapSeq (·.push Value.none))).update s⁻¹ (Obj.mapSeq (·.pop))=h3 at *;let W:=(Walks.A6 (prog:=prog) (w:=w) (A:=A.in1) (I:=s⁻¹+1) (a:=a) m (gq (lz D)) xs o Z U t).toS;show aj (plainId_quiet F.plain_extend_loop _,codeAny_extend_loopS W z _ (by erw[dj,u9,Dp,not_or];show(gq (mz _),G)) _ Z.size 0 _ _ _ rfl (iw _)
  (X.at (T a o (j4 G) (J a o X.get)),0,T _ _ (yw (mz _)) M,λ_=>Au X.YF.Ui) B (ItemsOf.nil _) λK N f L V r=>?_)
 change wpAny _ A (load s⁻¹>>=_) _ _ K;show aa (wpAny_load V ?_);let(h',d,k,H,P):=K;let p:d=s.gens:=L.gens;let j:k=s.drawn:=L.drawn;let c:P=s.os:=L.os;subst p;subst j;subst c;show aj (h h' H N (λb o e=>?_) ?_ r)
 .let O:=cj e
  show L.1 b o (by erw[dj,u9,Dp,not_or];show(gq O,gq (lz O))) (T b o (gq O) (J b o e))
 .let:=cj V
  show Aj this
def BA{s:Shared}(X:Px w s.1 a xs o Z U t)(B:ItemsOf (λi v=>((aw w a Z U)[i]?%(·.2))\v) acc Z.size) :
 ∃ns:List Int,PyProof.Rows.IntsAre acc.toList ns/\ns.Perm (xs%(·.1)):=by
 let(Y,N,J):=Hh (f:=br) (qG (w:=w) (a:=a) (es:=Z) (ep:=U)) X.YZ;let O:acc.toList=Y%λy=>Value.int y.1 y.2:=by
  apply uf;intro i;let G:-acc.toList=Z.size:='s' B.1
  let L:-Y=Z.size:=by rw[J.length_eq,<-X.size]
  by_cases T:i<Z.size
  .let C:acc.toList[i]?\(acc.toList[i]'(b_ T (g_ G))):=by simp[G,T]
   let P:=B.2 i _ (by rw[<-p7];show C);rw[C,<-P,<-p7,N,ie,ie];cases Y[i]?<;>rfl
  .rw[jk (a_ (f_ G) (s_ T)),jk (by simp;show a_ (f_ L) (s_ T))]
 show(Y%(·.1),?_,J%_);rw[O];clear O J N B
 induction Y with
 |nil=>show .nil|cons y Y E=>show .cons _ _ E
def BB(z:A.handled=())(I:Es w s.1 a S n)(R:n<31)(h:∀(h':Heap) (U:Nat) (p:Addr) (W_:U1) (Z:X9),(∀b o,s.1^b\o->h'^b\o)->s⁻¹<=p->PyProof.Rows.IntsAre W_.toList Z->Z.Pairwise (·<=·)->Z.Nodup->(∀k,S k↔k∈Z) ->
 (∃c,h'^p\(PyProof.Rows.seqObj "list" W_ c))->Q ↥p { s with heap:=h',toks:=U }) :
 'p' (call (.builtin "sorted") [↥a]) Q E s:=by
 let(u,o,g,l,t,X,D,N,j):=I;let G:=X.size;show Calls.call_function_entry PyProof.Rows.kind_sorted PyProof.Rows.plain_sorted PyProof.Rows.entry_sorted (PyProof.Rows.args_sorted1 _) ?_;unfold Builtin.«sorted»;show aa (m:=checkCount "sorted" 1 1 _) (aj ?_);show aa (A9 ('s' z) X (by rw[vo];show e_ (c_ (f_ G) (c_ (f_ N) (b_ R ⋯)))) λO U Y keep L V=>?_);let(Z,y,M):=BA X V;let T:-Y.toList=n:=by let:=V.1;simp;show u_ (a_ (f_ this) (a_ (f_ G) (f_ N))) (a_ (g_ N) (a_ (g_ G) (g_ this)))
 let F:Y=Y.toList.toArray:='b'
 show aa (wpAny_newList ?_ (by rw[vo];show e_ (c_ (f_ T) (b_ R ⋯))));let J:(O.push (PyProof.Rows.seqObj "list" Y.toList.toArray 0))^O.objs.size\(PyProof.Rows.seqObj "list" Y.toList.toArray 0):=cu _ rfl;show aa (je (iz PyProof.Rows.slot_list_sort {1,_,J,rfl} PyProof.Rows.entry_list_sort (PyProof.Rows.list_sort_tree (s:={ s with heap:=O.push (PyProof.Rows.seqObj "list" Y.toList.toArray 0),toks:=U }) J y (c_ (f_ T) (b_ R ⋯)) λW_ P q W K=>{1,_,rfl,?_}) (PyProof.Rows.args_list_sort _)));let H:=W>>M;show aj {1,_,rfl,h _ U O.objs.size W_ P (λb o e=>?_) L q K (H.nodup_iff.mpr X.bG) (λk=>D k>>H.mem_iff.symm) (PyProof.Rows.sortedHeap_at J)};let B:=keep b o e;let C:=cj B;rw[PyProof.Rows.sortedHeap_old (gq C) (by rw[jh];show lz C),Heap.get?_push_ne _ _ _ (gq C)];show B
end aD
set_option backward.match.sparseCases false
namespace MW
open PySem (Str)
set_option genCtorIdx false
set_option genInjectivity true in
inductive D where
 |XQ|bl (b:Bool)|int (i:Int)|str (s:Str)|WL (ds:List D)|vl (ds:List D)|fz (ds:List D)|ref (n:Nat)
set_option genCtorIdx true
def D.ctorIdx(d:D):Nat:=d.casesOn 0 (λ_=>1) (λ_=>2) (λ_=>3) (λ_=>4) (λ_=>5) (λ_=>6) (λ_=>7)
abbrev Kx:=Sum Int Str
set_option genCtorIdx false
set_option genInjectivity true in
inductive MO where
 |WK (ds:List D)|Ui (ds:List D)|gone|dT (jo:List (List Kx×D))|dK (jo:List (Kx×D))|YW (c:Nat) (fs:List (Nat×D))
set_option genCtorIdx true
def MO.ctorIdx(d:MO):Nat:=d.casesOn (λ_=>0) (λ_=>1) 2 (λ_=>3) (λ_=>4) (λ_ _=>5)
abbrev fc:=List MO
abbrev Env:=List (Option D)
set_option genInjectivity true in
inductive WR(α:Type)where
 |ok (a:α) (M:fc)|WY
namespace WR
def bind{Y β:Type}(r:WR Y)(f:Y->fc->WR β):WR β:=
 match r with|ok a M=>f a M|WY=>WY
@[simp] def Di(a:α)(M:fc)(f:α->fc->WR β):(ok a M)*>f=f a M:=rfl
@[simp] def UA(f:α->fc->WR β):(WY:WR α)*>f=WY:=rfl
def wg{α:Type}(o:Option α)(M:fc):WR α:=match o with|some a=>ok a M|none=>WY
@[simp] def Fq(a:α)(M:fc):wg ↑a M=ok a M:=rfl
@[simp] def UB(M:fc):wg (():Option α) M=WY:=rfl
end WR
inductive bJ where|XS|sub|mul|fdiv|_l|pow
inductive Cp where|eq|ne|lt|le|gt|ge|inn|Uz|is|Wi
inductive bD where
 |len|tuple|list|max|min|dict|all|isList|_s|_A|_S|Ey|sorted|rev
inductive Bm where|append|index|get|extend|Py
inductive Tg where
 |name (i:Nat)|names (is:Y2)
set_option genCtorIdx false
mutual
inductive Ex where
 |ZD (i:Nat)|ZX (d:D)
 |YG (op:bJ) (a b:Ex)|neg (a:Ex)
 |XX (op:Cp) (a b:Ex)|ZG (o1 o2:Cp) (a b c:Ex)
 |and (a b:Ex)|or (a b:Ex)|not (a:Ex)|ite (c a b:Ex)
 |WL (es:Ha)|WK (es:Ha)|Gk (es:Ha)|dn|dE
 |ix (a b:Ex)|cut (a:Ex) (lo hi:ag)
 |call (f:Nat) (es:Ha)|_Q (c:Nat) (es:Ha)|meth (o:Ex) (m:Nat)|ZL (o:Ex) (f:Nat)
 |YC (b:bD) (es:Ha)|bm (m:Bm) (o:Ex) (es:Ha)
 |WN (v:Bool) (k:Nat) (t:Tg) (it:Qz) (e:Ex)|Eo (v:Bool) (k:Nat) (t:Tg) (it:Qz) (c:Ex) (e:Ex)
 |dt (a b:Ex)|dy (e:Ex)|eA (e:Ex)
inductive Ha where
 |nil|cons (e:Ex) (es:Ha)
inductive ag where
 |none|some (e:Ex)
inductive Qz where
 |val (e:Ex)|aK (e:Ex)|cU (e:Ex)|zip (es:Ha)|eu (es:Ha)
end
abbrev Ex.v:=Ex.ZD
abbrev Ex.i(n:Int):Ex:=.ZX ⇑n
abbrev Ex.l(e:Ex):Ex:=.YC .len (.cons e .nil)
abbrev Ha.z:=Ha.nil
abbrev Ha.c:=Ha.cons
abbrev Ha.o(a:Ex):Ha:=.cons a .nil
abbrev Ha.p(a b:Ex):Ha:=.cons a (.cons b .nil)
abbrev Ha.q(a b c:Ex):Ha:=.cons a (.cons b (.cons c .nil))
inductive Lv where
 |tg (t:Tg)|sub (o i:Ex)|ZL (o:Ex) (f:Nat)
mutual
inductive Ea where
 |asg (l:Lv) (e:Ex)|_K (e:Ex)|iff (c:Ex) (a b:nq)|whl (c:Ex) (b:nq)|YX (t:Tg) (it:Qz) (b:nq)
 |ret (e:Ex)|brk|cont|ZV|all (i:Nat) (e:Ex) (r:nq)
inductive nq where
 |nil|cons (s:Ea) (r:nq)
end
set_option genCtorIdx true
abbrev Ea.a(i:Nat)(e:Ex):Ea:=.asg (.tg (.name i)) e
abbrev Ea.f(c:Ex)(b:nq):Ea:=.iff c b .nil
abbrev nq.z:=nq.nil
abbrev nq.c:=nq.cons
abbrev nq.o(a:Ea):nq:=.cons a .nil
abbrev nq.p(a b:Ea):nq:=.cons a (.cons b .nil)
abbrev nq.q(a b c:Ea):nq:=.cons a (.cons b (.cons c .nil))
structure Fn where
 np:Nat
 ns:Nat
 body:nq
structure Cl where
 init:Nat
 _a:List (Nat×Nat)
def gr(M:fc):D->Option (List D)
 |.vl ds=>↑ds|↥n=>match M[n]? with|some (.WK ds)=>↑ds|_=>()
 |_=>()
def Cm(M:fc):D->Option (List D)
 |.WL ds=>↑ds|d=>gr M d
def Z8:D->Option Kx
 |⇑i=>↑(.inl i)|.str s=>↑(.inr s)|_=>()
def cV:List D->Option (List Kx)
 |[]=>some []
 |d::ds=>match Z8 d,cV ds with
  |some k,↑ks=>↑(k::ks)|_,_=>()
def Ut:D->Option (List Kx)
 |.WL ds=>cV ds|_=>()
def gB:Kx->D
 |.inl i=>⇑i|.inr s=>.str s
def gC(Y:List Kx):D:=.WL (Y%gB)
def Hi:List D->Option (List (List Kx))
 |[]=>some []
 |d::ds=>match Ut d,Hi ds with
  |some k,↑ks=>↑(k::ks)|_,_=>()
def U0(f:D->D->Option Bool):List D->List D->Option Bool
 |[],[]=>↑true
 |a::as,b::bs=>match f a b,U0 f as bs with
  |some x,↑y=>↑(x&&y)|_,_=>()
 |_,_=>↑false
instance:DecidableEq Kx:=inferInstanceAs (DecidableEq (Sum Int Str))
def Am{Y:Type}[DecidableEq Y](T:List (Y×D))(k:Y):Option D:=(T.find? λp=>decide (p.1=k))%(·.2)
def Mm(M:fc):Nat->D->D->Option Bool
 |0,_,_=>()
 |n+1,a,b=>match a,b with
  |⇑i,⇑j=>↑(decide (i=j))|.bl i,.bl j=>↑(i==j)|.WL as,.WL bs=>U0 (Mm M n) as bs
  |a,b=>match gr M a,gr M b with
   |some as,↑bs=>if -as=-bs then U0 (Mm M n) as bs else ↑false
   |_,_=>()
def Bb(M:fc)(a b:D):Option Bool:=Mm M 6 a b
def Pz(M:fc)(x:D):List D->Option (List Bool)
 |[]=>some []
 |y::ys=>match Bb M y x,Pz M x ys with
  |some a,↑b=>↑(a::b)|_,_=>()
def _O(M:fc)(x:D)(Y:List D):Option Bool:=Pz M x Y%(·.any id)
def b0(M:fc)(x:D)(Y:List D):Option Nat:=Pz M x Y*>(·.findIdx? id)
def Yd:List D->Option (List Int)
 |[]=>some []|⇑i::r=>Yd r%(i::·)|_::_=>()
def cG(n:Nat)(i:Int):Option Nat:=if 0<=i then(if i<n then ↑i.toNat else ())else if Neg.neg (n:Int)<=i then ↑(i+n).toNat else ()
def clip(n:Nat)(d:Nat):Option Int->Nat
 |none=>d|some i=>if 0<=i then min i.toNat n else(i+n).toNat
def cH(Y:List D)(T G:Option Int):List D:=(Y.drop (clip (-Y) 0 T)).take (clip (-Y) (-Y) G-clip (-Y) 0 T)
def k9:List Int->Option Int
 |[]=>()|a::r=>↑(r.foldl (λm x=>if m<x then x else m) a)
def insI(x:Int):List Int->List Int
 |[]=>[x]|y::ys=>if x<y then x::y::ys else y::insI x ys
def YS(Y:X9):List Int:=Y.foldr insI []
def yz:List Int->List Int
 |[]=>[]|x::xs=>if x∈xs then yz xs else x::yz xs
def ZC(M:fc)(d:D):Option (List D):=
 match d with
 |↥n=>match M[n]? with
  |some (.dT jo)=>↑(jo%λp=>gC p.1)
  |_=>gr M d
 |_=>gr M d
def Fw{T:Type}[DecidableEq T](G:List (T×D))(k:T)(v:D):List (T×D):=
 if(G.any λY=>decide (Y.1=k))=true then G%(λY=>if Y.1=k then(Y.1,v)else Y)else G++[(k,v)]
def Hj(Y:List (List Kx)):Bool:=decide (-Y<=30)&&Y.all λk=>k.all λx=>match x with|.inl _=>true|.inr _=>false
def Mt(T Y:List (List Kx)):Bool:=T.all (λx=>Y.any λy=>decide (y=x))&&Y.all (λy=>T.any λx=>decide (x=y))
def new(o:MO)(M:fc):WR D:=.ok ↥(-M) (M++[o])
def lC(a b:D)(M:fc):WR D:=
 match a,b with
 |⇑i,⇑j=>.ok ⇑(i+j) M|.WL xs,.WL ys=>if -xs+-ys<=100000 then .ok (.WL (xs++ys)) M else .WY
 |x,y=>match gr M x,gr M y with
  |some xs,↑ys=>if -xs+-ys<=100000 then .ok (.vl (xs++ys)) M else .WY
  |_,_=>.WY
def ii{α:Type}(x y:D)(f:Int->Int->α)(z:α):α:=match x with|⇑i=>(match y with|⇑j=>f i j|_=>z)|_=>z
def lD(h:ii x y f z=r)(Y:z≠r):∃i j,x=⇑i/\y=⇑j/\f i j=r:=by
 cases x with
 |int i=>cases y with
  |int j=>show{2,i,j,rfl,rfl,h}|_=>show absurd h Y
 |_=>show absurd h Y
@[simp] def UC(i j:Int)(f:Int->Int->α)(z:α):ii ⇑i ⇑j f z=f i j:=rfl
def BC(a b:D)(M:fc):WR D:=ii a b (λi j=>.ok ⇑(i-j) M) .WY
def BD(a b:D)(M:fc):WR D:=ii a b (λi j=>if((Neg.neg (2^64):Int)<i/\i<2^64)\/((Neg.neg (2^64):Int)<j/\j<2^64)then .ok ⇑(i*j) M else .WY) .WY
def BE(a b:D)(M:fc):WR D:=ii a b (λi j=>if 0<j/\j<1073741824 then .ok ⇑(HDiv.hDiv i j) M else .WY) .WY
def BF(a b:D)(M:fc):WR D:=ii a b (λi j=>if 0<j then .ok ⇑(HMod.hMod i j) M else .WY) .WY
def qI(a b:D)(M:fc):WR D:=ii a b (λi j=>if 0<=j/\j<=64/\i.natAbs<2^64 then .ok ⇑(HPow.hPow i j.toNat) M else .WY) .WY
def G6(Y:bJ):D->D->fc->WR D:=
 match Y with
 |.XS=>lC|.sub=>BC|.mul=>BD|.fdiv=>BE|._l=>BF|.pow=>qI
def Nu(M:fc)(a b:D):Option Bool:=
 match b with
 |↥n=>match M[n]? with
  |some (.dT jo)=>Ut a%λk=>(Am jo k).isSome
  |some (.dK jo)=>Z8 a%λk=>(Am jo k).isSome
  |_=>Cm M b*>(_O M a)
 |_=>Cm M b*>(_O M a)
def gD(a b:D):Option Bool:=match b with
 |.XQ=>(match a with|.XQ=>↑true|.WL _=>↑false|↥_=>↑false|_=>())
 |.bl y=>(match a with|.bl x=>↑(x==y)|_=>())
 |_=>()
def gE(f:Int->Int->Bool)(a b:D):Option Bool:=ii a b (λi j=>↑(f i j)) ()
def Mp(Y:Cp)(a b:D)(M:fc):Option Bool:=
 match Y with
 |.lt=>gE (λi j=>decide (i<j)) a b
 |.le=>gE (λi j=>decide (i<=j)) a b
 |.gt=>gE (λi j=>decide (j<i)) a b
 |.ge=>gE (λi j=>decide (j<=i)) a b
 |.eq=>Bb M a b|.ne=>(Bb M a b).map not|.inn=>Nu M a b|.Uz=>(Nu M a b).map not|.is=>gD a b|.Wi=>(gD a b).map not
def Ax(a b:D)(M:fc):Option D:=
 match a with
 |↥n=>match M[n]? with
  |some (.dT jo)=>Ut b*>(Am jo)|some (.dK jo)=>Z8 b*>(Am jo)
  |_=>match gr M a,b with
   |some ds,⇑i=>cG (-ds) i*>λj=>ds[j]?
   |_,_=>()
 |.fz ds=>match b with
  |⇑i=>cG (-ds) i*>λj=>ds[j]?
  |_=>()
 |_=>match Cm M a,b with
  |some ds,⇑i=>cG (-ds) i*>λj=>ds[j]?
  |_,_=>()
def _V:List D->Option Bool
 |[]=>↑true|.bl b::r=>_V r%(b&&·)|_::_=>()
def Wj(a:D)(T G:Option Int)(M:fc):Option D:=match a with
 |.WL Y=>↑(.WL (cH Y T G))|_=>gr M a%λY=>.vl (cH Y T G)
def Ye(Y:List (List Kx×D)):Bool:=Y.all λp=>match p.1 with
 |[.inl i,.inl j]=>decide (-1<=i)&&decide (i<9)&&decide (-1<=j)&&decide (j<9)|_=>false
def Yg(M:fc):D->WR D
 |↥n=>match M[n]? with
  |some (.WK ds)=>.ok ⇑(-ds) M|_=>.WY
 |.fz ds=>.ok ⇑(-ds) M|.WL ds=>.ok ⇑(-ds) M|.vl ds=>.ok ⇑(-ds) M|_=>.WY
def iN(M:fc):D->WR D
 |↥n=>match M[n]? with
  |some (.dT jo)=>if Ye jo then new (.dT jo) M else .WY
  |_=>.WY
 |_=>.WY
def qJ(bt bv T Y:Option Bool)(d:D):Option Bool:=match d with
 |.WL _=>bt|.vl _=>bv|⇑_=>T|.bl _=>Y|_=>()
def ez(bt bv T Y:Option Bool)(M:fc)(d:D):WR D:=WR.wg (qJ bt bv T Y d%D.bl) M
def two(Y:List D)(f:Int->Int->Int)(g:D->Option Int)(M:fc):WR D:=
 match Y with
 |[a,b]=>(match a,b with|⇑i,⇑j=>.ok ⇑(f i j) M|_,_=>.WY)
 |[d]=>WR.wg (g d%D.int) M|_=>.WY
def Om(Y:List D)(g:D->WR D):WR D:=
 match Y with
 |[d]=>g d|_=>.WY
def iO:D->Option Nat
 |.WL ds=>Yd ds%(-·)|_=>()
def Wk:List D->Option (List Nat)
 |[]=>some []
 |d::ds=>match iO d,Wk ds with
  |some k,↑ks=>↑(k::ks)|_,_=>()
def eB:D->Option (List Nat)
 |.WL ds=>Wk ds|_=>()
def gF(Y:List D)(M:fc):WR D:=match Y with
 |[]=>new (.Ui []) M
 |d::_=>match eB d with
  |some T=>if T≠[]/\(∀x∈Y,eB x\T)/\-Y<6000000 then new (.Ui Y) M else .WY
  |none=>.WY
def qu(b:bD)(Y:List D)(M:fc):WR D:=
 match b with
 |.len=>Om Y (Yg M)|.tuple=>Om Y λd=>WR.wg (Cm M d%D.WL) M
 |.max=>two Y (λi j=>if i<j then j else i) (λd=>(gr M d*>Yd)*>k9) M
 |.min=>two Y (λi j=>if j<i then j else i) (λ_=>()) M
 |.Ey=>Om Y λd=>WR.wg ((Cm M d*>Yd)*>λis=>if-(yz is)<31 then ↑(D.vl (YS (yz is)%D.int))else ()) M
 |.dict=>Om Y (iN M)|.all=>Om Y λd=>WR.wg ((gr M d*>_V)%D.bl) M
 |.isList=>Om Y (ez ↑false ↑true () () M)|._s=>Om Y (ez ↑true ↑false () () M)|._A=>Om Y (ez () () ↑false ↑true M)|._S=>Om Y (ez ↑true ↑true ↑false ↑false M)
 |.sorted=>Om Y λd=>match gr M d with
  |some T=>gF T M|none=>.WY
 |.rev=>Om Y λd=>WR.wg (gr M d%λT=>.vl T.reverse) M
 |.list=>Om Y λd=>match Cm M d with
  |some T=>new (.WK T) M|none=>.WY
def Oo(m:Bm)(x:D)(M:fc):Bool:=
 match m with
 |.get=>(match x with|↥n=>(match M[n]? with|some (.dK _)=>true|some (.dT _)=>true|_=>false)|_=>false)
 |.Py=>(match x with|.WL _=>true|_=>false)
 |_=>(gr M x).isSome
def cJ(o:D)(M:fc)(f:Nat->List D->WR D):WR D:=match o with
 |↥n=>match M[n]? with|some (.WK xs)=>f n xs|_=>.WY
 |_=>.WY
def gG(o k:D)(M:fc):Option (Option D):=match o with
 |↥n=>match M[n]? with
  |some (.dK jo)=>Z8 k%(Am jo)|some (.dT jo)=>Ut k%(Am jo)|_=>()
 |_=>()
def Kg(m:Bm)(o:D)(T:List D)(M:fc):WR D:=
 match m with
 |.append=>cJ o M λn Y=>Om T λd=>if -Y<6000000 then .ok .XQ (M.set n (.WK (Y++[d])))else .WY
 |.extend=>cJ o M λn Y=>Om T λy=>match y with
  |.vl ys=>if -Y+-ys<100000 then .ok .XQ (M.set n (.WK (Y++ys)))else .WY
  |_=>.WY
 |.index=>Om T λd=>WR.wg ((gr M o*>(b0 M d))%λ(j:Nat)=>D.int (j:Int)) M
 |.Py=>Om T λd=>match o with|.WL Y=>WR.wg (b0 M d Y%λ(j:Nat)=>D.int (j:Int)) M|_=>.WY
 |.get=>match T with
  |[k,d]=>WR.wg (gG o k M%(·.getD d)) M|_=>.WY
def Z2(o i v:D)(M:fc):Option fc:=
 match o with
 |↥n=>match M[n]? with
  |some (.WK xs)=>match i with
   |⇑j=>cG (-xs) j%λq=>M.set n (.WK (xs.set q v))
   |_=>()
  |some (.dT jo)=>Ut i*>λk=>if -jo<100000 then ↑(M.set n (.dT (Fw jo k v)))else ()
  |some (.dK jo)=>Z8 i*>λk=>if -jo<100000 then ↑(M.set n (.dK (Fw jo k v)))else ()
  |_=>()
 |_=>()
def Zd(f:Nat)(v:D):List (Nat×D)->List (Nat×D)
 |[]=>[(f,v)]|(g,x)::r=>if g=f then(g,v)::r else(g,x)::Zd f v r
def Wl(o:D)(f:Nat)(M:fc):Option D:=
 match o with
 |↥n=>match M[n]? with
  |some (.YW _ fs)=>fs/f|_=>()
 |_=>()
def Wm(o:D)(f:Nat)(v:D)(M:fc):Option fc:=
 match o with
 |↥n=>match M[n]? with
  |some (.YW c fs)=>if -fs<1000 then ↑(M.set n (.YW c (Zd f v fs)))else ()
  |_=>()
 |_=>()
inductive XN where
 |Ys (ds:List D)|live (n:Nat) (len:Nat)
def XN.len:XN->Nat
 |.Ys ds=>-ds|.live _ k=>k
def XN.item(s:XN)(i:Nat)(M:fc):Option D:=
 match s with
 |.Ys ds=>ds[i]?
 |.live n k=>match M[n]? with
  |some (.WK ds)=>if -ds=k then ds[i]? else ()
  |_=>()
def XN.fin(s:XN)(M:fc):Bool:=
 match s with
 |.Ys _=>true
 |.live n k=>match M[n]? with
  |some (.WK ds)=>-ds==k|_=>false
def YJ(M:fc)(d:D):Option XN:=
 match d with
 |.WL ds=>↑(.Ys ds)|.vl ds=>↑(.Ys ds)
 |↥n=>match M[n]? with
  |some (.WK ds)=>↑(.live n (-ds))|_=>()
 |_=>()
set_option genCtorIdx false
inductive Flow where
 |next|brk|cont|ret (d:D)
set_option genCtorIdx true
def Flow.ctorIdx(d:Flow):Nat:=d.casesOn 0 1 2 (λ_=>3)
def P0:List Nat->List D->Env->Env
 |i::is,d::ds,ρ=>P0 is ds (ρ.set i ↑d)|_,_,ρ=>ρ
def Tg.put(t:Tg)(d:D)(Y:Env):Option Env:=
 match t with
 |.name i=>↑(Y.set i ↑d)
 |.names is=>match d with
  |.WL ds=>if -ds=-is then ↑(P0 is ds Y)else ()
  |.vl ds=>if -ds=-is then ↑(P0 is ds Y)else ()
  |_=>()
def ZF(n:Nat)(M:fc):fc:=M.take n++'R' (-M-n) .gone
def fA(f:Env->fc->WR (Flow×Env))(i:Nat)(x:D)(T:Env)(k:Nat)(M:fc):WR (Flow×Env):=match x with
 |↥n=>match M[n]? with
  |some (.Ui ds)=>match f (T.set i ↑x) (M.set n (.WK ds))with
   |.ok (.ret d,_) M2=>@ite _ (∀Y:List D,-Y=-ds->(∀d∈Y,d∈ds)->∃G J,f (T.set i ↑x) (M.set n (.WK Y))=.ok (.ret d,G) J/\ZF k J=ZF k M2) (Classical.propDecidable _) (.ok (.ret d,T%λ_=>()) (ZF k M2)) .WY
   |_=>.WY
  |_=>.WY
 |_=>.WY
structure Kh where
 call:Nat->List D->fc->WR D
 cls:List Cl
def Fo(fin:fc->Bool)(item:Nat->fc->Option D)(Y:D->Env->fc->WR (Flow×Env)):Nat->Nat->Env->fc->WR (Flow×Env)
 |0,_,ρ,M=>if fin M then .ok (.next,ρ) M else .WY
 |k+1,i,ρ,M=>match item i M with
  |none=>.WY
  |some d=>Y d ρ M*>λr T=>match r.1 with
   |.next=>Fo fin item Y k (i+1) r.2 T|.cont=>Fo fin item Y k (i+1) r.2 T|.brk=>.ok (.next,r.2) T|.ret v=>.ok (.ret v,r.2) T
def Gz(fin:fc->Bool)(item:Nat->fc->Option D)(Y:D->fc->WR (Option D)):Nat->Nat->fc->WR (List D)
 |0,_,M=>if fin M then .ok [] M else .WY
 |k+1,i,M=>match item i M with
  |none=>.WY|some d=>Y d M*>λo J=>Gz fin item Y k (i+1) J*>λT G=>.ok (match o with|some x=>x::T|none=>T) G
def Bv(s:XN)(Y:D->fc->WR (Option D))(M:fc):WR (List D):=if s.len<=100000 then Gz s.fin s.item Y s.len 0 M else .WY
def Jh(c:Env->fc->WR D)(Y:Env->fc->WR (Flow×Env)):Nat->Env->fc->WR (Flow×Env)
 |0,_,_=>.WY
 |k+1,ρ,M=>c ρ M*>λb G=>match b with
  |.bl false=>.ok (.next,ρ) G
  |.bl true=>Y ρ G*>λr T=>match r.1 with
   |.next=>Jh c Y k r.2 T|.cont=>Jh c Y k r.2 T|.brk=>.ok (.next,r.2) T|.ret v=>.ok (.ret v,r.2) T
  |_=>.WY
def eC:Nat:=1000000
def fB:D->Option (List D)
 |.WL l=>↑l|.vl l=>↑l|_=>()
def Fl(Y:List (List D))(n:Nat):List D:='r' n%λi=>.WL (Y%λl=>l.getD i .XQ)
def Fp(Y:List D):Nat->List D:=λn=>Y.zipIdx n%λp=>D.WL [⇑p.2,p.1]
def eE:List D->Option (List (List D))
 |[]=>some []
 |d::r=>match fB d,eE r with
  |some l,↑ls=>↑(l::ls)|_,_=>()
def Yh(T:List D)(M:fc):WR XN:=match eE T with
 |some Y=>if(-Y=2\/-Y=3)/\∀l∈Y,-l=-Y.getLastD [] then .ok (.Ys (Fl Y (-Y.getLastD []))) M else .WY
 |none=>.WY
def qK(h:eE ds\ls)(T:-ls=2\/-ls=3)(Y:∀l∈ls,-l=-ls.getLastD []):Yh ds M=.ok (.Ys (Fl ls (-ls.getLastD []))) M:=by unfold Yh;rw[h];show dm (T,Y)
def iP(q:XN)(M:fc):WR XN:=match q with
 |.Ys ps=>.ok (.Ys (Fp ps 0)) M|_=>.WY
mutual
def Ex.WD(W:Kh):Ex->Env->fc->WR D
 |.ZD i,ρ,M=>match ρ[i]? with
  |some ↑d=>.ok d M|_=>.WY
 |.ZX d,_,M=>.ok d M|.YG op a b,ρ,M=>a.WD W ρ M*>λx Y=>b.WD W ρ Y*>λy T=>G6 op x y T
 |.neg a,ρ,M=>a.WD W ρ M*>λx Y=>match x with|⇑i=>.ok ⇑(Neg.neg i) Y|_=>.WY
 |.XX op a b,ρ,M=>a.WD W ρ M*>λx Y=>b.WD W ρ Y*>λy T=>WR.wg (Mp op x y T%D.bl) T
 |.ZG o1 o2 a b c,ρ,M=>a.WD W ρ M*>λx Y=>b.WD W ρ Y*>λy T=>WR.wg (Mp o1 x y T) T*>λq T=>if q then(c.WD W ρ T)*>λz B=>WR.wg (Mp o2 y z B%D.bl) B else .ok (.bl false) T
 |.and a b,ρ,M=>a.WD W ρ M*>λx Y=>match x with|.bl true=>b.WD W ρ Y|.bl false=>.ok (.bl false) Y|_=>.WY
 |.or a b,ρ,M=>a.WD W ρ M*>λx Y=>match x with|.bl true=>.ok (.bl true) Y|.bl false=>b.WD W ρ Y|_=>.WY
 |.not a,ρ,M=>a.WD W ρ M*>λx Y=>match x with|.bl b=>.ok (.bl !b) Y|_=>.WY
 |.ite c a b,ρ,M=>c.WD W ρ M*>λx Y=>match x with|.bl true=>a.WD W ρ Y|.bl false=>b.WD W ρ Y|_=>.WY
 |.WL es,ρ,M=>es.WD W ρ M*>λG Y=>.ok (.WL G) Y
 |.WK es,ρ,M=>es.WD W ρ M*>λG Y=>new (.WK G) Y
 |.Gk es,ρ,M=>es.WD W ρ M*>λG Y=>.ok (.vl G) Y
 |.dn,_,M=>new (.dT []) M|.dE,_,M=>new (.dK []) M|.ix a b,ρ,M=>a.WD W ρ M*>λx Y=>b.WD W ρ Y*>λy T=>WR.wg (Ax x y T) T
 |.cut a lo hi,ρ,M=>a.WD W ρ M*>λx Y=>lo.WD W ρ Y*>λl T=>hi.WD W ρ T*>λh B=>WR.wg (Wj x l h B) B
 |.call f es,ρ,M=>es.WD W ρ M*>λG Y=>W.call f G Y
 |._Q c es,ρ,M=>es.WD W ρ M*>λG Y=>match W.cls[c]? with
  |some C=>W.call C.init (↥(-Y)::G) (Y++[.YW c []])*>λr T=>match r with|.XQ=>.ok ↥(-Y) T|_=>.WY
  |none=>.WY
 |.meth o m,ρ,M=>o.WD W ρ M*>λx Y=>match x with
  |↥n=>match Y[n]? with
   |some (.YW c _)=>match(W.cls[c]?)*>λC=>C._a/m with
    |some f=>W.call f [↥n] Y|none=>.WY
   |_=>.WY
  |_=>.WY
 |.ZL o f,ρ,M=>o.WD W ρ M*>λx Y=>WR.wg (Wl x f Y) Y
 |.YC b es,ρ,M=>es.WD W ρ M*>λG Y=>qu b G Y
 |.bm m o es,ρ,M=>o.WD W ρ M*>λx Y=>if Oo m x Y then(es.WD W ρ Y)*>λG T=>Kg m x G T else .WY
 |.WN v k t it e,ρ,M=>it.WD W ρ M*>λs Y =>
  Bv s (λd M=>match t.put d (ρ++'R' k ())with
   |some J=>e.WD W J M*>λx O=>.ok ↑x O
   | none=>.WY) Y*>λG T=>if v then .ok (.vl G) T else new (.WK G) T
 |.Eo v k t it c e,ρ,M=>it.WD W ρ M*>λs Y =>
  Bv s (λd M=>match t.put d (ρ++'R' k ())with
   |some J=>c.WD W J M*>λb O=>match b with
    |.bl true=>e.WD W J O*>λx N=>.ok ↑x N
    |.bl false=>.ok () O|_=>.WY
   | none=>.WY) Y*>λG T=>if v then .ok (.vl G) T else new (.WK G) T
 |.dt a b,ρ,M=>a.WD W ρ M*>λx Y =>
  match(ZC Y x)*>Hi with
  |some L=>if Hj L then(b.WD W ρ Y)*>λy T =>
   match(ZC T y)*>Hi with
   |some E=>if Hj E then .ok (.bl !Mt L E) T else .WY
   |none=>.WY
   else .WY
  |none=>.WY
 |.dy e,ρ,M=>e.WD W ρ M*>λx Y=>match x with
  |⇑i=>if i.natAbs<=100000 then .ok (.WL ('r' i.toNat%'k')) Y else .WY
  |_=>.WY
 |.eA e,ρ,M=>e.WD W ρ M*>λx Y=>match x with
  |⇑i=>if i.natAbs<=100000 then new (.WK ('r' i.toNat%'k')) Y else .WY
  |_=>.WY
def Ha.WD(W:Kh):Ha->Env->fc->WR (List D)
 |.nil,_,M=>.ok [] M|.cons e es,ρ,M=>e.WD W ρ M*>λx T=>es.WD W ρ T*>λG Y=>.ok (x::G) Y
def ag.WD(W:Kh):ag->Env->fc->WR (Option Int)
 |.none,_,M=>.ok () M|.some e,ρ,M=>e.WD W ρ M*>λx Y=>match x with|⇑i=>.ok ↑i Y|_=>.WY
def Qz.WD(W:Kh):Qz->Env->fc->WR XN
 |.val e,ρ,M=>e.WD W ρ M*>λx Y=>WR.wg (YJ Y x) Y
 |.aK e,ρ,M=>e.WD W ρ M*>λx Y=>match x with
  |⇑i=>if i.natAbs<=100000 then .ok (.Ys ('r' i.toNat%'k')) Y else .WY
  |_=>.WY
 |.cU e,ρ,M=>e.WD W ρ M*>λx Y=>match x with
  |.WL T=>.ok (.Ys (Fp T 0)) Y|_=>.WY
 |.zip es,ρ,M=>es.WD W ρ M*>Yh|.eu es,ρ,M=>es.WD W ρ M*>λT Y=>Yh T Y*>iP
end
def Lv.put(W:Kh)(l:Lv)(d:D)(Y:Env)(M:fc):WR Env:=
 match l with
 |.tg t=>WR.wg (t.put d Y) M|.sub o i=>o.WD W Y M*>λx G=>i.WD W Y G*>λy T=>WR.wg (Z2 x y d T) T*>λJ _=>.ok Y J
 |.ZL o f=>o.WD W Y M*>λx G=>WR.wg (Wm x f d G) G*>λT _=>.ok Y T
mutual
def Ea.WD(W:Kh):Ea->Env->fc->WR (Flow×Env)
 |.asg l e,Y,M=>e.WD W Y M*>λx T=>l.put W x Y T*>λG J=>.ok (.next,G) J
 |._K e,Y,M=>e.WD W Y M*>λ_ T=>.ok (.next,Y) T
 |.iff c a b,Y,M=>c.WD W Y M*>λx T=>match x with|.bl true=>a.WD W Y T|.bl false=>b.WD W Y T|_=>.WY
 |.whl c b,Y,M=>Jh (c.WD W) (b.WD W) eC Y M
 | .YX t it b,Y,M=>it.WD W Y M*>λs T=>Fo s.fin s.item (λd Y M=>match t.put d Y with
  | some G=>b.WD W G M|none=>.WY) s.len 0 Y T
 |.ret e,Y,M=>e.WD W Y M*>λx T=>.ok (.ret x,Y) T
 |.brk,Y,M=>.ok (.brk,Y) M|.cont,Y,M=>.ok (.cont,Y) M|.ZV,_,_=>.WY|.all i e r,Y,M=>e.WD W Y M*>λx T=>fA (r.WD W) i x Y (-M) T
def nq.WD(W:Kh):nq->Env->fc->WR (Flow×Env)
 |.nil,ρ,M=>.ok (.next,ρ) M
 |.cons s r,ρ,M=>s.WD W ρ M*>λp Y=>match p.1 with
  |.next=>r.WD W p.2 Y|.brk=>.ok (.brk,p.2) Y|.cont=>.ok (.cont,p.2) Y|.ret d=>.ok (.ret d,p.2) Y
end
structure Prog where
 _C:List Fn
 cls:List Cl
def Fn.XM(W:Kh)(f:Fn)(Y:List D)(M:fc):WR D:=
 if -Y=f.np then
  (f.body.WD W (Y%some++'R' (f.ns-f.np) ()) M)*>λp T=>match p.1 with
   |.ret d=>.ok d T|.next=>.ok .XQ T|_=>.WY
 else .WY
def Prog.call(P:Prog):Nat->Nat->List D->fc->WR D
 |0,_,_,_=>.WY
 |n+1,f,ds,M=>match P._C[f]? with
  |some F=>F.XM (P.call n,P.cls) ds M|none=>.WY
@[simp] def qL(i:Nat):(Ex.ZD i).WD W Z M=match Z[i]? with|some ↑d=>.ok d M|_=>.WY:=rfl
@[simp high] theorem UD(d:D)(r:Env):(Ex.ZD 0).WD W (↑d::r) M=.ok d M:=rfl
@[simp high] theorem UE(Y:Option D)(d:D)(r:Env):(Ex.ZD 1).WD W (Y::↑d::r) M=.ok d M:=rfl
@[simp high] theorem UG(T Y:Option D)(d:D)(r:Env):(Ex.ZD 2).WD W (T::Y::↑d::r) M=.ok d M:=rfl
@[simp high] theorem UH(G Y T:Option D)(d:D)(r:Env):(Ex.ZD 3).WD W (G::Y::T::↑d::r) M=.ok d M:=rfl
@[simp high] theorem UI(J Y T G:Option D)(d:D)(r:Env):(Ex.ZD 4).WD W (J::Y::T::G::↑d::r) M=.ok d M:=rfl
@[simp high] theorem UJ(B G J T Y:Option D)(d:D)(r:Env):(Ex.ZD 5).WD W (B::G::J::T::Y::↑d::r) M=.ok d M:=rfl
@[simp high] theorem UK(O J B G Y T:Option D)(d:D)(r:Env):(Ex.ZD 6).WD W (O::J::B::G::Y::T::↑d::r) M=.ok d M:=rfl
@[simp high] theorem UL(C J O G Y T B:Option D)(d:D)(r:Env):(Ex.ZD 7).WD W (C::J::O::G::Y::T::B::↑d::r) M=.ok d M:=rfl
@[simp high] theorem UM(N J C G Y T B O:Option D)(d:D)(r:Env):(Ex.ZD 8).WD W (N::J::C::G::Y::T::B::O::↑d::r) M=.ok d M:=rfl
@[simp high] theorem UN(L B N J Y G O C T:Option D)(d:D)(r:Env):(Ex.ZD 9).WD W (L::B::N::J::Y::G::O::C::T::↑d::r) M=.ok d M:=rfl
@[simp high] theorem UO(E B L J Y G O N T C:Option D)(d:D)(r:Env):(Ex.ZD 10).WD W (E::B::L::J::Y::G::O::N::T::C::↑d::r) M=.ok d M:=rfl
@[simp high] theorem UP(P O E B T J C L G N Y:Option D)(d:D)(r:Env):(Ex.ZD 11).WD W (P::O::E::B::T::J::C::L::G::N::Y::↑d::r) M=.ok d M:=rfl
@[simp high] theorem UQ(R C P O G B N E J L T Y:Option D)(d:D)(r:Env):(Ex.ZD 12).WD W (R::C::P::O::G::B::N::E::J::L::T::Y::↑d::r) M=.ok d M:=rfl
@[simp] def iQ(d:D):(Ex.ZX d).WD W Z M=.ok d M:=rfl
@[simp] def BG(Y:bJ)(a b:Ex):(Ex.YG Y a b).WD W Z M=a.WD W Z M*>λx U=>b.WD W Z U*>λy M2=>G6 Y x y M2:=rfl
@[simp] def BH(a:Ex):(Ex.neg a).WD W Z M=a.WD W Z M*>λx U=>match x with|⇑i=>.ok ⇑(Neg.neg i) U|_=>.WY:=rfl
@[simp] def BI(Y:Cp)(a b:Ex):(Ex.XX Y a b).WD W Z M=a.WD W Z M*>λx U=>b.WD W Z U*>λy M2=>WR.wg (Mp Y x y M2%D.bl) M2:=rfl
@[simp] def BJ(T Y:Cp)(a b c:Ex):(Ex.ZG T Y a b c).WD W Z M=a.WD W Z M*>λx M1=>b.WD W Z M1*>λy M2=>WR.wg (Mp T x y M2) M2*>λq M2=>if q then(c.WD W Z M2)*>λz U=>WR.wg (Mp Y y z U%D.bl) U else .ok (.bl false) M2:=rfl
def qM(a b:Ex):(Ex.and a b).WD W Z M=a.WD W Z M*>λx U=>match x with|.bl true=>b.WD W Z U|.bl false=>.ok (.bl false) U|_=>.WY:=rfl
def qN(a b:Ex):(Ex.or a b).WD W Z M=a.WD W Z M*>λx U=>match x with|.bl true=>.ok (.bl true) U|.bl false=>b.WD W Z U|_=>.WY:=rfl
@[simp] def qO(a:Ex):(Ex.not a).WD W Z M=a.WD W Z M*>λx U=>match x with|.bl b=>.ok (.bl !b) U|_=>.WY:=rfl
def BK(c a b:Ex):(Ex.ite c a b).WD W Z M=c.WD W Z M*>λx U=>match x with|.bl true=>a.WD W Z U|.bl false=>b.WD W Z U|_=>.WY:=rfl
@[simp] def BL(Y:Ha):(Ex.WL Y).WD W U M=Y.WD W U M*>λZ M1=>.ok (.WL Z) M1:=rfl
@[simp] def BM(Y:Ha):(Ex.WK Y).WD W U M=Y.WD W U M*>λZ M1=>new (.WK Z) M1:=rfl
@[simp] def BN(Y:Ha):(Ex.Gk Y).WD W U M=Y.WD W U M*>λZ M1=>.ok (.vl Z) M1:=rfl
@[simp] def BO:Ex.dn.WD W Z M=new (.dT []) M:=rfl
@[simp] def BP:Ex.dE.WD W Z M=new (.dK []) M:=rfl
@[simp] def BQ(a b:Ex):(Ex.ix a b).WD W Z M=a.WD W Z M*>λx U=>b.WD W Z U*>λy M2=>WR.wg (Ax x y M2) M2:=rfl
@[simp] def BR(a:Ex)(T Y:ag):(Ex.cut a T Y).WD W Z M=a.WD W Z M*>λx M1=>T.WD W Z M1*>λl U=>Y.WD W Z U*>λh M3=>WR.wg (Wj x l h M3) M3:=rfl
@[simp] def BS(f:Nat)(Y:Ha):(Ex.call f Y).WD W U M=Y.WD W U M*>λZ M1=>W.call f Z M1:=rfl
@[simp] theorem qP{W:Kh}{T:Env}{M:fc}(c:Nat)(Y:Ha):(Ex._Q c Y).WD W T M=Y.WD W T M*>λU Z=>match W.cls[c]? with
 |some C=>W.call C.init (↥(-Z)::U) (Z++[.YW c []])*>λr G=>match r with|.XQ=>.ok ↥(-Z) G|_=>.WY
 |none=>.WY:=rfl
@[simp] theorem Wn{W:Kh}{Y:Env}{M:fc}(o:Ex)(m:Nat):(Ex.meth o m).WD W Y M=o.WD W Y M*>λx Z=>match x with
 |↥n=>match Z[n]? with
  |some (.YW c _)=>match(W.cls[c]?)*>λC=>C._a/m with
   |some f=>W.call f [↥n] Z|none=>.WY
  |_=>.WY
 |_=>.WY:=rfl
@[simp] def BU(o:Ex)(f:Nat):(Ex.ZL o f).WD W Z M=o.WD W Z M*>λx M1=>WR.wg (Wl x f M1) M1:=rfl
@[simp] def Qa(b:bD)(Y:Ha):(Ex.YC b Y).WD W U M=Y.WD W U M*>λZ M1=>qu b Z M1:=rfl
@[simp] def qQ(m:Bm)(o:Ex)(Y:Ha):(Ex.bm m o Y).WD W Z M=o.WD W Z M*>λx U=>if Oo m x U then(Y.WD W Z U)*>λds M2=>Kg m x ds M2 else .WY:=rfl
@[simp] theorem BV{W:Kh}{Y:Env}{M:fc}(e:Ex):(Ex.dy e).WD W Y M=e.WD W Y M*>λx Z=>match x with
 |⇑i=>if i.natAbs<=100000 then .ok (.WL ('r' i.toNat%'k')) Z else .WY
 |_=>.WY:=rfl
@[simp] theorem BW{W:Kh}{Y:Env}{M:fc}(e:Ex):(Ex.eA e).WD W Y M=e.WD W Y M*>λx Z=>match x with
 |⇑i=>if i.natAbs<=100000 then new (.WK ('r' i.toNat%'k')) Z else .WY
 |_=>.WY:=rfl
def Ru(v:Bool)(k:Nat)(t:Tg)(it:Qz)(e:Ex):(Ex.WN v k t it e).WD W ρ M=it.WD W ρ M*>λs M1 =>
 Bv s (λd M=>match t.put d (ρ++'R' k ())with
  |some Z=>e.WD W Z M*>λx M'=>.ok ↑x M'
  | none=>.WY) M1*>λU M2=>if v then .ok (.vl U) M2 else new (.WK U) M2:=rfl
def qR(v:Bool)(k:Nat)(t:Tg)(it:Qz)(c e:Ex):(Ex.Eo v k t it c e).WD W ρ M=it.WD W ρ M*>λs M1 =>
 Bv s (λd M=>match t.put d (ρ++'R' k ())with
  |some Z=>c.WD W Z M*>λb M'=>match b with
   |.bl true=>e.WD W Z M'*>λx U=>.ok ↑x U
   |.bl false=>.ok () M'|_=>.WY
  | none=>.WY) M1*>λds M2=>if v then .ok (.vl ds) M2 else new (.WK ds) M2:=rfl
@[simp] def Rv:Ha.nil.WD W Z M=.ok [] M:=rfl
@[simp] def Ij(e:Ex)(Y:Ha):(Ha.cons e Y).WD W Z M=e.WD W Z M*>λx M1=>Y.WD W Z M1*>λU M2=>.ok (x::U) M2:=rfl
@[simp] def BX:ag.none.WD W Z M=.ok () M:=rfl
@[simp] def BY(e:Ex):(ag.some e).WD W Z M=e.WD W Z M*>λx U=>match x with|⇑i=>.ok ↑i U|_=>.WY:=rfl
@[simp] def Mu(e:Ex):(Qz.val e).WD W Z M=e.WD W Z M*>λx M1=>WR.wg (YJ M1 x) M1:=rfl
@[simp] theorem Uj{W:Kh}{Y:Env}{M:fc}(e:Ex):(Qz.aK e).WD W Y M=e.WD W Y M*>λx Z=>match x with
 |⇑i=>if i.natAbs<=100000 then .ok (.Ys ('r' i.toNat%'k')) Z else .WY
 |_=>.WY:=rfl
@[simp] theorem qS{W:Kh}{Y:Env}{M:fc}(e:Ex):(Qz.cU e).WD W Y M=e.WD W Y M*>λx Z=>match x with
 |.WL ds=>.ok (.Ys (Fp ds 0)) Z|_=>.WY:=rfl
@[simp] def lE(Y:Ha):(Qz.zip Y).WD W Z M=Y.WD W Z M*>Yh:=rfl
@[simp] def iR(l:Lv)(e:Ex):(Ea.asg l e).WD W U M=e.WD W U M*>λx M1=>l.put W x U M1*>λZ M2=>.ok (.next,Z) M2:=rfl
@[simp] def BZ(e:Ex):(Ea._K e).WD W Z M=e.WD W Z M*>λ_ M1=>.ok (.next,Z) M1:=rfl
def Bi(c:Ex)(a b:nq):(Ea.iff c a b).WD W Z M=c.WD W Z M*>λx U=>match x with|.bl true=>a.WD W Z U|.bl false=>b.WD W Z U|_=>.WY:=rfl
@[simp] def Bn(e:Ex):(Ea.ret e).WD W Z M=e.WD W Z M*>λx M1=>.ok (.ret x,Z) M1:=rfl
@[simp] def Bz:Ea.brk.WD W Z M=.ok (.brk,Z) M:=rfl
@[simp] def B0:Ea.cont.WD W Z M=.ok (.cont,Z) M:=rfl
@[simp] def B1:Ea.ZV.WD W Z M=.WY:=rfl
def iS(c:Ex)(b:nq):(Ea.whl c b).WD W Z M=Jh (c.WD W) (b.WD W) eC Z M:=rfl
def Yi(t:Tg)(it:Qz)(b:nq):(Ea.YX t it b).WD W Z M=it.WD W Z M*>λs M1=>Fo s.fin s.item (λd Z M=>match t.put d Z with
 | some U=>b.WD W U M|none=>.WY) s.len 0 Z M1:=rfl
@[simp] def B2:nq.nil.WD W Z M=.ok (.next,Z) M:=rfl
theorem B3{W:Kh}{Y:Env}{M:fc}(s:Ea)(r:nq):(nq.cons s r).WD W Y M=s.WD W Y M*>λp M1=>match p.1 with
 |.next=>r.WD W p.2 M1|.brk=>.ok (.brk,p.2) M1|.cont=>.ok (.cont,p.2) M1|.ret d=>.ok (.ret d,p.2) M1:=rfl
def eF(W:Kh)(r:nq)(x:WR (Flow×Env)):WR (Flow×Env):=x*>λp Y=>match p.1 with
 |.next=>r.WD W p.2 Y|.brk=>.ok (.brk,p.2) Y|.cont=>.ok (.cont,p.2) Y|.ret d=>.ok (.ret d,p.2) Y
@[simp] def B4(s:Ea)(r:nq):(nq.cons s r).WD W Z M=eF W r (s.WD W Z M):=rfl
@[simp] def UR(r:nq):eF W r (.ok (.next,Z) M)=r.WD W Z M:=rfl
@[simp] def US(r:nq):eF W r (.ok (.brk,Z) M)=.ok (.brk,Z) M:=rfl
@[simp] def UT(r:nq):eF W r (.ok (.cont,Z) M)=.ok (.cont,Z) M:=rfl
@[simp] def UU(r:nq)(d:D):eF W r (.ok (.ret d,Z) M)=.ok (.ret d,Z) M:=rfl
def fC{α:Type}(a b:fc->WR α)(x:WR D):WR α:=x*>λx Y=>match x with|.bl true=>a Y|.bl false=>b Y|_=>.WY
@[simp] def B5(c:Ex)(a b:nq):(Ea.iff c a b).WD W Z M=fC (a.WD W Z) (b.WD W Z) (c.WD W Z M):=rfl
@[simp] def UW(c a b:Ex):(Ex.ite c a b).WD W Z M=fC (a.WD W Z) (b.WD W Z) (c.WD W Z M):=rfl
@[simp] def UX(a b:Ex):(Ex.and a b).WD W Z M=fC (b.WD W Z) (.ok (.bl false)) (a.WD W Z M):=rfl
@[simp] def UY(a b:Ex):(Ex.or a b).WD W Z M=fC (.ok (.bl true)) (b.WD W Z) (a.WD W Z M):=rfl
@[simp] def UZ(a b:fc->WR α):fC a b (.ok (.bl true) M)=a M:=rfl
@[simp] def U_(a b:fc->WR α):fC a b (.ok (.bl false) M)=b M:=rfl
theorem qT{W:Kh}{Y:Env}{M:fc}(a b:Ex):(Ex.dt a b).WD W Y M=a.WD W Y M*>λx Z =>
 match(ZC Z x)*>Hi with
 |some T=>if Hj T then(b.WD W Y Z)*>λy G =>
  match(ZC G y)*>Hi with
  |some J=>if Hj J then .ok (.bl !Mt T J) G else .WY
  |none=>.WY
  else .WY
 |none=>.WY:=rfl
@[simp] def qU(t:Tg)(d:D):(Lv.tg t).put W d Z M=WR.wg (t.put d Z) M:=rfl
@[simp] def B6(o i:Ex)(d:D):(Lv.sub o i).put W d Z M=o.WD W Z M*>λx M1=>i.WD W Z M1*>λy U=>WR.wg (Z2 x y d U) U*>λM3 _=>.ok Z M3:=rfl
@[simp] def B7(o:Ex)(f:Nat)(d:D):(Lv.ZL o f).put W d Z M=o.WD W Z M*>λx U=>WR.wg (Wm x f d U) U*>λM2 _=>.ok Z M2:=rfl
@[simp] def U2(i:Nat)(d:D):(Tg.name i).put d Z\(Z.set i ↑d):=rfl
@[simp] def VA(is:Y2)(Y:List D)(h:-Y=-is):(Tg.names is).put (.WL Y) Z\(P0 is Y Z):=by simp[Tg.put,h]
@[simp] def VB(i:Nat)(is:Y2)(d:D)(Y:List D):P0 (i::is) (d::Y) Z=P0 is Y (Z.set i ↑d):=rfl
@[simp] def VC(Y:List D):P0 [] Y ρ=ρ:=by cases Y<;>rfl
@[simp] def VD(i j:Int):G6 .XS ⇑i ⇑j M=.ok ⇑(i+j) M:=rfl
@[simp] def VE(i j:Int):G6 .sub ⇑i ⇑j M=.ok ⇑(i-j) M:=rfl
def Rx(i j:Int)(h:((Neg.neg (2^64):Int)<i/\i<2^64)\/((Neg.neg (2^64):Int)<j/\j<2^64)):G6 .mul ⇑i ⇑j M=.ok ⇑(i*j) M:=dm h
def qV(i j:Int)(h:0<j)(Y:j<1073741824):G6 .fdiv ⇑i ⇑j M=.ok ⇑(HDiv.hDiv i j) M:=dm (h,Y)
@[simp] def VF(i j:Int)(h:0<j):G6 ._l ⇑i ⇑j M=.ok ⇑(HMod.hMod i j) M:=dm h
@[simp] def VG:G6 .pow ⇑10 ⇑18 M=.ok ⇑(10^18) M:=by simp[G6,qI]
def Uk(xs ys:List D)(h:-xs+-ys<=100000):G6 .XS (.vl xs) (.vl ys) M=.ok (.vl (xs++ys)) M:=dm h
@[simp] def VH(i j:Int):Mp .lt ⇑i ⇑j M\(decide (i<j)):=rfl
@[simp] def VI(i j:Int):Mp .le ⇑i ⇑j M\(decide (i<=j)):=rfl
@[simp] def cmp_gt(i j:Int):Mp .gt ⇑i ⇑j M\(decide (j<i)):=rfl
@[simp] def VJ(i j:Int):Mp .ge ⇑i ⇑j M\(decide (j<=i)):=rfl
@[simp] def VL(a b:D):Mp .eq a b M=Bb M a b:=rfl
@[simp] def VM(a b:D):Mp .ne a b M=(Bb M a b).map not:=rfl
@[simp] def VN(a b:D):Mp .inn a b M=Nu M a b:=rfl
@[simp] def VO(a b:D):Mp .Uz a b M=(Nu M a b).map not:=rfl
def Wo(n:Nat)(i j:Int):Mm M (n+1) ⇑i ⇑j\(decide (i=j)):=rfl
def Fy(Y:f a b\x)(T:U0 f as bs\y):U0 f (a::as) (b::bs)\(x&&y):=by simp[U0,Y,T]
@[simp] def eq_int(i j:Int):Bb M ⇑i ⇑j\(decide (i=j)):=rfl
@[simp] def VP(i j:Bool):Bb M (.bl i) (.bl j)\(i==j):=rfl
@[simp] def B8(ds:List D):gr M (.vl ds)\ds:=rfl
@[simp] def VQ(ds:List D):Cm M (.vl ds)\ds:=rfl
@[simp] def VR(ds:List D):Cm M (.WL ds)\ds:=rfl
def ju(h:M[n]?\(.WK ds)):gr M ↥n\ds:=by simp[gr,h]
def Jo(h:gr M d\ds):Cm M d\ds:=by cases d<;>first|show h|(simp[gr]at h)
protected def Y_(h:gr M d\ds):qu .len [d] M=.ok ⇑(-ds) M:=by
 change Yg M d=_;cases d with
 |vl B=>simp[gr]at h;subst h;rfl
 |ref n =>
  erw[gr]at h;split at h<;>simp at h;rename_i B T;subst h;simp[Yg,T]
 |_=>simp[gr]at h
@[simp] def VS(d:D)(g:D->WR D):Om [d] g=g d:=rfl
@[simp] def VT(g:D->WR D):Om [] g=.WY:=rfl
@[simp] def VU(a b:D)(l:List D)(g:D->WR D):Om (a::b::l) g=.WY:=rfl
@[simp] def VV(i j:Int)(f:Int->Int->Int)(g:D->Option Int):two [⇑i,⇑j] f g M=.ok ⇑(f i j) M:=rfl
@[simp] def B9(d:D)(f:Int->Int->Int)(g:D->Option Int):two [d] f g M=WR.wg (g d%D.int) M:=rfl
@[simp] def VW(Y:List D):Yg M (.WL Y)=.ok ⇑(-Y) M:=rfl
@[simp] theorem VX{M:fc}(n:Nat):iN M ↥n=match M[n]? with
 |some (.dT jo)=>if Ye jo then new (.dT jo) M else .WY
 |_=>.WY:=rfl
def Wq:qu .len [.WL ds] M=.ok ⇑(-ds) M:=rfl
def Et(h:gr M d\ds)(J:0<=i)(B:ds[i.toNat]?\x):Ax d ⇑i M\x:=by
 let(G,Y):=ak<*B;let T:i< -ds:='a'
 cases d with
 |vl O=>simp[gr]at h;subst h;simp[Ax,Cm,cG,J,T,G,Y]
 |ref n =>
  erw[gr]at h;cases e:M[n]? with
  |none=>rw[e]at h;simp at h|some o=>rw[e]at h;cases o<;>simp at h<;>subst h<;>simp[Ax,gr,e,cG,J,T,G,Y]
 |_=>simp[gr]at h
def Ik(B:0<=i)(J:ds[i.toNat]?\x):Ax (.WL ds) ⇑i M\x:=by
 let(G,Y):=ak<*J;let T:i< -ds:='a'
 simp[Ax,Cm,cG,B,T,G,Y]
def CA(B:0<=i)(J:ds[i.toNat]?\x):Ax (.fz ds) ⇑i M\x:=by
 let(G,Y):=ak<*J;let T:i< -ds:='a'
 simp[Ax,cG,B,T,G,Y]
def qW:qu .len [.fz ds] M=.ok ⇑(-ds) M:=rfl
@[simp] def VY(x:D)(r:List D):Ax (.WL (x::r)) ⇑0 M\x:=Ik ⋯ rfl
@[simp] def VZ(x y:D)(r:List D):Ax (.WL (x::y::r)) ⇑1 M\y:=Ik ⋯ rfl
@[simp] def V_(x y z:D)(r:List D):Ax (.WL (x::y::z::r)) ⇑2 M\z:=Ik ⋯ rfl
def fD(h:M[n]?\(.dT Z))(Y:Ut b\k):Ax ↥n b M=Am Z k:=by simp[Ax,h,Y]
def qX(h:M[n]?\(.dT Z))(Y:Ut b\k):Nu M b ↥n\(Am Z k).isSome:=by simp[Nu,h,Y]
def qY(h:M[n]?\(.dK Z))(Y:Z8 b\k):Ax ↥n b M=Am Z k:=by simp[Ax,h,Y]
@[simp] def fF(i j:Int):Ut (.WL [⇑i,⇑j])=some [.inl i,.inl j]:=rfl
@[simp] def WA(i:Int):Z8 ⇑i\(.inl i):=rfl
def Gg(h:M[n]?\(.WK Z)):Oo .append ↥n M=true:=by simp[Oo,gr,h]
def lF(h:M[n]?\(.WK Z))(Y:-Z<6000000):Kg .append ↥n [d] M=.ok .XQ (M.set n (.WK (Z++[d]))):=by simp[Kg,cJ,h,Y]
def Gm(h:M[n]?\(.WK Z))(Y:-Z<100000):Kg .append ↥n [d] M=.ok .XQ (M.set n (.WK (Z++[d]))):=lF h (d_ Y ⋯)
def lG(h:M[n]?\(.WK Z))(T:0<=i)(Y:i< -Z):Z2 ↥n ⇑i d M\(M.set n (.WK (Z.set i.toNat d))):=by simp[Z2,h,cG,T,Y]
def qZ(h:M[n]?\(.dT Z))(T:Ut b\k)(Y:-Z<100000):Z2 ↥n b d M\(M.set n (.dT (Fw Z k d))):=by simp[Z2,h,T,Y]
def wu{M:fc}(h:M[a]?\o):a< -M:=(ak<*h).1
def m6{M:fc}(h:M[a]?\p):(M.set a o)[a]?\o:=by rw[Cu (wu h)]
def jw{M:fc}(h:b≠a):(M.set b o)[a]?=M[a]?:=ye h
def Af{M:fc}{a:Nat}(h:M[a]?\o):(M++X)[a]?\o:=by rw[gf (wu h)];show h
@[simp] def Ft{M:fc}:(M++[o])[M.length]?\o:='b'
theorem lH(x:Int):∀l,(insI x l).Perm (x::l)
 |[]=>Bp _
 |y::l=>by
  unfold insI;split
  .exact Bp _
  .exact((lH x l).cons y)>>(List.Perm.swap x y l)
theorem Il:∀l,(YS l).Perm l
 |[]=>Bp _|x::l=>lH x _>>((Il l).cons x)
theorem qf(x:Int):∀{l:X9},l.Pairwise (·<=·)->(insI x l).Pairwise (·<=·)
 |[],_=>Br _ _
 |y::l,h=>by
  let(T,G):=Aw<*h;unfold insI;split
  .refine Aw.mpr (λz Y=>?_,h)
   rcases dj<*Y with rfl|Y
   .lia
   .let:=T z Y;lia
  .refine Aw.mpr (λz Y=>?_,qf x G)
   rcases dj<*((lH x l).mem_iff<*Y)with rfl|Y
   .lia
   .exact T z Y
theorem lI:∀l,(YS l).Pairwise (·<=·)
 |[]=>List.Pairwise.nil|x::l=>qf x (lI l)
theorem Vq(k:Int):∀l,k∈yz l↔k∈l
 |[]=>Iff.rfl
 |x::l=>by
  unfold yz;split
  .rename_i h
   rw[Vq k l,dj];show(.inr,λz=>z.elim (λe=>e▸h) id)
  .rw[dj,dj,Vq k l]
theorem gH:∀l,(yz l).Nodup
 |[]=>Dw
 |x::l=>by
  unfold yz;split
  .exact gH l
  .rename_i h
   show vy.mpr (λz=>h (Vq x l<*z),gH l)
theorem iT:∀l,-yz l<=-l
 |[]=>bz _
 |x::l=>by
  let:=iT l;unfold yz;split<;>simp<;>omega
theorem qh:∀{a b:X9},a.Pairwise (·<=·)->b.Pairwise (·<=·)->a.Nodup->b.Nodup->(∀k,k∈a↔k∈b)->a=b
 |[],[],_,_,_,_,_=>rfl|[],y::b,_,_,_,_,h=>nomatch(h y).mpr dw|x::a,[],_,_,_,_,h=>nomatch(h x)<*dw
 |x::a,y::b,ha,hb,na,nb,h=>by
  let(O,C):=Aw<*ha;let(Y,T):=Aw<*hb;let(G,B):=vy<*na;let(N,J):=vy<*nb;let e:x=y:=by
   rcases dj<*(h x<*dw)with e|m
   .exact e
   .rcases dj.mp ((h y).mpr dw)with e|m'
    .exact e.symm
    .let:=Y x m;let:=O y m';lia
  subst e
  congr 1
  show qh C T B J λk=>(λm=>?_,λm=>?_)
  .rcases dj.mp (h k<*(bw _ m))with rfl|m'
   .exact absurd m G
   .exact m'
  .rcases dj.mp ((h k).mpr (bw _ m))with rfl|m'
   .exact absurd m N
   .exact m'
def lJ(T:ns.Pairwise (·<=·))(G:ns.Nodup)(Y:∀k,k∈l↔k∈ns):ns=YS (yz l):=
 qh T (lI _) G ((Il _).nodup_iff.mpr (gH l)) λk=>by rw[(Il _).mem_iff,Vq,Y]
abbrev Ex.xx(a b c:Ex):Ex:=.ix (.ix a b) c
abbrev Ex.tp(a:Ex):Ex:=.YC .tuple (.o a)
abbrev Ea.ap(a b:Ex):Ea:=._K (.bm .append a (.o b))
abbrev Ex.cp(n:Nat)(i:Qz)(e:Ex):Ex:=.WN true 1 (.name n) i e
abbrev Ea.fr(n:Nat)(e:Ex)(b:nq):Ea:=.YX (.name n) (.aK e) b
abbrev Ea.fv(n:Nat)(e:Ex)(b:nq):Ea:=.YX (.name n) (.val e) b
abbrev Ea.as(l:Y2)(e:Ex):Ea:=.asg (.tg (.names l)) e
abbrev Ea.pt(a b e:Ex):Ea:=.asg (.sub a b) e
abbrev Ex.k2(n:Nat)(a b:Ex):Ex:=.call n (.p a b)
abbrev Ex.k3(n:Nat)(a b c:Ex):Ex:=.call n (.q a b c)
abbrev Ex.t2(a b:Ex):Ex:=.WL (.p a b)
abbrev Ex.t3(a b c:Ex):Ex:=.WL (.q a b c)
end MW
namespace aL
open MW
abbrev V0:Ex:=.ZD 0
abbrev V1:Ex:=.ZD 1
abbrev V2:Ex:=.ZD 2
abbrev V3:Ex:=.ZD 3
abbrev V4:Ex:=.ZD 4
abbrev V5:Ex:=.ZD 5
abbrev V6:Ex:=.ZD 6
abbrev V7:Ex:=.ZD 7
abbrev V8:Ex:=.ZD 8
abbrev V9:Ex:=.ZD 9
abbrev aZ:Ex:=.ZD 10
abbrev cK:Ex:=.ZD 11
abbrev dF:Ex:=.ZD 12
abbrev bS:Ex:=.ZD 13
abbrev cA:Ex:=.ZD 19
abbrev I0:Ex:=.i 0
abbrev I1:Ex:=.i 1
abbrev I2:Ex:=.i 2
abbrev I3:Ex:=.i 3
noncomputable section
def Oq:nq:=.c (._K (.k2 9 V1 V2)) (.c (._K (.k2 10 V2 V3)) (.c (._K (.k2 11 V2 V3)) (.q (.asg (.ZL V0 2) V1) (.asg (.ZL V0 1) V2) (.asg (.ZL V0 0) (.YC .dict (.o V3))))))
def Ou:Fn:=(4,4,Oq)
def Ov:nq:=.o (.ret (.ZL V0 1))
def Dh:Fn:=(1,1,Ov)
def Mv:nq:=.q (.f (.XX .eq V1 (.i (-1))) (.o (.ret V2))) (.f (.XX .eq V2 (.i (-1))) (.o (.ret V1))) (.ret (.ix V0 (.t2 V1 V2)))
def Mw:Fn:=(3,3,Mv)
def Gd:nq:=.o (.f (.XX .eq (.ix V3 I1) (.ix V5 I0)) (.o (.ap V1 (.t2 V2 V4))))
def Mx:Ea:=.YX (.names [4,5]) (.cU V0) Gd
def My:nq:=.o Mx
def Mz:Ea:=.YX (.names [2,3]) (.cU V0) My
def Q0:nq:=.q (.a 1 (.WK .z)) Mz (.ret V1)
def Q3:Fn:=(1,6,Q0)
def Im:nq:=.p (.f (.XX .eq V1 (.i (-1))) (.o (.ret (.XX .eq V2 V3)))) (.ret (.and (.ZG .le .lt I0 V1 (.l V0)) (.XX .eq (.ix V0 V1) (.t2 V2 V3))))
def Ip:Fn:=(4,4,Im)
def Ow:nq:=.o (.f (.not (.and (.ZG .le .lt I0 (.ix V2 I0) V0) (.ZG .le .lt I0 (.ix V2 I1) V0))) (.o .ZV))
def Ox:Ea:=.fv 2 V1 Ow
def Ry:nq:=.q (.f (.not (.ZG .le .le I1 V0 I3)) (.o .ZV)) (.f (.XX .gt (.l V1) (.i 5)) (.o .ZV)) Ox
def Rz:Fn:=(2,3,Ry)
def Q4:nq:=.o (.f (.not (.call 8 (.c V0 (.q (.ix V1 (.t2 V3 V4)) (.xx V0 V3 I0) (.xx V0 V4 I1))))) (.o .ZV))
def Q5:Ea:=.YX (.names [3,4]) (.val V2) Q4
def U3:nq:=.q (.a 2 (.call 7 (.o V0))) (.f (.dt V1 V2) (.o .ZV)) Q5
def U4:Fn:=(2,5,U3)
def Ir:nq:=.c (.f (.XX .Uz (.t2 V4 V5) V1) (.o .cont)) (.q (.a 6 (.k3 6 V1 (.ix V1 (.t2 V3 V4)) V5)) (.a 7 (.k3 6 V1 V3 (.ix V1 (.t2 V4 V5)))) (.f (.XX .ne V6 V7) (.o .ZV)))
def Oz:Ea:=.fr 5 (.l V0) Ir
def O1:nq:=.o Oz
def O2:Ea:=.YX (.names [3,4]) (.val V2) O1
def R8:nq:=.p (.a 2 (.call 7 (.o V0))) O2
def R9:Fn:=(2,8,R8)
def Kw:nq:=.p (.f (.XX .lt V1 (.l V0)) (.o (.ret (.ix V0 V1)))) (.ret I0)
def Ky:Fn:=(2,2,Kw)
def Qc:nq:=.q (.a 2 (.k2 12 V0 V1)) (.f (.XX .ge V2 (.YG .pow (.i 10) (.i 18))) (.o (.ret (.WK (.p (.YG .sub V2 (.YG .pow (.i 10) (.i 18))) (.ZX (.bl true))))))) (.ret (.WK (.p (.YG ._l V2 (.i 2147483647)) (.ZX (.bl false)))))
def Qd:Fn:=(2,3,Qc)
def Sd:nq:=.c (.f (.ix V0 I1) (.q (.a 2 (.YG ._l (.ix V0 I0) V1)) (.pt V0 I0 (.YG .fdiv (.ix V0 I0) V1)) (.ret V2))) (.c (.pt V0 I0 (.YG ._l (.YG .XS (.YG .mul (.ix V0 I0) (.i 48271)) (.i 29)) (.i 2147483647))) (.q (.a 3 (.YG ._l (.YG .XS (.YG .XS (.YG .mul (.ix V0 I0) (.ix V0 I0)) (.YG .mul (.i 39373) (.ix V0 I0))) (.i 7)) (.i 2147483629))) (.a 3 (.YG ._l (.YG .XS (.YG .mul V3 V3) (.YG .mul (.i 16807) V3)) (.i 2147483587))) (.ret (.YG ._l (.YG .fdiv V3 (.i 8)) V1))))
def Sh:Fn:=(2,4,Sd)
def Kz:Ex:=.cp 12 (.aK (.ix V7 aZ)) (.k2 14 V0 (.ix V7 cK))
def Hk:nq:=.q (.a 10 (.k2 14 V0 V6)) (.a 11 (.k2 14 V0 V6)) (.ap V8 (.t3 aZ cK (.tp Kz)))
def K1:Ea:=.fr 9 (.k2 14 V0 (.i 4)) Hk
def K3:Ex:=.cp 12 (.aK V6) (.YG .XS I1 (.k2 14 V0 I3))
def Qe:nq:=.c (.a 1 (.k2 14 V0 (.i 12))) (.c (.f (.XX .lt V1 (.i 7)) (.c (.a 2 (.Gk (.p (.t3 I0 I1 (.t2 I0 I1)) (.t3 I0 I1 (.t2 I1 I0))))) (.c (.a 3 (.Gk (.q (.t3 I0 I1 (.WL (.c I0 (.q I0 I1 I1)))) (.t3 I0 I1 (.WL (.c I0 (.q I1 I0 I1)))) (.t3 I1 I0 (.t2 I0 I3))))) (.q (.a 4 (.Gk (.o (.t3 I0 I0 (.t2 I1 I0))))) (.a 5 (.Gk (.c V2 (.c V3 (.c V4 (.c (.Gk (.o (.t3 I0 I0 (.t3 I1 I2 I0)))) (.q (.Gk (.o (.t3 I0 I0 (.t2 I0 I0)))) (.Gk .z) (.Gk (.p (.t3 I0 I1 (.t2 I0 I1)) (.t3 I1 I2 (.t3 I0 I0 I1))))))))))) (.ret (.ix V5 V1)))))) (.c (.a 6 (.YG .XS I1 (.k2 14 V0 I3))) (.c (.a 7 K3) (.q (.a 8 (.WK .z)) K1 (.ret V8)))))
def Gp:Fn:=(1,12,Qe)
def Jr:Ex:=.cp 10 (.val (.ix V7 I2)) (.xx V8 I2 aZ)
def Fz:nq:=.c (.a 4 (.WL .z)) (.q (.f (.XX .eq (.ix V7 I1) (.ix V8 I0)) (.o (.a 4 (.tp Jr)))) (.a 9 (.t3 (.ix V7 I0) (.ix V8 I1) V4)) (.f (.and (.XX .ne V4 (.WL .z)) (.and (.XX .Uz V9 V1) (.or (.XX .ne (.ix V9 I0) (.ix V9 I1)) (.XX .ne V4 (.dy (.l V4)))))) (.o (.ap V1 V9))))
def Js:Ea:=.YX (.names [7,8]) (.val (.Gk (.p (.t2 (.ix V1 V5) (.ix V1 V6)) (.t2 (.ix V1 V6) (.ix V1 V5))))) Fz
def Jt:nq:=.o Js
def Ju:Ea:=.fr 6 (.l V1) Jt
def Q6:nq:=.p Ju (.a 5 (.YG .XS V5 I1))
def Jv:Ea:=.whl (.and (.XX .lt V5 (.l V1)) (.XX .lt (.l V1) (.i 6))) Q6
def Cq:nq:=.o (.f (.and (.or (.XX .ne V2 V3) (.XX .ne V4 (.dy (.l V4)))) (.XX .Uz (.t3 V2 V3 V4) V1)) (.o (.ap V1 (.t3 V2 V3 V4))))
def Jw:Ea:=.YX (.names [2,3,4]) (.val V0) Cq
def U5:nq:=.c (.a 1 (.WK .z)) (.c Jw (.q (.a 5 I0) Jv (.ret V1)))
def U6:Fn:=(1,10,U5)
def Iu:Ex:=.WN true 3 (.names [8,9,10]) (.val V2) (.t2 V8 V9)
def Iw:Ex:=.cp 8 (.val (.xx V2 V5 I2)) (.xx (.ix V2 V6) I2 V8)
def Fb:nq:=.o (.f (.XX .eq (.xx V2 V5 I1) (.xx V2 V6 I0)) (.p (.a 7 (.t3 (.xx V2 V5 I0) (.xx V2 V6 I1) (.tp Iw))) (.pt V4 (.t2 V5 V6) (.ite (.XX .inn V7 V2) (.bm .index V2 (.o V7)) (.neg I1)))))
def O3:Ea:=.fr 6 (.l V2) Fb
def O4:nq:=.o O3
def Gq:Ea:=.fr 5 (.l V2) O4
def Iz:Ex:=.WN true 3 (.names [8,9,10]) (.val V2) (.YC .max (.p V8 V9))
def O5:nq:=.p (.a 1 (.cut V1 .none (.some (.neg I1)))) (.a 2 (.call 16 (.o V1)))
def Ja:Ea:=.whl (.XX .gt (.l V2) (.i 5)) O5
def Sq:nq:=.c (.a 1 (.call 15 (.o V0))) (.c (.a 2 (.call 16 (.o V1))) (.c Ja (.c (.a 3 (.YG .XS I1 (.YC .max (.o (.YG .XS Iz (.Gk (.o I0))))))) (.c (.f (.XX .eq V2 (.Gk .z)) (.o (.a 3 (.YG .XS I1 (.k2 14 V0 I3))))) (.q (.a 4 .dn) Gq (.ret (.t3 V3 (.tp Iu) V4)))))))
def Ss:Fn:=(1,8,Sq)
def Nv:Ex:=.Eo true 1 (.name 2) (.aK (.l (.ix V0 I1))) (.XX .eq (.xx (.ix V0 I1) V2 I0) V1) V2
def Ze:nq:=.o (.ret (.YG .XS (.Gk (.o (.neg I1))) Nv))
def Zf:Fn:=(2,2,Ze)
def Qf:nq:=.o (.ret (.ite (.XX .lt V2 I0) V1 (.xx (.ix V0 I1) V2 I1)))
def Qg:Fn:=(3,3,Qf)
def Ji:nq:=.p (.f (.or (.XX .lt V1 I0) (.XX .lt V2 I0)) (.o (.ret (.YG .XS (.YG .XS V1 V2) I1)))) (.ret (.xx V0 I2 (.t2 V1 V2)))
def Jj:Fn:=(3,3,Ji)
def Yj:nq:=.o (.ret (.and (.k2 23 V1 V2) (.k3 24 V0 V1 V2)))
def Yk:Fn:=(3,3,Yj)
def K4:Ex:=.cp 4 (.val V2) (.ZG .le .lt I0 V4 V3)
def Hl:nq:=.p (.f (.XX .ne (.YC .list (.o V2)) (.YC .Ey (.o V2))) (.o (.ret (.ZX (.bl false))))) (.f (.not (.YC .all (.o K4))) (.o (.ret (.ZX (.bl false)))))
def Su:Ea:=.YX (.names [2,3]) (.zip (.p V1 (.ix V0 I0))) Hl
def Kl:nq:=.q (.f (.XX .ne (.l V1) (.l (.ix V0 I0))) (.o (.ret (.ZX (.bl false))))) Su (.ret (.ZX (.bl true)))
def Km:Fn:=(2,4,Kl)
def Jb:Ex:=.cp 6 (.val (.ix V2 (.ix V4 I0))) (.XX .inn (.ix V3 V6) V5)
def Jc:nq:=.p (.a 5 (.call 38 (.o (.ix V2 (.ix V4 I1))))) (.f (.not (.YC .all (.o Jb))) (.o (.ret (.ZX (.bl false)))))
def O6:Ea:=.YX (.names [3,4]) (.zip (.p (.ix V1 I1) (.meth V0 0))) Jc
def K5:nq:=.p O6 (.ret (.ZX (.bl true)))
def K6:Fn:=(3,6,K5)
def Sv:Ex:=.cp 8 (.val V2) (.l V8)
def Sw:Ex:=.cp 8 (.val (.ix V2 (.ix V5 I0))) (.ix V6 (.ix V4 V8))
def Sx:nq:=.p (.a 6 (.call 38 (.o (.ix V2 (.ix V5 I1))))) (.ap V3 (.tp Sw))
def Sy:Ea:=.YX (.names [4,5]) (.zip (.p (.ix V1 I1) (.meth V0 0))) Sx
def Wr:nq:=.c (.a 3 (.WK .z)) (.q Sy (.a 7 (.tp Sv)) (.ret (.t2 (.t2 V7 (.tp V3)) V2)))
def Ws:Fn:=(3,8,Wr)
def Q7:Ex:=.cp 13 (.val (.ix V1 V6)) (.ite (.XX .eq bS dF) cK bS)
def Hb:nq:=.c (.a 9 (.xx V1 V5 V8)) (.q (.a 10 (.xx V1 V6 (.xx V2 V4 V8))) (.f (.XX .ne (.bm .get V7 (.p V9 aZ)) aZ) (.c (.a 11 (.YC .min (.p (.ix V7 V9) aZ))) (.c (.a 12 (.YC .max (.p (.ix V7 V9) aZ))) (.c (.pt V1 V6 Q7) (.q (.a 3 (.ZX (.bl true))) (.a 7 .dE) .brk))))) (.pt V7 V9 aZ))
def Jx:Ea:=.fr 8 (.l (.ix V1 V5)) Hb
def Jy:nq:=.q (.as [5,6] (.xx V0 I1 V4)) (.a 7 .dE) Jx
def Jz:Ea:=.fr 4 (.l (.ix V0 I1)) Jy
def J0:nq:=.p (.a 3 (.ZX (.bl false))) Jz
def J1:Ea:=.whl V3 J0
def U7:nq:=.q (.a 3 (.ZX (.bl true))) J1 (.ret V1)
def U8:Fn:=(3,13,U7)
def K7:Ex:=.cp 19 (.val (.v 16)) (.l cA)
def K8:Ex:=.cp 19 (.val (.v 18)) (.bm .index (.ix (.v 16) dF) (.o cA))
def K9:Ex:=.cp 19 (.val (.ix (.v 16) cK)) (.xx bS dF (.xx V9 aZ cA))
def Lb:nq:=.q (.as [11,12] (.xx V1 I1 aZ)) (.a 18 K9) (.ap (.v 17) (.tp K8))
def Ld:Ea:=.fr 10 (.l (.ix V1 I1)) Lb
def Lf:Ex:=.cp 19 (.val bS) (.YC .Ey (.o cA))
def S8:Ex:=.cp 19 (.val (.ix bS V5)) (.ite (.XX .eq cA (.v 15)) (.v 14) cA)
def Hm:nq:=.c (.a 5 (.k2 14 V0 (.ix V1 I0))) (.q (.a 11 (.k2 14 V0 (.i 7))) (.a 12 (.k2 14 V0 (.i 7))) (.f (.XX .lt (.YC .max (.p cK dF)) (.l (.ix bS V5))) (.c (.a 14 (.YC .min (.p (.xx bS V5 cK) (.xx bS V5 dF)))) (.q (.a 15 (.YC .max (.p (.xx bS V5 cK) (.xx bS V5 dF)))) (.pt bS V5 S8) (.a 13 (.k3 26 V1 bS V9))))))
def Lg:Ea:=.fr 10 (.k2 14 V0 (.i 4)) Hm
def Lh:Ex:=.WN false 1 (.name 19) (.val V3) (.eA (.l cA))
def Li:Ex:=.WN true 3 (.names [19,20,21]) (.val (.ix V3 cK)) (.bm .index (.ix V3 dF) (.o (.t3 cA (.v 20) (.k3 20 V1 (.v 21) aZ))))
def Tc:nq:=.p (.as [11,12] (.xx V1 I1 aZ)) (.ap V9 Li)
def Lj:Ea:=.fr 10 (.l (.ix V1 I1)) Tc
def Ln:Ex:=.cp 19 (.val V3) (.l cA)
def Lp:nq:=.o (.ap (.ix V3 V7) (.t3 V4 V5 V8))
def Lq:Ea:=.YX (.names [7,8]) (.val V6) Lp
def Lr:Ex:=.cp 19 (.val (.k2 18 V1 V5)) (.t2 (.k3 19 V1 V5 cA) cA)
def Hn:nq:=.q (.a 5 (.k2 14 V0 (.ix V1 I0))) (.a 6 Lr) (.f (.XX .lt (.YG .XS (.YC .max (.o Ln)) (.l V6)) (.i 8)) (.o Lq))
def Ls:Ea:=.fr 4 (.k2 14 V0 (.YG .XS V2 I1)) Hn
def Q8:Ex:=.cp 19 (.aK (.ix V1 I0)) (.WK .z)
def Wt:nq:=.c (.a 3 Q8) (.c Ls (.c (.a 9 (.WK .z)) (.c Lj (.c (.a 13 Lh) (.c Lg (.c (.a 16 Lf) (.q (.a 17 (.WK .z)) Ld (.ret (.t2 (.tp K7) (.tp (.v 17)))))))))))
def Wu:Fn:=(3,19,Wt)
def Vr:nq:=.p (.f (.XX .lt V2 I0) (.o (.ret V1))) (.ret (.xx (.ix V0 I1) V2 V1))
def Vs:Fn:=(3,3,Vr)
def Ho:nq:=.c (.a 8 (.t2 (.k3 19 V0 (.ix V4 I0) V7) (.k3 28 V1 (.ix V4 I1) V7))) (.q (.a 9 (.k3 28 V2 V5 V7)) (.f (.XX .ne (.bm .get V6 (.p V8 V9)) V9) (.o (.ret (.ZX .XQ)))) (.pt V6 V8 V9))
def Hq:Ea:=.fv 7 (.k2 18 V0 (.ix V4 I0)) Ho
def Qh:nq:=.q (.a 6 (.YC .dict (.o V3))) Hq (.ret V6)
def Qi:Fn:=(6,10,Qh)
def Q9:Ex:=.Eo true 1 (.name 6) (.val V4) (.XX .Uz V6 V2) V6
def Ra:Ex:=.Eo true 1 (.name 6) (.val V4) (.XX .inn V6 V2) V6
def J2:Ex:=.cp 6 (.aK (.xx V1 I0 V5)) (.t2 V5 V6)
def Rb:nq:=.o (._K (.bm .extend V4 (.o J2)))
def J5:Ea:=.fr 5 (.ix V0 I0) Rb
def J6:Ex:=.cp 6 (.val (.xx V1 I1 V3)) (.t2 (.xx (.ix V0 I1) V3 I1) V6)
def Rc:nq:=.o (._K (.bm .extend V2 (.o J6)))
def J7:Ea:=.fr 3 (.l (.ix V0 I1)) Rc
def U9:nq:=.c (.a 2 (.WK .z)) (.c J7 (.q (.a 4 (.WK .z)) J5 (.ret (.YG .XS Q9 Ra))))
def Va:Fn:=(2,6,U9)
def Nx:Ex:=.cp 12 (.aK (.xx V1 I0 cK)) (.ix V6 (.t2 cK dF))
def Vb:nq:=.o (.ap aZ (.tp Nx))
def Vc:Ea:=.fr 11 (.ix V0 I0) Vb
def Ny:nq:=.q (.a 10 (.WK .z)) Vc (.ap V9 (.tp aZ))
def Ve:Ea:=.fv 6 V3 Ny
def Nz:nq:=.p (.a 8 (.call 29 (.c V0 (.c V1 (.c V2 (.q V6 V4 V7)))))) (.f (.XX .Wi V8 (.ZX .XQ)) (.o (.ap V5 V8)))
def N5:Ea:=.fr 7 (.xx V2 I0 (.ix V4 I0)) Nz
def N6:nq:=.o (.iff (.XX .inn V4 V6) (.o (.ap V5 V6)) (.o N5))
def Vf:Ea:=.fv 6 V3 N6
def N7:nq:=.q (.a 5 (.WK .z)) Vf (.a 3 V5)
def Vg:Ea:=.fv 4 (.k2 30 V0 V1) N7
def Zg:nq:=.c (.a 3 (.Gk (.o .dn))) (.c Vg (.q (.a 9 (.WK .z)) Ve (.ret (.YC .sorted (.o V9)))))
def Zh:Fn:=(3,12,Zg)
def Wv:Ex:=.cp 7 (.val V2) (.l V7)
def Ww:Ex:=.cp 7 (.val (.ix V2 V5)) (.bm .Py (.ix V2 V6) (.o (.xx (.ix V1 I1) V4 V7)))
def Wx:nq:=.p (.as [5,6] (.xx V0 I1 V4)) (.ap V3 (.tp Ww))
def Wy:Ea:=.fr 4 (.l (.ix V0 I1)) Wx
def qo:nq:=.q (.a 3 (.WK .z)) Wy (.ret (.t2 (.tp Wv) (.tp V3)))
def qr:Fn:=(3,7,qo)
def Td:nq:=.p (.f (.XX .eq (.l V1) I0) (.o (.ret (.ZX .XQ)))) (.ret (.ix V1 (.k2 14 V0 (.l V1))))
def Te:Fn:=(2,2,Td)
def N8:Ex:=.WN true 2 (.names [2,3]) (.zip (.p V0 V1)) (.k2 34 V2 V3)
def M9:nq:=.p (.f (.YC ._S (.o V1)) (.q (.f (.or (.XX .ne (.YC ._s (.o V0)) (.YC ._s (.o V1))) (.XX .ne (.YC .isList (.o V0)) (.YC .isList (.o V1)))) (.o (.ret (.ZX (.bl false))))) (.f (.XX .ne (.l V0) (.l V1)) (.o (.ret (.ZX (.bl false))))) (.ret (.YC .all (.o N8))))) (.ret (.and (.XX .eq V0 V1) (.XX .eq (.YC ._A (.o V0)) (.YC ._A (.o V1)))))
def Nf:Fn:=(2,2,M9)
def Yl:nq:=.o (.f (.XX .Uz (.k3 28 V1 V5 V6) (.ix V2 (.k3 19 V0 V3 V6))) (.o (.ret (.ZX (.bl false)))))
def O7:Ea:=.fv 6 (.k2 18 V0 V3) Yl
def Ym:nq:=.o O7
def O8:Ea:=.fv 5 (.ix V2 V3) Ym
def Yn:nq:=.o O8
def Jd:Ea:=.fr 3 (.ix V0 I0) Yn
def Yo:nq:=.o (.f (.or (.not (.ZG .le .lt I0 (.xx V2 V3 V4) (.xx V1 I0 V3))) (.and (.XX .gt V4 I0) (.XX .ge (.xx V2 V3 (.YG .sub V4 I1)) (.xx V2 V3 V4)))) (.o (.ret (.ZX (.bl false)))))
def O9:Ea:=.fr 4 (.l (.ix V2 V3)) Yo
def Yp:nq:=.o O9
def Je:Ea:=.fr 3 (.ix V0 I0) Yp
def Gh:nq:=.c (.f (.XX .ne (.l V2) (.ix V0 I0)) (.o (.ret (.ZX (.bl false))))) (.q Je Jd (.ret (.ZX (.bl true))))
def Gi:Fn:=(3,7,Gh)
def G3:Ex:=.Eo true 1 (.name 10) (.aK (.xx V3 I0 V9)) (.XX .inn aZ (.ix V5 V9)) aZ
def G4:Ex:=.Eo true 1 (.name 10) (.aK (.xx V2 I0 V9)) (.XX .eq (.xx V5 V9 aZ) (.xx V6 V9 aZ)) aZ
def Kc:nq:=.p (.ap V7 (.tp G4)) (.ap V8 (.tp G3))
def G5:Ea:=.fr 9 (.ix V1 I0) Kc
def Eb:nq:=.c (.a 5 (.k2 33 V0 V4)) (.c (.a 6 (.k2 33 V0 V4)) (.c (.f (.XX .is V5 (.ZX .XQ)) (.o (.ret (.ZX (.bl true))))) (.c (.a 7 (.WK .z)) (.q (.a 8 (.WK .z)) G5 (.ret (.k2 34 (.Gk (.p (.k2 39 V5 V6) (.call 41 (.o V5)))) (.Gk (.p (.tp V7) (.tp V8)))))))))
def Ng:nq:=.o (.all 4 (.k3 31 V1 V2 V3) Eb)
def Nh:Fn:=(4,10,Ng)
def lK:nq:=.c (.a 7 (.k3 42 V1 V2 V6)) (.c (.a 8 (.call 43 (.c V1 (.q V2 V6 V7)))) (.q (.f (.XX .Wi (.k3 22 V3 V6 V7) (.ZX (.bl true))) (.o (.ret (.ZX (.bl false))))) (.f (.not (.k2 34 (.k3 22 V3 V6 V8) (.k3 35 V2 V6 V8))) (.o (.ret (.ZX (.bl false))))) (.f (.not (.k2 34 (.k3 25 V3 V6 V7) (.t2 (.k3 32 V2 V6 V7) V7))) (.o (.ret (.ZX (.bl false)))))))
def qt:Ea:=.fv 6 V4 lK
def rA:nq:=.o qt
def rC:Ea:=.fr 5 (.i 4) rA
def rE:nq:=.c (.a 1 (.k2 13 V0 I0)) (.c (.a 2 (.call 17 (.o V1))) (.c (.a 3 (._Q 2 (.q (.ix V2 I0) (.ix V2 I1) (.YC .dict (.o (.ix V2 I2)))))) (.q (.a 4 (.Gk (.p (.k3 27 V1 V2 I3) (.k3 27 V1 V2 I3)))) rC (.ret (.and (.call 36 (.c V1 (.q V2 (.ix V4 I0) (.ix V4 I1)))) (.call 36 (.c V1 (.q V2 (.ix V4 I1) (.ix V4 I0)))))))))
def lL:Fn:=(1,9,rE)
def Wz:nq:=.o (.pt V1 V3 V2)
def W0:Ea:=.YX (.names [2,3]) (.cU V0) Wz
def rF:nq:=.q (.a 1 .dE) W0 (.ret V1)
def rG:Fn:=(1,4,rF)
def Lw:Ex:=.WN true 2 (.names [2,3]) (.zip (.p V0 V1)) (.k2 40 V2 V3)
def W2:nq:=.o (.ret (.tp Lw))
def W3:Fn:=(2,2,W2)
def Oa:Ex:=.Eo true 2 (.names [2,3]) (.eu (.p V0 V1)) (.XX .eq (.ix V3 I0) (.ix V3 I1)) V2
def Zi:nq:=.o (.ret (.tp Oa))
def Zj:Fn:=(2,2,Zi)
def Yq:Ex:=.cp 1 (.val V0) (.tp (.YC .Ey (.o V1)))
def rH:nq:=.o (.ret (.tp Yq))
def rJ:Fn:=(1,1,rH)
def Lx:Ex:=.cp 8 (.val V3) (.tp (.YC .Ey (.o V8)))
def Tf:nq:=.o (.ap (.ix V3 (.k3 19 V1 V5 V7)) (.k3 28 V2 V6 V7))
def Ly:Ea:=.fv 7 (.k2 18 V1 V5) Tf
def Lz:nq:=.q (.a 5 (.k2 14 V0 (.ix V1 I0))) (.a 6 (.k2 14 V0 (.i 8))) (.f (.XX .lt V6 (.xx V2 I0 V5)) (.o Ly))
def Th:Ea:=.fr 4 (.k2 14 V0 (.i 4)) Lz
def Ti:Ex:=.cp 8 (.aK (.ix V1 I0)) (.WK .z)
def W4:nq:=.q (.a 3 Ti) Th (.ret (.tp Lx))
def W5:Fn:=(3,8,W4)
def Ob:Ex:=.cp 9 (.aK I3) (.YG .sub (.k2 14 V0 (.i 9)) I1)
def Jk:Ex:=.Eo true 1 (.name 9) (.val V5) (.XX .ne V9 V7) V9
def Zk:nq:=.c (.a 4 (.k2 14 V0 (.ix V1 I0))) (.c (.a 5 (.YC .list (.o (.ix V3 V4)))) (.c (.a 6 (.k2 14 V0 (.i 9))) (.c (.a 7 (.k2 14 V0 (.YC .max (.p I1 (.xx V2 I0 V4))))) (.c (.a 8 (.Gk (.c (.YC .Ey (.o (.YG .XS V5 (.Gk (.o V7))))) (.q Jk (.YG .XS V5 (.Gk (.o V7))) (.YC .rev (.o V5)))))) (.c (.a 8 (.YG .XS V8 (.Gk (.q (.YG .XS (.Gk (.o (.YG .sub (.neg I1) V7))) V5) (.YG .XS V5 (.Gk (.o (.YG .XS (.xx V2 I0 V4) V7)))) Ob)))) (.q (.f (.XX .eq V6 (.i 7)) (.o (.ret (.cut V3 .none (.some (.neg I1)))))) (.f (.XX .eq V6 (.i 8)) (.o (.ret (.YG .XS V3 (.WL (.o (.WL .z))))))) (.ret (.YG .XS (.YG .XS (.cut V3 .none (.some V4)) (.WL (.o (.tp (.ix V8 V6))))) (.cut V3 (.some (.YG .XS V4 I1)) .none)))))))))
def Tj:Fn:=(4,9,Zk)
def prog:Prog:=([Ou,Dh,Dh,Dh,Dh,Dh,Mw,Q3,Ip,Rz,U4,R9,Ky,Qd,Sh,Gp,U6,Ss,Zf,Qg,Jj,Dh,Yk,Km,K6,Ws,U8,Wu,Vs,Qi,Va,Zh,qr,Te,Nf,Gi,Nh,lL,rG,W3,Zj,rJ,W5,Tj],[(0,[]),(0,[]),(0,[(0,2)])])
end
end aL
namespace MW
theorem lM{fin:fc->Bool}{item:Nat->fc->Option D}{T:D->Env->fc->WR (Flow×Env)}(I:Nat->Env->fc->Prop){n:Nat}
 (XF:∀i Y M,i<n->I i Y M->∃d fl Z U,item i M\d/\T d Y M=.ok (fl,Z) U/\(fl=.next\/fl=.cont)/\I (i+1) Z U) (B:∀Y M,I n Y M->fin M=true) :
 ∀(k i:Nat)(Y:Env)(M:fc),i+k=n->I i Y M->∃Z U,Fo fin item T k i Y M=.ok (.next,Z) U/\I n Z U
 |0,i,Y,M,e,h=>by
  let q:i=n:='a'
  rw[q]at h;show{2,Y,M,by simp[Fo,B Y M h],h}
 |k+1,i,Y,M,e,h=>by
  let(d,fl,J,L,R,N,P,S):=XF i Y M 'a' h;let(G,C,O,E):=lM I XF B k (i+1) J L 'a' S;show{2,G,C,?_,E};rcases P with rfl|rfl<;>simp[Fo,R,N,O]
def iU(I:Nat->Env->fc->Prop)(T:I 0 U M)(XF:∀i d U M,ds[i]?\d->I i U M->∃fl Z M',body d U M=.ok (fl,Z) M'/\(fl=.next\/fl=.cont)/\I (i+1) Z M') :
 ∃Z M',Fo (XN.Ys ds).fin (XN.Ys ds).item body (XN.Ys ds).len 0 U M=.ok (.next,Z) M'/\I (-ds) Z M':=by
 show lM I (λi U M Y h=>?_) (λ_ _ _=>rfl) (-ds) 0 U M (xd _) T;let(fl,Z,M',a,b,c):=XF i ds[i] U M (by simp[Y]) h;show{4,ds[i],fl,Z,M',by simp[XN.item,Y],a,b,c}
def lN(I:Nat->Env->fc->Prop)(G:I 0 ρ M)(XF:∀i ρ M,i<n->I i ρ M->∃U Z M',body ⇑i ρ M=.ok (U,Z) M'/\(U=.next\/U=.cont)/\I (i+1) Z M') :
 ∃Z M',Fo (XN.Ys ('r' n%'k')).fin (XN.Ys ('r' n%'k')).item body (XN.Ys ('r' n%'k')).len 0 ρ M=.ok (.next,Z) M'/\I n Z M':=by
 let:=iU (ds:='r' n%'k') (body:=body) I G (λi d ρ M Y h=>by
  let T:i<n:=by let:=(ak<*Y).1;simpa using this
  rw[ie,yo T]at Y;let Y:D.int (i:Int)=d:='s' Y
  subst Y;show XF i ρ M T h)
 simpa using this
def CB(I:Nat->Env->fc->Prop)(T:I 0 U M)(ZQ:∀i U M,I i U M->M[p]?\(.WK ds))(XF:∀i d U M,ds[i]?\d->I i U M->∃fl Z M',body d U M=.ok (fl,Z) M'/\(fl=.next\/fl=.cont)/\I (i+1) Z M') :
 ∃Z M',Fo (XN.live p (-ds)).fin (XN.live p (-ds)).item body (XN.live p (-ds)).len 0 U M=.ok (.next,Z) M'/\I (-ds) Z M':=by
 show lM I (λi U M Y h=>?_) (λU M h=>by simp[XN.fin,ZQ _ U M h]) (-ds) 0 U M (xd _) T;let(fl,Z,M',a,b,c):=XF i ds[i] U M (by simp[Y]) h;show{4,ds[i],fl,Z,M',by simp[XN.item,ZQ i U M h,Y],a,b,c}
theorem Jp{fin:fc->Bool}{item:Nat->fc->Option D}{body:D->fc->WR (Option D)}(I:Nat->List D->fc->Prop){n:Nat}
 (XF:∀i Y M,i<n->I i Y M->∃d o Z,item i M\d/\body d M=.ok o Z/\I (i+1) (Y++o.toList) Z) (T:∀Y M,I n Y M->fin M=true) :
 ∀(k i:Nat)(Y:List D)(M:fc),i+k=n->I i Y M->∃U Z,Gz fin item body k i M=.ok U Z/\I n (Y++U) Z
 |0,i,Y,M,e,h=>by
  let q:i=n:='a'
  rw[q]at h;show{2,[],M,by simp[Gz,T Y M h],'s' h}
 |k+1,i,Y,M,e,h=>by
  let(d,o,G,L,O,N):=XF i Y M 'a' h;let(U,B,J,C):=Jp I XF T k (i+1) (Y++o.toList) G 'a' N;show{2,o.toList++U,B,?_,by rw[<-yj];show C};cases o<;>simp[Gz,L,O,J]
def Yr{s:XN}{ds:List D}(O:s.fin M=true)(N:s.len=-ds)(C:∀i,i< -ds->s.item i M=ds[i]?)(h:∀d∈ds,body d M=.ok (g d) M) :
 Gz s.fin s.item body s.len 0 M=.ok (ds.filterMap g) M:=by
 let(E,Y,e,L,J):=Jp (fin:=s.fin) (item:=s.item) (body:=body) (λi G Y=>Y=M/\G=(ds.take i).filterMap g) (n:=-ds) (λi G Y T B=>by
  let(rfl,rfl):=B;show{3,ds[i],g ds[i],Y,by rw[C i T];simp[T],h _ (j9 T),rfl,?_};rw[zr,List.filterMap_append];simp[T];cases e:g ds[i]<;>simp[e]) (λG Y h=>by rw[h.1];show O) (-ds) 0 [] M (xd _) (rfl,rfl)
 rw[N,e,L];simp at J;rw[J]
def CC(h:∀d∈ds,body d M=.ok ↑(g d) M) :
 Gz (XN.Ys ds).fin (XN.Ys ds).item body (XN.Ys ds).len 0 M=.ok (ds%g) M:=by
 rw[Yr (s:=.Ys ds) (ds:=ds) (g:=λd=>↑(g d)) rfl rfl (λi _=>rfl) h,List.filterMap_eq_map']
theorem Ul{c:Env->fc->WR D}{T:Env->fc->WR (Flow×Env)}(I:Nat->Env->fc->Prop)(O:Env->fc->Prop)
 (XF:∀m Y M,I m Y M->(∃U,c Y M=.ok (.bl false) U/\O Y U) \/
  ∃U fl Z M2 m',c Y M=.ok (.bl true) U/\T Y U=.ok (fl,Z) M2/\(fl=.next\/fl=.cont)/\m'<m/\I m' Z M2) :
 ∀(k m:Nat)(Y:Env)(M:fc),m<k->I m Y M->∃Z M',Jh c T k Y M=.ok (.next,Z) M'/\O Z M'
 |0,m,_,_,h,_=>absurd h (vz _)
 |k+1,m,Y,M,h,hI=>by
  rcases XF m Y M hI with⟨U,J,C⟩|⟨U,fl,B,M2,m',J,C,L,P,S⟩
  .exact{2,Y,U,by simp[Jh,J],C}
  .let(G,E,R,N):=Ul I O XF k m' B M2 (b_ P (z_ h)) S
   show{2,G,E,?_,N};rcases L with rfl|rfl<;>simp[Jh,J,C,R]
def xj(M Y:fc):Prop:=∀(a:Nat)(o:MO),M[a]?\o->Y[a]?\o
def xj.refl(M:fc):xj M M:=λ_ _ h=>h
def xj.trans(a:xj M Z)(b:xj Z M2):xj M M2:=λx o h=>b x o (a x o h)
def xj.ZP(M X:fc):xj M (M++X):=λ_ _ h=>Af h
def xj.len(k:xj M Z):-M<=-Z:=by
 rcases Nat.eq_zero_or_pos (-M) with h|h
 .exact a_ (f_ h) (iw _)
 .let:=wu (k (-M-1) M[-M-1] 'b')
  lia
theorem xj.gr(k:xj M Z)(h:gr M d\ds):MW.gr Z d\ds:=by
 cases d with
 |vl Y=>show h
 |ref n =>
  erw[MW.gr]at h⊢;cases e:M[n]? with
  |none=>rw[e]at h;simp at h|some o=>rw[e]at h;rw[k n o e];show h
 |_=>simp[MW.gr]at h
def rK(I:Nat->Env->fc->Prop)(Y:gr M d\ds)(G:I 0 ρ M)(ZQ:∀i ρ M,I i ρ M->gr M d\ds)(XF:∀i x ρ M,ds[i]?\x->I i ρ M->∃U Z M',body x ρ M=.ok (U,Z) M'/\(U=.next\/U=.cont)/\I (i+1) Z M') :
 ∃s,YJ M d\s/\∃Z M',Fo s.fin s.item body s.len 0 ρ M=.ok (.next,Z) M'/\I (-ds) Z M':=by
 cases d with
 |vl T=>simp[gr]at Y;subst Y;show{1,_,rfl,iU I G XF}
 |ref n =>
  cases e:M[n]? with
  |none=>simp[gr,e]at Y
  |some o =>
   cases o with
   |WK T =>
    simp[gr,e]at Y;subst Y;show{1,.live n (-T),by simp[YJ,e],CB I G (λi ρ M h=>?_) XF};let:=ZQ i ρ M h;erw[gr]at this;split at this<;>simp_all
   |_=>simp[gr,e]at Y
 |_=>simp[gr]at Y
def rL(Y:-ds<=100000)(h:∀d∈ds,body d M=.ok ↑(g d) M):Bv (.Ys ds) body M=.ok (ds%g) M:=by rw[Bv,dm (show(XN.Ys ds).len<=100000 from Y)];show CC h
def rN(Y:-ds<=100000)(h:∀d∈ds,body d M=.ok (g d) M):Bv (.Ys ds) body M=.ok (ds.filterMap g) M:=by rw[Bv,dm (show(XN.Ys ds).len<=100000 from Y)];show Yr (s:=.Ys ds) rfl rfl (λ_ _=>rfl) h
def Tn(Y:gr M d\ds)(G:-ds<=100000)(h:∀x∈ds,body x M=.ok (g x) M) :
 ∃s,YJ M d\s/\Bv s body M=.ok (ds.filterMap g) M:=by
 cases d with
 |vl T=>simp[gr]at Y;subst Y;show(_,rfl,rN G h)
 |ref n =>
  cases e:M[n]? with
  |none=>simp[gr,e]at Y
  |some o =>
   cases o with
   |WK T =>
    simp[gr,e]at Y;subst Y;show(.live n (-T),by simp[YJ,e],by rw[Bv,dm (show(XN.live n (-T)).len<=100000 from G)];show Yr (s:=.live n (-T)) (by simp[XN.fin,e]) rfl (λi _=>by simp[XN.item,e]) h)
   |_=>simp[gr,e]at Y
 |_=>simp[gr]at Y
def Pa(v:Bool)(k:Nat)(t:Tg)(it:Qz)(e:Ex):(Ex.WN v k t it e).WD W U M=it.WD W U M*>λs M1 =>
 Bv s (λd M=>WR.wg (t.put d (U++'R' k ())) M*>λZ M=>e.WD W Z M*>λx M'=>.ok ↑x M') M1*>λds M2=>if v then .ok (.vl ds) M2 else new (.WK ds) M2:=by
 rw[Ru]
 congr 1;funext s M1;congr 2;funext d M
 cases t.put d (U++'R' k ())<;>rfl
def Ni(v:Bool)(k:Nat)(t:Tg)(it:Qz)(c e:Ex):(Ex.Eo v k t it c e).WD W U M=it.WD W U M*>λs M1 =>
 Bv s (λd M=>WR.wg (t.put d (U++'R' k ())) M*>λZ M=>c.WD W Z M*>λb M' =>
  match b with
   |.bl true=>e.WD W Z M'*>λx qq=>.ok ↑x qq
   | .bl false=>.ok () M'|_=>.WY) M1*>λds M2=>if v then .ok (.vl ds) M2 else new (.WK ds) M2:=by
 rw[qR]
 congr 1;funext s M1;congr 2;funext d M
 cases t.put d (U++'R' k ())<;>rfl
def Um(t:Tg)(it:Qz)(b:nq):(Ea.YX t it b).WD W Z M=it.WD W Z M*>λs M1=>Fo s.fin s.item (λd Z M=>WR.wg (t.put d Z) M*>λU M=>b.WD W U M) s.len 0 Z M1:=by
 rw[Yi]
 congr 1;funext s M1;congr 1;funext d Z M
 cases t.put d Z<;>rfl
def zf{W:Kh}{n:Nat}(G:S=Ea.YX t (.aK it) b)(Y:it.WD W ρ M=.ok ⇑(n:Int) M1)(O:n<=100000)(I:Nat->Env->fc->Prop)(B:I 0 ρ M1)(XF:∀i ρ M,i<n->I i ρ M->∃U fl Z M',t.put ⇑i ρ\U/\b.WD W U M=.ok (fl,Z) M'/\(fl=.next\/fl=.cont)/\I (i+1) Z M') :
 ∃Z M',S.WD W ρ M=.ok (.next,Z) M'/\I n Z M':=by
 subst G;rw[Um,Uj,Y];let J:((n:Int)).natAbs<=100000:='a'
 erw[WR.Di,J,my,vg];show lN I B (λi ρ M T h=>by
  let(U,fl,Z,M',a,b,c,d):=XF i ρ M T h;show{3,fl,Z,M',by rw[a];show b,c,d})
def Fv{W:Kh}(J:S=Ea.YX t (.val it) b)(Y:it.WD W ρ M=.ok d M1)(T:gr M1 d\ds)(I:Nat->Env->fc->Prop)(C:I 0 ρ M1)(ZQ:∀i ρ M,I i ρ M->gr M d\ds)(XF:∀i x ρ M,ds[i]?\x->I i ρ M->∃U fl Z M',t.put x ρ\U/\b.WD W U M=.ok (fl,Z) M'/\(fl=.next\/fl=.cont)/\I (i+1) Z M') :
 ∃Z M',S.WD W ρ M=.ok (.next,Z) M'/\I (-ds) Z M':=by
 subst J;rw[Um,Mu,Y];let(s,B,G):=rK (body:=λd ρ M=>WR.wg (t.put d ρ) M*>λZ M=>b.WD W Z M) I T C ZQ (λi x ρ M O h=>by
  let(U,fl,Z,M',a,b,c,d):=XF i x ρ M O h;show{3,fl,Z,M',by rw[a];show b,c,d})
 erw[WR.Di,B,WR.Fq];show G
def CD{W:Kh}(T:S=Ea.YX t (.val it) b)(Y:it.WD W ρ M=.ok (.WL ds) M1)(I:Nat->Env->fc->Prop)(J:I 0 ρ M1)(XF:∀i x ρ M,ds[i]?\x->I i ρ M->∃U fl Z M',t.put x ρ\U/\b.WD W U M=.ok (fl,Z) M'/\(fl=.next\/fl=.cont)/\I (i+1) Z M') :
 ∃Z M',S.WD W ρ M=.ok (.next,Z) M'/\I (-ds) Z M':=by
 subst T;rw[Um,Mu,Y];show iU I J (λi x ρ M G h=>by
  let(U,fl,Z,M',a,b,c,d):=XF i x ρ M G h;show{3,fl,Z,M',by rw[a];show b,c,d})
def Tp{W:Kh}(B:S=Ea.YX t (.cU it) b)(T:it.WD W ρ M=.ok (.WL ds) M1)(I:Nat->Env->fc->Prop)(O:I 0 ρ M1)(XF:∀i x ρ M,ds[i]?\x->I i ρ M->∃U fl Z M',t.put (.WL [⇑i,x]) ρ\U/\b.WD W U M=.ok (fl,Z) M'/\(fl=.next\/fl=.cont)/\I (i+1) Z M') :
 ∃Z M',S.WD W ρ M=.ok (.next,Z) M'/\I (-ds) Z M':=by
 subst B;rw[Um,qS,T];let:=iU (ds:=Fp ds 0) (body:=λd ρ M=>WR.wg (t.put d ρ) M*>λZ M=>b.WD W Z M) I O (λi x ρ M J h=>by
  let Y:i< -ds:=by let:=(ak<*J).1;simpa[Fp]using this
  let G:x=.WL [⇑i,ds[i]]:=by simp[Fp,Y]at J;show J.symm
  subst G;let(U,fl,Z,M',a,b,c,d):=XF i ds[i] ρ M (by simp[Y]) h;show{3,fl,Z,M',by rw[a];show b,c,d})
 let e:-(Fp ds 0)=-ds:=by simp[Fp]
 rw[e]at this;show this
def Eg(Y:it.WD W U M=.ok d M1)(J:gr M1 d\ds)(O:-ds<=100000)(h:∀x∈ds,∃Z,t.put x (U++'R' k ())\Z/\e.WD W Z M1=.ok (g x) M1) :
 (Ex.WN v k t (.val it) e).WD W U M=if v then .ok (.vl (ds%g)) M1 else new (.WK (ds%g)) M1:=by
 rw[Pa,Mu,Y];let(s,C,B):=Tn (g:=λx=>↑(g x)) (body:=λd M=>WR.wg (t.put d (U++'R' k ())) M*>λT M=>e.WD W T M*>λx G=>.ok ↑x G) J O (λx N=>by
  let(Z,a,b):=h x N;rw[a];simp[b])
 erw[WR.Di,C,WR.Fq,B,List.filterMap_eq_map']
def Gu(Y:it.WD W ρ M=.ok (.WL ds) M1)(B:-ds<=100000)(h:∀x∈ds,∃Z,t.put x (ρ++'R' k ())\Z/\e.WD W Z M1=.ok (g x) M1) :
 (Ex.WN v k t (.val it) e).WD W ρ M=if v then .ok (.vl (ds%g)) M1 else new (.WK (ds%g)) M1:=by
 rw[Pa,Mu,Y];let J:=rL (g:=g) (M:=M1) (body:=λd M=>WR.wg (t.put d (ρ++'R' k ())) M*>λT M=>e.WD W T M*>λx G=>.ok ↑x G) B (λx O=>by
  let(Z,a,b):=h x O;rw[a];simp[b])
 change(Bv (.Ys ds) _ M1)*>_=_;rw[J];rfl
def Ma(Y:it.WD W U M=.ok ⇑(n:Int) M1)(J:n<=100000)(h:∀i,i<n->∃Z,t.put ⇑i (U++'R' k ())\Z/\c.WD W Z M1=.ok (.bl (q i)) M1/\(q i=true->e.WD W Z M1=.ok (g i) M1)) :
 (Ex.Eo v k t (.aK it) c e).WD W U M=if v then .ok (.vl (('r' n).filter q%g)) M1 else new (.WK (('r' n).filter q%g)) M1:=by
 rw[Ni,Uj,Y];let B:((n:Int)).natAbs<=100000:='a'
 erw[WR.Di,B,my,vg];rw[rN (ds:='r' n%'k') (g:=λd=>match d with|⇑i=>if q i.toNat then ↑(g i.toNat)else ()|_=>()) ('s' J) (λx O=>by
  let(i,G,rfl):=bu<*O;let(Z,a,b,c):=h i (jg<*G);rw[a,WR.Fq,WR.Di,b,WR.Di];cases e:q i with
  | true=>simp[e,c e]|false=>simp[e])]
 let:(('r' n%'k').filterMap λd=>match d with|⇑i=>if q i.toNat then ↑(g i.toNat)else ()|_=>())=('r' n).filter q%g:=by
  rw[List.filterMap_map]
  induction 'r' n with
  |nil=>rfl|cons a l T=>by_cases e:q a=true<;>simp[e,T]
 rw[this];rfl
theorem rO{fin:fc->Bool}{item:Nat->fc->Option D}{body:D->Env->fc->WR (Flow×Env)}(I:Nat->Env->fc->Prop)(G:Env->fc->Prop){n:Nat}
 (XF:∀i Y M,i<n->I i Y M->∃d fl Z U,item i M\d/\body d Y M=.ok (fl,Z) U/\(((fl=.next\/fl=.cont)/\I (i+1) Z U)\/(fl=.brk/\G Z U))) (B:∀Y M,I n Y M->fin M=true/\G Y M) :
 ∀(k i:Nat)(Y:Env)(M:fc),i+k=n->I i Y M->∃Z U,Fo fin item body k i Y M=.ok (.next,Z) U/\G Z U
 |0,i,Y,M,e,h=>by
  let q:i=n:='a'
  rw[q]at h;show{2,Y,M,by simp[Fo,(B Y M h).1],(B Y M h).2}
 |k+1,i,Y,M,e,h=>by
  obtain⟨d,fl,T,C,L,N,⟨S,O⟩|⟨rfl,O⟩⟩:=XF i Y M 'a' h
  .let(J,P,E,R):=rO I G XF B k (i+1) T C 'a' O
   show{2,J,P,?_,R};rcases S with rfl|rfl<;>simp[Fo,L,N,E]
  .exact{2,T,C,by simp[Fo,L,N],O}
def CF{W:Kh}{n:Nat}(B:S=Ea.YX t (.aK it) b)(T:it.WD W U M=.ok ⇑(n:Int) M1)(L:n<=100000)(I:Nat->Env->fc->Prop)(Y:Env->fc->Prop)(N:I 0 U M1)(J:∀U M,I n U M->Y U M)(XF:∀i U M,i<n->I i U M->∃qq fl Z M',t.put ⇑i U\qq/\b.WD W qq M=.ok (fl,Z) M'/\(((fl=.next\/fl=.cont)/\I (i+1) Z M')\/(fl=.brk/\Y Z M'))) :
 ∃Z M',S.WD W U M=.ok (.next,Z) M'/\Y Z M':=by
 subst B;rw[Um,Uj,T];let C:((n:Int)).natAbs<=100000:='a'
 erw[WR.Di,C,my,vg];let(Z,M',e,h):=rO (fin:=(XN.Ys ('r' n%'k')).fin) (item:=(XN.Ys ('r' n%'k')).item) (body:=λd U M=>WR.wg (t.put d U) M*>λZ M=>b.WD W Z M) I Y (n:=n) (λi U M G h=>by
  let(qq,fl,Z,M',a,b,c):=XF i U M G h;show{4,⇑i,fl,Z,M',by simp[XN.item,G],by rw[a];show b,c}) (λU M h=>(rfl,J U M h)) n 0 U M1 (xd _) N
 let O:(XN.Ys ('r' n%'k')).len=n:=by simp[XN.len]
 rw[O];show{2,Z,M',e,h}
def W6(Y:it.WD W ρ M=.ok ⇑(n:Int) M1)(J:n<=100000)(I:Nat->List D->fc->Prop)(C:I 0 [] M1)(XF:∀i xs M,i<n->I i xs M->∃Z x M',t.put ⇑i (ρ++'R' k ())\Z/\e.WD W Z M=.ok x M'/\I (i+1) (xs++[x]) M') :
 ∃U M',(Ex.WN v k t (.aK it) e).WD W ρ M=(if v then .ok (.vl U) M' else new (.WK U) M')/\I n U M':=by
 rw[Pa,Uj,Y];let O:((n:Int)).natAbs<=100000:='a'
 erw[WR.Di,O,my,vg];let(U,M',g,h):=Jp (fin:=(XN.Ys ('r' n%'k')).fin) (item:=(XN.Ys ('r' n%'k')).item) (body:=λd M=>WR.wg (t.put d (ρ++'R' k ())) M*>λT M=>e.WD W T M*>λx M'=>.ok ↑x M') I (n:=n) (λi xs M G h=>by
  let(Z,x,M',a,b,c):=XF i xs M G h;show{3,⇑i,↑x,M',by simp[XN.item,G],by rw[a];simp[b],'s' c}) (λ_ _ _=>rfl) n 0 [] M1 (xd _) C
 let B:(XN.Ys ('r' n%'k')).len=n:=by simp[XN.len]
 show{2,U,M',?_,'s' h};rw[Bv,B,dm J,g];rfl
protected def Oc(B:it.WD W ρ M=.ok d M1)(T:gr M1 d\ds)(P:-ds<=100000)(I:Nat->List D->fc->Prop)(H:I 0 [] M1)(ZQ:∀i Z M,I i Z M->gr M d\ds)(XF:∀i y Z M,ds[i]?\y->I i Z M->∃Y x M',t.put y (ρ++'R' k ())\Y/\e.WD W Y M=.ok x M'/\I (i+1) (Z++[x]) M') :
 ∃G M',(Ex.WN v k t (.val it) e).WD W ρ M=(if v then .ok (.vl G) M' else new (.WK G) M')/\I (-ds) G M':=by
 rw[Pa,Mu,B];obtain⟨s,L,R,E,Q⟩:∃s,YJ M1 d\s/\s.len=-ds/\(∀M i,gr M d\ds->s.item i M=ds[i]?)/\∀M,gr M d\ds->s.fin M=true:=by
  cases d with
  |vl V=>cases T;show{1,.Ys ds,rfl,rfl,λ_ _ _=>rfl,λ_ _=>rfl}
  |ref p =>
   let get:∀{M:fc},gr M ↥p\ds->M[p]?\(.WK ds):=fun{M} h=>by
    erw[gr]at h;split at h
    .rename_i z;cases h;show z
    .cases h
   show{1,.live p (-ds),by simp[YJ,get T],rfl,λM i h=>by simp[XN.item,get h],λM h=>by simp[XN.fin,get h]}
  |_=>cases T
 erw[WR.Di,L,WR.Fq];let(G,M',g,h):=Jp (fin:=s.fin) (item:=s.item) (body:=λd M=>WR.wg (t.put d (ρ++'R' k ())) M*>λO M=>e.WD W O M*>λx M'=>.ok ↑x M') I (n:=-ds) (λi Z M N h=>by
  let(Y,x,M',a,b,c):=XF i ds[i] Z M (by simp[N]) h;show{3,ds[i],↑x,M',by rw[E M i (ZQ i Z M h)];simp[N],by rw[a];simp[b],'s' c}) (λZ M h=>Q M (ZQ _ Z M h)) (-ds) 0 [] M1 (xd _) H
 show{2,G,M',?_,'s' h};rw[Bv,R,dm P,g];rfl
def Yt{Y:Type}{f g:Y->Nat}{l:List Y}(h:∀x∈l,f x<=g x):(l%f).sum<=(l%g).sum:=by
 induction l with
 |nil=>show bz _
 |cons a l G =>
  rw[gm,gm,w6,w6];show Nat.add_le_add (h a 'b') (G λx T=>h x (bw _ T))
def sum_filter{Y:Type}{f:Y->Nat}{p:Y->Bool}{l:List Y}:(l.filter p%f).sum<=(l%f).sum:=by
 induction l with
 |nil=>show bz _
 |cons a l T =>
  rw[By,gm,w6];split
  .rw[gm,w6];show Ec T _
  .exact gh T (Dg _ _)
open Classical in
def red{B:Type}{R:B->B->Prop}(tr:∀{a b c},R a b->R b c->R a c)(c:B->Nat)(G:List B) :
 ∃Z:List B,(∀g∈Z,g∈G)/\(∀g∈G,∃h∈Z,h=g\/R h g)/\Z.Pairwise (λa b=>¬R a b/\¬R b a)/\(Z%c).sum<=(G%c).sum:=by
 induction G with
 |nil=>show{1,[],'b','b',.nil,bz _}
 |cons g G S =>
  let(Z,N,O,C,L):=S
  by_cases z:∃h∈Z,R h g
  .let(h,J,T):=z
   show{1,Z,λx Y=>bw _ (N x Y),λx Y=>?_,C,?_}
   .rcases dj.mp Y with q|q
    .exact(h,J,.inr (q▸T))
    .exact O x q
   .rw[gm,w6];show gh L (Dg _ _)
  .refine{1,g::Z.filter (λh=>decide (¬R g h)),λx Y=>?_,λx Y=>?_,?_,?_}
   .rcases dj.mp Y with q|q
    .rw[q];simp
    .exact bw _ (N x (jn<*q).1)
   .rcases dj.mp Y with q|q
    .exact(g,'b',.inl q.symm)
    .let(h,J,T):=O x q
     by_cases y:R g h
     .refine(g,'b',.inr ?_)
      rcases T with rfl|T
      .exact y
      .exact tr y T
     .exact(h,bw _ (jn.mpr (J,uw y)),T)
   .refine Aw.mpr (λh J=>?_,C.filter _)
    let(E,P):=jn<*J;show(j8 P,λq=>z (h,E,q))
   .rw[gm,gm,w6,w6]
    show Ec (gh sum_filter L) _
def CG{Y:Type}(p:Y->Bool)(l:List Y):-(l.filter p)+-(l.filter λx=>!p x)=-l:=by
 induction l with
 |nil=>rfl
 |cons a l T =>
  rw[By,By];cases p a<;>simp<;>lia
def rP{G:Type}{l:List G}{p:G->Bool}{a b:G}(O:a∈l)(B:b∈l)(n:a≠b)(J:p a=false)(C:p b=false):-(l.filter p)<=-l-2:=by
 let e:=CG p l;let Y:a∈l.filter (λx=>!p x):=jn.mpr (O,by rw[J];rfl);let T:b∈l.filter (λx=>!p x):=jn.mpr (B,by rw[C];rfl);let:2<=-(l.filter (λx=>!p x)):=by
  generalize l.filter (λx=>!p x)=y at Y T
  match y,Y,T with
  |[x],Y,T=>show absurd ((ig<*Y)>>(ig<*T).symm) n|_::_::_,_,_=>simp
 lia
structure ah(α:Type)where
 V:α->Prop
 W:α->List Int
 mv:α->Int->α
 st:∀p,-1∈W p/\mv p (-1)=p
 cl:∀{p w},V p->w∈W p->V (mv p w)
 tw:∀{p w v},V p->w∈W p->v∈W (mv p w)->∃u∈W p,mv p u=mv (mv p w) v
namespace ah
variable{α:Type}(S:ah α)
def R(p q:α):Prop:=S.V p/\∃w∈S.W p,q=S.mv p w
def End(q:α):Prop:=∃x,S.V x/\∃k∈S.W x,k≠-1/\q=S.mv x k
def cost(G:List α):Nat:=(G%λg=>max 1 (-S.W g-2)).sum
def Dm(l:List α)(q:α):Prop:=∃p∈l,S.R p q
variable{S}
def R.gI(h:S.V p):S.R p p:=(h,-1,(S.st p).1,(S.st p).2.symm)
def R.v(h:S.R p q):S.V q:=by let(Y,w,T,e):=h;rw[e];show S.cl Y T
def R.tr(h:S.R p q)(g:S.R q r):S.R p r:=by let(T,w,J,rfl):=h;let(_,v,Y,rfl):=g;let(u,G,e):=S.tw T J Y;show(T,u,G,e.symm)
def Dm.cl(h:S.Dm l p)(g:S.R p q):S.Dm l q:=by let(x,Y,r):=h;show(x,Y,r.tr g)
theorem Dm.v(h:S.Dm l q):S.V q:=by let(_,_,r):=h;show r.v
open Classical in
def gens{G N E:List α}(gv:∀g∈G,S.V g)(gg:∀q,S.V q->∃g∈G,S.R g q)(gc:S.cost G<=8)(hN:∀p∈N,S.V p/\¬S.End p)(hA:∀q,S.V q->¬S.End q->q∈N)(j:Nat) :
 ∃A:List α,-A<=8/\(∀a∈A,S.Dm ((N++E).take j) a)/\∀q,S.Dm ((N++E).take j) q->∃a∈A,S.R a q:=by
 let(T,h1,h2,Z,h4):=red (R:=S.R) (λa b=>a.tr b) (λg=>max 1 (-S.W g-2)) G;let I:∀g∈T,S.V g:=λg Y=>gv g (h1 g Y)
 let O:∀q,S.V q->∃g∈T,S.R g q:=λq J=>by
  let(g,Y,r):=gg q J;let(h,B,z):=h2 g Y;rcases z with rfl|z
  .exact(h,B,r)
  .exact(h,B,z.tr r)
 let P:(T%λg=>max 1 (-S.W g-2)).sum<=8:=gh h4 gc
 let one:∀g∈T,∀h∈T,S.R g h->g=h:=λg Y h hh r=>by
  by_cases e:g=h
  .exact e
  .exact absurd r (List.Pairwise.forall_of_forall_of_flip (R:=λa b=>a≠b->¬S.R a b) (λ_ _ n=>absurd rfl n) (Z.imp λz _=>z.1) (Z.imp λz _=>z.2) Y hh e)
 by_cases hj:j<=-N
 .refine{1,T.filter λg=>decide (S.Dm ((N++E).take j) g),?_,λa K=>j8 (jn<*K).2,λq J=>?_}
  .refine gh (p8 _ _) (gh ?_ P)
   let:=Yt (l:=T) (f:=λ_=>1) (g:=λg=>max 1 (-S.W g-2)) λx _=>Nat.le_max_left _ _
   simpa[List.map_const',List.sum_replicate_nat]using this
  .let(p,Q,r):=id J
   let F:p∈N:=by rw[List.take_append_of_le_length hj]at Q;show Du Q
   let(v,M):=hN p F;let(g,Y,r'):=O p v;let e:p=g:=by
    let(C,w,L,e):=r'
    by_cases z:w=-1
    .rw[e,z,(S.st g).2]
    .exact absurd {1,g,C,(w,L,z,e)} M
   subst e;show{1,p,jn.mpr (Y,uw (p,Q,R.gI v)),r}
 .let all:∀q,S.V q->¬S.End q->S.Dm ((N++E).take j) q:=λq C M=>by
   show(q,?_,R.gI C);rw[List.take_append];show qw _ (by rw[Cv 'a'];show hA q C M)
  generalize hD:S.Dm ((N++E).take j)=D at all;let dc:∀{p q},D p->S.R p q->D q:=fun{p q} h g=>by rw[<-hD]at h⊢;show h.cl g
  let dv:∀{q},D q->S.V q:=fun{q} h=>by rw[<-hD]at h;show h.v
  show(T.flatMap λg=>if D g then[g]else((S.W g).filter λw=>decide (D (S.mv g w)))%(S.mv g),?_,λa K=>?_,λq J=>?_)
  .rw[List.length_flatMap]
   show gh (Yt λg Y=>?_) P
   by_cases z:D g
   .rw[dm z];show Nat.le_max_left _ _
   .rw[cz z,dh]
    show gh ?_ (Nat.le_max_right _ _);let C:=I g Y;obtain⟨x,hx,k,X,nk,e⟩:S.End g:=w5 λn=>z (all g C n)
    let(g',Xy,r):=O x hx;let rg:S.R x g:=(hx,k,X,e);cases one g' Xy g Y (r.tr rg);let(_,u,hu,H):=r
    by_cases U:u=-1
    .rw[U,(S.st g).2]at H
     subst H;show rP (S.st x).1 X (j4 nk) (t8 (by rw[(S.st x).2];show z)) (t8 (by rw[<-e];show z))
    .exact rP (S.st g).1 hu (j4 U) (t8 (by rw[(S.st g).2];show z)) (t8 λq=>z (dc (by rw[H];show q) rg))
  .let(g,Y,B):=Cd<*K
   by_cases z:D g
   .rw[dm z]at B
    rw[ig<*B];show z
   .rw[cz z]at B
    let(w,L,rfl):=bu<*B;show j8 (jn<*L).2
  .let(g,Y,r):=O q (dv J)
   by_cases z:D g
   .exact{1,g,Cd.mpr {1,g,Y,by rw[dm z];simp},r}
   .let(_,w,L,e):=r
    show{1,q,Cd.mpr {1,g,Y,?_},R.gI (dv J)};rw[cz z,e];show bu.mpr {1,w,jn.mpr (L,uw (by rw[<-e];show J)),rfl}
end ah
def enc(l:Y2):Nat:=l.foldr (λa n=>a+7*n) 0
def CH(h:∀x∈l,x<7):enc l<7^(-l):=by
 induction l with
 |nil=>decide
 |cons a l T =>
  let G:=h a 'b';let J:=T λx Y=>h x (bw _ Y)
  change a+7*enc l<7^(-l+1)
  rw[Nat.pow_succ]
  lia
def CI{T:Type}{A:List T}{f g:T->Nat}(J:∀a∈A,f a<7)(G:∀a∈A,g a<7)(e:enc (A%f)=enc (A%g)):∀a∈A,f a=g a:=by
 induction A with
 |nil=>simp
 |cons a A B =>
  let e:f a+7*enc (A%f)=g a+7*enc (A%g):=e;let O:=J a 'b';let k2:=G a 'b';intro x Y;rcases dj<*Y with q|q
  .rw[q];lia
  .exact B (λx Y=>J x (bw _ Y)) (λx Y=>G x (bw _ Y)) 'a' x q
def lO{l:Y2}{n:Nat}(h:l.Nodup)(b:∀x∈l,x<n):-l<=n:=by
 induction n generalizing l with
 |zero=>cases l with
  |nil=>show bz _|cons a l=>show absurd (b a 'b') (vz _)
 |succ n T =>
  let:=T (l:=l.erase n) (h.erase n) λx Y=>by
   let G:=b x (List.mem_of_mem_erase Y);let J:=(h.mem_erase_iff<*Y).1
   lia
  by_cases z:n∈l
  .rw[List.length_erase_of_mem z]at this;lia
  .rw[List.erase_of_not_mem z]at this;lia
def ah.count{G:Type}{S:ah G}{A:List G}{D:G->Prop}{fs:List (G->Nat)}{act:G->Nat->Int->Nat}(P:-A<=8)(T:∀a∈A,D a)(H:∀q,D q->∃a∈A,S.R a q)(sm:∀f∈fs,∀q,D q->f q<7)(N:∀f∈fs,∀p,D p->∀w∈S.W p,f (S.mv p w)=act p (f p) w)
 (E:fs.Pairwise λf g=>∃q,D q/\f q≠g q):-fs<=7^8:=by
 let n:(fs%λf=>enc (A%f)).Nodup:=by
  rw[j7,vh];show E.imp_of_mem fun{f g} J hg z e=>?_
  let(q,Q,O):=z;let(a,Y,_,w,C,rfl):=H q Q;let:=CI (λa Y=>sm f J a (T a Y)) (λa Y=>sm g hg a (T a Y)) e a Y;rw[N f J a (T a Y) w C,N g hg a (T a Y) w C,this]at O;show O rfl
 let:=lO (n:=7^8) n λx B=>by
  let(f,J,rfl):=bu<*B;let L:=CH (l:=A%f) λx B=>by let(a,Y,rfl):=bu<*B;show sm f J a (T a Y)
  rw[dh]at L;show iu L (Nat.pow_le_pow_right ⋯ P)
 simpa using this
abbrev Goes(I:Nat->Env->fc->Prop)(R:D->fc->Prop)(i:Nat)(r:WR (Flow×Env)):Prop:=∃fl ρ' M',r=.ok (fl,ρ') M'/\((fl=.next/\I i ρ' M')\/∃v,fl=.ret v/\R v M')
theorem rQ{fin:fc->Bool}{item:Nat->fc->Option D}{Y:D->Env->fc->WR (Flow×Env)}(I:Nat->Env->fc->Prop)(R:D->fc->Prop){n:Nat}
 (XF:∀i Z M,i<n->I i Z M->∃d,item i M\d/\Goes I R (i+1) (Y d Z M)) (O:∀Z M,I n Z M->fin M=true) :
 ∀k i Z M,i+k=n->I i Z M->Goes I R n (Fo fin item Y k i Z M)
 |0,i,Z,M,e,h=>by
  obtain rfl:i=n:='a'
  show{3,_,Z,M,by simp[Fo,O Z M h],.inl (rfl,h)}
 |k+1,i,Z,M,e,h=>by
  obtain⟨d,C,N,T,J,B,⟨rfl,G⟩|⟨v,rfl,G⟩⟩:=XF i Z M 'a' h
  .let:=rQ I R XF O k (i+1) T J 'a' G
   simpa[Fo,C,B]using this
  .exact{3,.ret v,T,J,by simp[Fo,C,B],.inr (v,rfl,G)}
section
variable{W:Kh}{ρ:Env}{M M1:fc}{t:Tg}{b:nq}
def iV{it:Qz}{s:XN}{n:Nat}(J:S=Ea.YX t it b)(Y:it.WD W ρ M=.ok s M1)(T:s.len=n)(I:Nat->Env->fc->Prop)(R:D->fc->Prop)(O:I 0 ρ M1)(B:∀ρ M,I n ρ M->s.fin M=true)
 (XF:∀i ρ M,i<n->I i ρ M->∃d Z,s.item i M\d/\t.put d ρ\Z/\Goes I R (i+1) (b.WD W Z M)):Goes I R n (S.WD W ρ M):=by
 subst J;rw[Um,Y,WR.Di,T];show rQ I R (λi ρ M G h=>by
  let(d,Z,a,b,c):=XF i ρ M G h;show{1,d,a,by rw[b];show c}) B n 0 ρ M1 (xd n) O
def rR{it:Qz}{s:XN}{n:Nat}(J:S=Ea.YX t it b)(Y:it.WD W ρ M=.ok s M1)(G:s.len=n)(I:Nat->Env->fc->Prop)(O:I 0 ρ M1)(B:∀ρ M,I n ρ M->s.fin M=true)
 (XF:∀i ρ M,i<n->I i ρ M->∃d U,s.item i M\d/\t.put d ρ\U/\∃Z M',b.WD W U M=.ok (.next,Z) M'/\I (i+1) Z M'):∃Z M',S.WD W ρ M=.ok (.next,Z) M'/\I n Z M':=by
 subst J;obtain⟨C,Z,M',e,⟨rfl,h⟩|⟨v,rfl,h⟩⟩:=iV rfl Y G I (λ_ _=>False) O B λi ρ M T h=>by let(d,U,a,b,Z,M',c,e):=XF i ρ M T h;show{2,d,U,a,b,(.next,Z,M',c,.inl (rfl,e))}
 .exact{2,Z,M',e,h}
 .exact h.elim
end
end MW
namespace aL
open MW
abbrev PW(m:Nat):Kh:=(prog.call m,prog.cls)
abbrev sR(n:Nat):Option D:=↑↥n
abbrev sI(i:Int):Option D:=↑⇑i
set_option genInjectivity true in
structure F where
 a:Nat
 b:Nat
 r:List Nat
 deriving DecidableEq
def nD(x:Nat):D:=.int (x:Int)
def Ia(r:Y2):D:=.WL (r%nD)
def F.XJ(f:F):D:=.WL [⇑f.a,⇑f.b,Ia f.r]
def iW(x y:Nat):decide ((x:Int)=(y:Int))=decide (x=y):=by
 by_cases h:x=y
 .simp[h]
 .let:¬((x:Int)=(y:Int)):='a'
  simp[h,this]
def Qj(M:fc)(n x y:Nat):Mm M (n+1) ⇑x ⇑y\(decide (x=y)):=by rw[Wo,iW]
theorem lP(M:fc)(n:Nat):∀r s:List Nat,U0 (Mm M (n+1)) (r%nD) (s%nD)\(decide (r=s))
 |[],[]=>by simp[U0]|[],_::_=>by simp[U0]|_::_,[]=>by simp[U0]
 |x::r,y::s=>by
  rw[gm,gm,Fy (a:=nD x) (b:=nD y) (Qj M n x y) (lP M n r s)]
  by_cases h:x=y<;>simp[h]
def lQ(M:fc)(r s:Y2):Bb M (Ia r) (Ia s)\(decide (r=s)):=lP M 4 r s
def CJ(M:fc)(f g:F):Bb M f.XJ g.XJ\(decide (f=g)):=by let(a,b,r):=f;let(c,d,s):=g;let e:Mm M 5 (Ia r) (Ia s)\(decide (r=s)):=lP M 3 r s;change U0 (Mm M 5) [⇑a,⇑b,Ia r] [⇑c,⇑d,Ia s]=_;rw[Fy (Qj M 4 a c) (Fy (Qj M 4 b d) (Fy e (show U0 (Mm M 5) [] []\true from rfl)))];simp
theorem lR(M:fc)(g:F):∀fs:List F,Pz M g.XJ (fs%F.XJ)\(fs%λf=>decide (f=g))
 |[]=>rfl|f::fs=>by erw[gm,Pz,CJ,lR M g fs]
def lS(M:fc)(g:F)(fs:List F):_O M g.XJ (fs%F.XJ)\(decide (g∈fs)):=by
 rw[_O,lR,xq]
 congr 1
 induction fs with
 |nil=>simp
 |cons f fs Y =>
  by_cases h:f=g
  .simp[h]
  .erw[gm,List.any_cons,Y,dj,id]
   simp[h,j4 h]
def pos(g:F):List F->Nat
 |[]=>0|f::fs=>if f=g then 0 else pos g fs+1
def CK(M:fc)(g:F)(fs:List F):b0 M g.XJ (fs%F.XJ)=if g∈fs then ↑(pos g fs)else ():=by
 rw[b0,lR,uo]
 induction fs with
 |nil=>simp
 |cons f fs T =>
  rw[gm,List.findIdx?_cons,T,pos]
  by_cases h:f=g
  .simp[h]
  .by_cases Y:g∈fs<;>simp[h,j4 h,Y]
theorem lT(g:F):∀{fs:List F},g∈fs->fs[pos g fs]?\g
 |f::fs,h=>by
  by_cases e:f=g
  .simp[pos,e]
  .let:g∈fs:=by
    rcases dj<*h with q|q
    .exact absurd q.symm e
    .exact q
   simp[pos,e,lT g this]
def lU(nd:fs.Nodup)(h:fs[i]?\f):pos f fs=i:=by let m:f∈fs:=az h;let g:=lT f m;let(G,Y):=ak<*h;let(J,T):=ak<*g;show(List.getElem_inj nd)<*(T>>Y.symm)
def F.WN(f g:F):F:=(f.a,g.b,f.r%λx=>g.r.getD x 0)
def F.Uu(f:F):Prop:=f.a=f.b/\f.r='r' (-f.r)
instance (f:F):Decidable f.Uu:=inferInstanceAs (Decidable (_/\_))
structure aM(sz:Nat->Nat)(f:F):Prop where
 a:f.a<3
 b:f.b<3
 len:-f.r=sz f.a
 ran:∀x∈f.r,x<sz f.b
def Sz(sz:Nat->Nat):Prop:=∀k,1<=sz k/\sz k<=4
def Good(sz:Nat->Nat)(fs:List F):Prop:=∀f∈fs,aM sz f
def _z{r:Y2}(h:x< -r):r.getD x 0∈r:=by rw[bx,bh h];show j9 h
theorem aM.WN(T:aM sz f)(Y:aM sz g)(h:f.b=g.a):aM sz (f.WN g):=by
 show(T.a,Y.b,by simp[F.WN,T.len],λx J=>?_);let(y,G,rfl):=bu<*J;let:y< -g.r:=by rw[Y.len,<-h];show T.ran y G
 show Y.ran _ (_z this)
def CL(r:Y2):('r' (-r))%(λx=>r.getD x 0)=r:=by
 apply uf;intro i
 by_cases h:i< -r
 .simp[h,yo h]
 .simp[Nat.le_of_not_lt h,jk]
def CM(G:aM sz f)(T:aM sz g)(Y:f.b=g.a):(f.WN g).WN h=f.WN (g.WN h):=by
 erw[F.WN,q9,F.mk.injEq,true_and];apply qg;intro x J;let:x< -g.r:=by rw[T.len,<-Y];show G.ran x J
 simp[this]
def cW(sz:Nat->Nat)(k:Nat):F:=(k,k,'r' (sz k))
def lV(Y:aM sz f)(h:f.Uu):f=cW sz f.a:=by let(a,b,r):=f;let(T,G):=h;let:=Y.len;erw[cW]at *;subst T;rw[<-this,<-G]
def id_comp(Y:aM sz f):(cW sz f.a).WN f=f:=by let(a,b,r):=f;let:=Y.len;erw[cW,F.WN]at *;rw[<-this,CL]
def comp_id(Y:aM sz f):f.WN (cW sz f.b)=f:=by
 let(a,b,r):=f;let:=Y.ran;erw[cW,F.WN,F.mk.injEq,true_and]at *
 conv=>rhs;rw[<-List.map_id r]
 apply qg;intro x T;simp[yo (this x T)]
def Tq(fs:List F):Prop:=∀f∈fs,∀g∈fs,f.b=g.a->f.WN g∈fs\/(f.WN g).Uu
def WQ(T:1<=m)(Y:prog._C[f]?\Z):prog.call m f ds M=Z.XM (PW (m-1)) ds M:=by obtain⟨n,rfl⟩:∃n,m=n+1:=(m-1,'a');simp[Prog.call,Y]
def dG(n:Int)(f:Bool):Prop:=0<=n/\(f=false->n<2147483647)
def W7(t:Nat)(f:Bool)(M:fc):Prop:=∃n,M[t]?\(.WK [⇑n,.bl f])/\dG n f
structure St(t:Nat)(f:Bool)(M M':fc):Prop where
 len:-M<=-M'
 has:W7 t f M'
 keep:∀(a:Nat)(o:MO),a≠t->M[a]?\o->M'[a]?\o
def St.trans(a:St t f M Z)(b:St t f Z M2):St t f M M2:=
 (gh a.len b.len,b.has,λx o n h=>b.keep x o n (a.keep x o n h))
def St.of(h:W7 t f M)(k:xj M M'):St t f M M':=
 (k.len,let (n,a,b):=h;{1,n,k _ _ a,b},λa o _ e=>k a o e)
def rS(E:1<=m)(N:dG n f)(T:0<many)(Q:many<1073741824) :
 ∃(v:Nat)(n':Int),(v:Int)<many/\dG n' f/\∀M:fc,M[t]?\(.WK [⇑n,.bl f])->prog.call m 14 [↥t,⇑many] M=.ok ⇑v (M.set t (.WK [⇑n',.bl f])):=by
 let C:many≠0:='a'
 let L:∀y:Int,∃v:Nat,HMod.hMod y many=(v:Int)/\(v:Int)<many:=λy=>by let a:=Ei y C;let b:=Cy y T;show((HMod.hMod y many).toNat,'a','a')
 cases f with
 |true =>
  let(v,e,l):=L n;show{2,v,HDiv.hDiv n many,l,(Int.ediv_nonneg N.1 'a','b'),λM h=>?_};rw[WQ E rfl];let Y:=ju h;let J:=Et Y (i:=0) ⋯ rfl;let O:=Et Y (i:=1) ⋯ rfl;simp[Fn.XM,Sh,Sd,J,O,T,qV _ _ T Q,lG h,e]
 |false =>
  let V:=N.1;let F:=N.2 rfl;obtain⟨n',G⟩:∃n',(n*48271+29)%2147483647=n':=(_,rfl);let P:0<=n':=G▸Ei _ ⋯
  let R:n'<2147483647:=G▸Cy _ ⋯
  obtain⟨x,B⟩:∃x,(n'*n'+39373*n'+7)%2147483629=x:={1,_,rfl};let W:0<=x:=B▸Ei _ ⋯
  let K:x<2147483629:=B▸Cy _ ⋯
  obtain⟨y,S⟩:∃y,(x*x+16807*x)%2147483587=y:={1,_,rfl};let(v,e,l):=L (y/8);show{2,v,n',l,(P,λ_=>R),λM h=>?_};rw[WQ E rfl];let Y:=ju h;let J:=Et Y (i:=0) ⋯ rfl;let O:=Et Y (i:=1) ⋯ rfl;let k:=m6 (o:=.WK [⇑n',.bl false]) h;let H:=Et (ju k) (i:=0) ⋯ rfl;simp[Fn.XM,Sh,Sd,J,O,T,lG h,Rx n 48271 (.inr ⋯),G,H,Rx n' n' (.inl 'a'),Rx 39373 n' (.inl ⋯),B,Rx x x (.inl 'a'),Rx 16807 x (.inl ⋯),S,qV _ 8 ⋯ ⋯,e]
def Dj(G:1<=m)(J:W7 t f M)(T:0<many)(O:many<1073741824) :
 ∃(v:Nat)(Y:fc),prog.call m 14 [↥t,⇑many] M=.ok ⇑v Y/\(v:Int)<many/\St t f M Y/\-Y=-M:=by
 let(n,h,B):=J;let(v,C,l,o,e):=rS (t:=t) G B T O;show{2,v,_,e M h,l,('b',{1,C,m6 h,o},λa u e q=>by rw[jw (j4 e)];show q),'b'}
def rT{k:Nat}{Y:X9}(G:1<=m):prog.call m 12 [.fz (Y%D.int),⇑k] M=.ok ⇑(Y.getD k 0) M:=by
 rw[WQ G rfl]
 by_cases T:k< -Y
 .simp[Fn.XM,Ky,Kw,qW,T,CA (ds:=Y%D.int) (i:=k) (x:=⇑(Y.getD k 0)) q_ (by simp[T])]
 .simp[Fn.XM,Ky,Kw,qW,T]
def CN{k:Nat}{ns:X9}(Y:2<=m):∃n f,prog.call m 13 [.fz (ns%D.int),⇑k] M=.ok ↥(-M) (M++[.WK [⇑n,.bl f]])/\dG n f:=by
 rw[WQ (a_ ⋯ Y) rfl]
 by_cases h:(HPow.hPow 10 18:Int)<=ns.getD k 0
 .refine{2,ns.getD k 0-10^18,true,?_,('a','b')}
  let T:(1000000000000000000:Int)<=ns[k]?.getD 0:='s' h
  simp[Fn.XM,Qd,Qc,rT (show 1<=m-1 by show r_ Y),T,MW.new]
 .refine{2,ns.getD k 0%2147483647,false,?_,(Ei _ ⋯,λ_=>Cy _ ⋯)}
  let T:¬(1000000000000000000:Int)<=ns[k]?.getD 0:='s' h
  simp[Fn.XM,Qd,Qc,rT (show 1<=m-1 by show r_ Y),T,MW.new]
def rV(n:Nat)(i:Nat)(M:fc)(h:i<n):(XN.Ys ('r' n%'k')).item i M\⇑i:=by simp[XN.item,yo h]
def rW(n:Nat):(XN.Ys ('r' n%'k')).len=n:=by simp[XN.len]
def CO{K:Nat}(H:1<=m)(E:W7 t f M)(R:K<=3) :
 ∃(T:Y2)(Y:fc),K3.WD (PW m) [sR t,a1,a2,a3,a4,a5,sI K,a7,a8,a9,a10,a11] M=.ok (.vl (T%nD)) Y/\-T=K/\(∀x∈T,1<=x/\x<=3)/\St t f M Y/\-Y=-M:=by
 unfold K3;rw[Ru];let G:K<=100000:=a_ R ⋯
 simp[G];symm
 let h:=Jp (fin:=λ_=>true) (item:=(XN.Ys ('r' K%'k')).item)
  (body:=λd M=>(prog.call m 14 [D.ref t,D.int 3] M*>λy C=>G6 .XS ⇑1 y C)*>λx Y=>WR.ok ↑x Y)
  (λi N Y=>∃T:List Nat,N=T%nD/\-T=i/\(∀x∈T,1<=x/\x<=3)/\St t f M Y/\-Y=-M) (n:=K)
  (λi N Y P W=>by
   symm
   let(T,rfl,rfl,J,B,O):=W;let(v,C,e,l,S,L):=Dj H B.has (many:=3) ⋯ ⋯;left;show{3,⇑(-T),sI (1+v),C,rV K _ Y P,by simp[e],(T++[1+v],by simp[nD],'b',λx F=>?_,B>>S,L>>O)};rcases dz<*F with q|q
   .exact J x q
   .let:x=1+v:='s' q
    lia) (λ_ _ _=>rfl) K 0 [] M (xd _) ([],rfl,rfl,'b',St.of E (xj.refl M),rfl)
 let(A,Y,e,T,J,B,O,Q,V):=h;left;show{2,T,Y,?_,B,O,Q,V};rw[Bv,rW,dm G,show(XN.Ys ('r' _%'k')).fin=λ_=>true from rfl,e];simp at J;simp[J]
def CP{T:Y2}(A:1<=m)(S:W7 t f M)(G:∀x∈T,1<=x/\x<=3)(J:i< -T)(L:j< -T) :
 ∃(r:Y2)(Y:fc),Kz.WD (PW m) [sR t,a1,a2,a3,a4,a5,a6,↑(.vl (T%nD)),a8,a9,sI i,sI j] M=.ok (.vl (r%nD)) Y /\
  -r=T.getD i 0/\(∀x∈r,x<T.getD j 0)/\St t f M Y/\-Y=-M:=by
 unfold Kz;rw[Ru];let V:=Et (M:=M) (d:=.vl (T%nD)) (i:=i) (x:=⇑((T.getD i 0:Nat):Int)) rfl q_ (by simp[J,nD]);let P:∀Y,Ax (.vl (T%nD)) ⇑j Y\⇑((T.getD j 0:Nat):Int):=λY=>Et rfl q_ (by simp[L,nD])
 let H:=G _ (_z J);let C:=G _ (_z L);generalize ea:T.getD i 0=a at *;generalize eb:T.getD j 0=b at *;let E:a<=100000:=a_ H.2 ⋯
 simp[V,P,E];symm
 let h:=Jp (fin:=λ_=>true) (item:=(XN.Ys ('r' a%'k')).item)
  (body:=λd M=>prog.call m 14 [D.ref t,D.int b] M*>λx Y=>WR.ok ↑x Y)
  (λi N Y=>∃r:List Nat,N=r%nD/\-r=i/\(∀x∈r,x<b)/\St t f M Y/\-Y=-M) (n:=a)
  (λi N Y J Q=>by
   symm
   let(r,rfl,rfl,B,O,G):=Q;let(v,W,e,l,F,R):=Dj A O.has (many:=b) (m_ C.1) (m_ (c_ C.2 ⋯));left;show{3,⇑(-r),sI v,W,rV a _ Y J,by simp[e],(r++[v],by simp[nD],'b',λx X=>?_,O>>F,R>>G)};rcases dz<*X with q|q
   .exact B x q
   .let:x=v:='s' q
    show c_ (f_ this) (o_ l)) (λ_ _ _=>rfl) a 0 [] M (xd _) ([],rfl,rfl,'b',St.of S (xj.refl M),rfl)
 let(z,Y,e,r,B,O,G,K,I):=h;left;show{2,r,Y,?_,O,G,K,I};rw[Bv,rW,dm E,show(XN.Ys ('r' _%'k')).fin=λ_=>true from rfl,e];simp at B;simp[B]
def CQ{v:Nat}{G:Y2}(V:1<=m)(hs:W7 t f M)(R:-G=K)(P:1<=K)(B:K<=3)(h3:∀x∈G,1<=x/\x<=3)(hp:M[p]?\(.WK []))(Y:p≠t) :
 ∃(fs:List F)(O:Env)(T:fc),K1.WD (PW m) [sR t,sI v,(),(),(),(),sI K,↑(.vl (G%nD)),sR p,a9,a10,a11] M=.ok (.next,O) T /\
  O[8]?\(sR p)/\T[p]?\(.WK (fs%F.XJ))/\-fs<=3/\Good (λk=>G.getD k 1) fs/\-M<=-T/\W7 t f T/\(∀(a:Nat)(o:MO),a≠t->a≠p->M[a]?\o->T[a]?\o):=by
 symm
 let(w,b,e1,l1,H,qq):=Dj V hs (many:=4) ⋯ ⋯;left;unfold K1;rw[Yi];let s:w<=100000:=e_ (b_ (o_ l1) ⋯)
 simp[e1,s];symm
 let(O,T,e,fs,W,J,Q,rfl,h1,h2,h4,h5,h6,h7):=lN (n:=w) (body:=λd C M=>Hk.WD (PW m) (C.set 9 ↑d) M)
  (λi C T=>∃(fs:List F)(W J Q:Option D),C=[sR t,sI v,(),(),(),(),sI K,↑(.vl (G%nD)),sR p,W,J,Q] /\
   T[p]?\(.WK (fs%F.XJ))/\-fs=i/\Good (λk=>G.getD k 1) fs/\-M<=-T/\W7 t f T/\(∀(a:Nat)(o:MO),a≠t->a≠p->M[a]?\o->T[a]?\o))
  (M:=b) {4,[],a9,a10,a11,rfl,'s' (H.keep p _ Y hp),rfl,by intro f l;simp at l,H.len,H.has,λa o N _ h=>H.keep a o N h}
  (λi C M2 hi hI=>by
   symm
   let(fs,W,J,Q,rfl,g1,Z,g3,g4,g5,g6):=hI;let(x,M3,ex,A,L,u):=Dj V g5 (many:=K) (m_ P) (m_ (c_ B ⋯));let(y,M4,ey,X,E,g):=Dj V L.has (many:=K) (m_ P) (m_ (c_ B ⋯));let(r,M5,er,lr,rr,S,I):=CP (a1:=↑⇑v) (a2:=()) (a3:=()) (a4:=()) (a5:=()) (a6:=↑⇑K) (a8:=↑↥p) (a9:=↑⇑i) (i:=x) (j:=y) V E.has h3 (b_ (o_ A) (g_ R)) (b_ (o_ X) (g_ R));let c:=S.keep p _ Y (E.keep p _ Y (L.keep p _ Y g1));left;let hl:-(fs%F.XJ)<100000:=by rw[dh];show c_ (f_ Z) (b_ hi s)
   show{3,.next,_,M5.set p (.WK (fs%F.XJ++[F.XJ (x,y,r)])),?_,.inl rfl,(fs++[(x,y,r)],sI i,sI x,sI y,rfl,?_,by simp[Z],?_,?_,?_,?_)}
   .simp[Hk,ex,ey,er,Gm c hl,Gg (E.keep p _ Y (L.keep p _ Y g1)),qu,F.XJ,Ia]
   .rw[m6 c];simp
   .intro f l
    rcases dz<*l with q|q
    .exact g3 f q
    .let:f=(x,y,r):='s' q
     subst this;show(by change x<3;show b_ (o_ A) B,by change y<3;show b_ (o_ X) B,?_,?_)
     .change (-r)=G.getD x 1
      rw[lr];simp[bx,bh (show x< -G by show b_ (o_ A) (g_ R))]
     .intro z hz
      let:=rr z hz;change z<G.getD y 1
      simp[bx,bh (show y< -G by show b_ (o_ X) (g_ R))]at this⊢;show this
   .let:=S.len;let:=E.len;let:=L.len;simp;show a_ g4 (a_ (g_ u) (a_ (g_ g) (g_ I)))
   .let(n',q1,q2):=S.has
    show{1,n',by rw[jw Y];show q1,q2}
   .intro a o N U h
    rw[jw (j4 U)];show S.keep a o N (E.keep a o N (L.keep a o N (g6 a o N U h))))
 let e':Fo (XN.Ys ('r' w%'k')).fin (XN.Ys ('r' w%'k')).item (λd C M=>Hk.WD (PW m) (C.set 9 ↑d) M) (XN.Ys ('r' w%'k')).len 0 [sR t,sI v,(),(),(),(),sI K,↑(.vl (G%nD)),sR p,a9,a10,a11] b=_:=e;left;show(fs,[sR t,sI v,(),(),(),(),sI K,↑(.vl (G%nD)),sR p,W,J,Q],T,e',rfl,h1,'a',h4,h5,h6,h7)
def CS(hm:2<=m)(V:W7 t f M):∃(d:D)(M':fc)(fs:List F)(sz:Nat->Nat),prog.call m 15 [↥t] M=.ok d M'/\gr M' d\(fs%F.XJ)/\(∀n,d=↥n->n≠t)/\Sz sz/\Good sz fs/\-fs<=3/\St t f M M':=by
 let G:1<=m-1:=r_ hm
 let(v,M1,E,l1,N,S):=Dj G V (many:=12) ⋯ ⋯;rw[WQ (a_ G C_) rfl]
 by_cases hv:v<7
 .let J:(v:Int)<7:=m_ hv
  let T:∀(fs:List F)(sz:Nat->Nat),Gp.XM (PW (m-1)) [↥t] M=.ok (.vl (fs%F.XJ)) M1->Sz sz->Good sz fs->-fs<=3 ->
   ∃(d:D)(M':fc)(fs:List F)(sz:Nat->Nat),Gp.XM (PW (m-1)) [↥t] M=.ok d M'/\gr M' d\(fs%F.XJ)/\(∀n,d=↥n->n≠t)/\Sz sz/\Good sz fs/\-fs<=3/\St t f M M':=
   λfs sz a b c d=>{4,_,M1,fs,sz,a,rfl,λn h=>(by cases h),b,c,d,N}
  let XM:∀d,Ax (.vl [.vl [.WL [⇑0,⇑1,.WL [⇑0,⇑1]],.WL [⇑0,⇑1,.WL [⇑1,⇑0]]],.vl [.WL [⇑0,⇑1,.WL [⇑0,⇑0,⇑1,⇑1]],.WL [⇑0,⇑1,.WL [⇑0,⇑1,⇑0,⇑1]],.WL [⇑1,⇑0,.WL [⇑0,⇑3]]],
   .vl [.WL [⇑0,⇑0,.WL [⇑1,⇑0]]],.vl [.WL [⇑0,⇑0,.WL [⇑1,⇑2,⇑0]]],.vl [.WL [⇑0,⇑0,.WL [⇑0,⇑0]]],.vl [],.vl [.WL [⇑0,⇑1,.WL [⇑0,⇑1]],.WL [⇑1,⇑2,.WL [⇑0,⇑0,⇑1]]]]) ⇑v M1\d ->
   Gp.XM (PW (m-1)) [↥t] M=.ok d M1:=λd Q=>by simp[Fn.XM,Gp,Qe,E,J,Q]
  let cs:v=0\/v=1\/v=2\/v=3\/v=4\/v=5\/v=6:='a'
  rcases cs with rfl|rfl|rfl|rfl|rfl|rfl|rfl
  .refine T [(0,1,[0,1]),(0,1,[1,0])] (λ_=>2) ?_ (λk=>'b') (λf Y=>?_) ⋯
   .exact XM _ rfl
   .simp at Y;rcases Y with rfl|rfl<;>show(by decide,by decide,by decide,by decide)
  .refine T [(0,1,[0,0,1,1]),(0,1,[0,1,0,1]),(1,0,[0,3])] (λk=>if k=0 then 4 else 2) ?_ (λk=>by dsimp only;split<;>omega) (λf Y=>?_) ⋯
   .exact XM _ rfl
   .simp at Y;rcases Y with rfl|rfl|rfl<;>show(by decide,by decide,by decide,by decide)
  .refine T [(0,0,[1,0])] (λ_=>2) ?_ (λk=>'b') (λf Y=>?_) ⋯
   .exact XM _ rfl
   .simp at Y;subst Y;show(by decide,by decide,by decide,by decide)
  .refine T [(0,0,[1,2,0])] (λ_=>3) ?_ (λk=>'b') (λf Y=>?_) ⋯
   .exact XM _ rfl
   .simp at Y;subst Y;show(by decide,by decide,by decide,by decide)
  .refine T [(0,0,[0,0])] (λ_=>2) ?_ (λk=>'b') (λf Y=>?_) ⋯
   .exact XM _ rfl
   .simp at Y;subst Y;show(by decide,by decide,by decide,by decide)
  .refine T [] (λ_=>1) ?_ (λk=>'b') (λf Y=>?_) ⋯
   .exact XM _ rfl
   .simp at Y
  .refine T [(0,1,[0,1]),(1,2,[0,0,1])] (λk=>if k=1 then 3 else 2) ?_ (λk=>by dsimp only;split<;>show(by decide,by decide)) (λf Y=>?_) ⋯
   .exact XM _ rfl
   .simp at Y;rcases Y with rfl|rfl<;>show(by decide,by decide,by decide,by decide)
 .symm
  let J:¬(v:Int)<7:='a'
  let(u,M2,W,l2,R,H):=Dj G N.has (many:=3) ⋯ ⋯;obtain⟨K,I,qk⟩:∃K:Nat,(1:Int)+(u:Int)=(K:Int)/\K=1+u:={1,1+u,'a',rfl};let(O,C,X,l3,P,L,qq):=CO (a1:=↑⇑v) (a2:=()) (a3:=()) (a4:=()) (a5:=()) (a7:=()) (a8:=()) (a9:=()) (a10:=()) (a11:=()) (K:=K) G R.has 'a';left;let B:t< -C:=by let(n,h,_):=L.has;show wu h
  let h4:W7 t f (C++[.WK []]):=by let(n,h,o):=L.has;show{1,n,Af h,o}
  symm
  let(fs,qv,M5,e5,U,q1,q2,Z,q4,q5,A):=CQ (v:=v) (K:=K) (p:=-C) (a9:=()) (a10:=()) (a11:=()) G h4 l3 'a' 'a' P 'b' (i_ B);left;show{4,↥(-C),M5,fs,λk=>O.getD k 1,?_,ju q1,λn h=>by cases h;show i_ B,λk=>?_,Z,q2,?_}
  .simp[Fn.XM,Gp,Qe,E,J,W,I,X,MW.new,e5,U]
  .change 1<=O.getD k 1/\O.getD k 1<=4
   by_cases h:k< -O
   .let:=P _ (_z h)
    simp[bx,h]at this⊢;show(this.1,a_ this.2 ⋯)
   .simp[bx,h]
  .refine N.trans (R>>(L>>(?_,q5,λa o na h=>A a o na ?_ (Af h))))
   .let:=q4;simp at this;lia
   .let:=wu h;show h_ this
structure Up(p:Nat)(M M':fc):Prop where
 len:-M'=-M
 oth:∀a:Nat,a≠p->M'[a]?=M[a]?
def Up.refl(p:Nat)(M:fc):Up p M M:=(rfl,λ_ _=>rfl)
theorem Up.trans(a:Up p M Z)(b:Up p Z M2):Up p M M2:=(b.len>>a.len,λx h=>b.oth x h>>(a.oth x h))
theorem Up.set(p:Nat)(M:fc)(o:MO):Up p M (M.set p o):=('b',λa h=>jw (j4 h))
def Vu(h:M[p]?\(.WK ds)):Nu M x ↥p=_O M x ds:=by simp[Nu,h,Cm,gr]
def Zm(f:F)(M:fc):Ax f.XJ ⇑0 M\⇑f.a:=rfl
def Zn(f:F)(M:fc):Ax f.XJ ⇑1 M\⇑f.b:=rfl
def lW(f:F)(M:fc):Ax f.XJ ⇑2 M\(Ia f.r):=rfl
def Tt(M:fc)(r:Y2)(n:Nat):Bb M (Ia r) (.WL ('r' n%'k'))\(decide (r='r' n)):=lQ M r ('r' n)
def eq_nil(M:fc)(r:Y2):Bb M (Ia r) (.WL [])\(decide (r=[])):=lQ M r []
def Eu(M:fc)(a b:Nat):Bb M ⇑a ⇑b\(decide (a=b)):=by rw[eq_int,iW]
def Nk(M:fc)(r:Y2):qu .len [Ia r] M=.ok ⇑(-r) M:=by simp[qu,Cm,Ia]
def Jf(M:fc)(Y:List D):qu .tuple [.vl Y] M=.ok (.WL Y) M:=by simp[qu,Cm]
def lX(M:fc)(r:Y2):qu .tuple [.vl (r%nD)] M=.ok (Ia r) M:=Jf M _
def lY(Y:Sz sz)(h:aM sz f):1<=-f.r/\-f.r<=4:=by rw[h.len];show Y _
def CT(M:fc)(r:Y2):YJ M (Ia r)\(.Ys (r%nD)):=rfl
def rX(M:fc)(r:Y2)(h:x< -r):Ax (Ia r) ⇑x M\⇑(r.getD x 0):=Ik q_ (by simp[h,nD])
def CU(O:Sz sz)(G:aM sz f)(C:aM sz g)(h:f.b=g.a) :
 Jr.WD W [a0,a1,a2,a3,a4,a5,a6,↑f.XJ,↑g.XJ,a9] M=.ok (.vl ((f.WN g).r%nD)) M:=by
 let Y:-(f.r%nD)<=100000:=by rw[dh,G.len];let:=O f.a;show a_ this.2 ⋯
 unfold Jr;rw[Ru];simp[lW,CT];let:=rL (M:=M) (ds:=f.r%nD) (g:=λd=>match d with|⇑i=>nD (g.r.getD i.toNat 0)|_=>.XQ)
  (body:=λd M=>(WR.wg (Ax (Ia g.r) d M) M*>λx J=>WR.ok ↑x J)) Y (λd B=>by
   let(x,N,rfl):=bu<*B;let T:x< -g.r:=by rw[C.len,<-h];show G.ran x N
   rw[show nD x=D.int (x:Int)from rfl,rX M g.r T];simp[nD])
 rw[this];simp[F.WN,nD]
def Qk(Y:List F)(f g:F):List F:=if f.b=g.a/\f.WN g∉Y/\¬(f.WN g).Uu then Y++[f.WN g]else Y
def lZ(f g:F):D.WL [⇑f.a,⇑g.b,Ia (f.WN g).r]=(f.WN g).XJ:=rfl
def rY(B:Sz sz)(N:aM sz f)(C:aM sz g)(G:M[p]?\(.WK (Z%F.XJ)))(V:-Z<100000) :
 ∃(P S:Option D)(M':fc),Fz.WD W [a0,sR p,a2,a3,a4,a5,a6,↑f.XJ,↑g.XJ,a9] M=.ok (.next,[a0,sR p,a2,a3,P,a5,a6,↑f.XJ,↑g.XJ,S]) M' /\
  M'[p]?\(.WK (Qk Z f g%F.XJ))/\Up p M M':=by
 by_cases h:f.b=g.a
 .let R:=CU (W:=W) (M:=M) (a0:=a0) (a1:=↑↥p) (a2:=a2) (a3:=a3) (a4:=↑(.WL [])) (a5:=a5) (a6:=a6) (a9:=a9) B N C h
  let E:(f.WN g).r≠[]:=λe=>by let:=(lY B (N.WN C h)).1;rw[e]at this;simp at this
  let Y:-(f.WN g).r<=100000:=by let:=(lY B (N.WN C h)).2;show a_ this ⋯
  let Q:=lS M (f.WN g) Z;let A:(f.WN g).a=f.a:=rfl;let K:(f.WN g).b=g.b:=rfl;let ap:=Gm (d:=(f.WN g).XJ) G (by rw[dh];show V);let O:∃T:WR (Flow×Env),Fz.WD W [a0,sR p,a2,a3,a4,a5,a6,↑f.XJ,↑g.XJ,a9] M=T/\(f.WN g∈Z->T=.ok (.next,[a0,sR p,a2,a3,↑(Ia (f.WN g).r),a5,a6,↑f.XJ,↑g.XJ,↑(f.WN g).XJ]) M)/\(f.WN g∉Z->(f.WN g).Uu->T=.ok (.next,[a0,sR p,a2,a3,↑(Ia (f.WN g).r),a5,a6,↑f.XJ,↑g.XJ,↑(f.WN g).XJ]) M) /\
   (f.WN g∉Z->¬(f.WN g).Uu->T=.ok (.next,[a0,sR p,a2,a3,↑(Ia (f.WN g).r),a5,a6,↑f.XJ,↑g.XJ,↑(f.WN g).XJ]) (M.set p (.WK ((Z++[f.WN g])%F.XJ)))):=by
   show{1,_,(by simp[-eq_int,Fz,Zm,Zn,Eu,h,R,lX,lZ,eq_nil,E,Vu G,Q];show rfl),?_,?_,?_}
   .intro m;simp[m]
   .intro m i;simp[-eq_int,m,Zm,Zn,Eu,i.1,Nk,Y,Tt,uw i.2]
   .intro m i
    by_cases J:(f.WN g).a=(f.WN g).b
    .let H:¬(f.WN g).r='r' (-(f.WN g).r):=λq=>i (J,q)
     simp[-eq_int,Zm,Zn,Eu,m,J,Nk,Y,Tt,H,Gg G,ap]
    .simp[-eq_int,Zm,Zn,Eu,m,J,Nk,Y,Tt,Gg G,ap]
  let(T,e,L,k2,k3):=O
  by_cases m:f.WN g∈Z
  .exact{3,_,_,M,e>>(L m),by rw[Qk,cz (λq=>q.2.1 m)];show G,Up.refl p M}
  .by_cases i:(f.WN g).Uu
   .exact{3,_,_,M,e>>(k2 m i),by rw[Qk,cz (λq=>q.2.2 i)];show G,Up.refl p M}
   .exact{3,_,_,_,e>>(k3 m i),by rw[Qk,dm (h,m,i),m6 G],Up.set _ _ _}
 .refine{3,↑(.WL []),↑(.WL [⇑f.a,⇑g.b,.WL []]),M,?_,by rw[Qk,cz (λq=>h q.1)];show G,Up.refl p M}
  let:=lQ M [] [];simp[Ia]at this;simp[-eq_int,Fz,Zm,Zn,Eu,h,this]
structure WM(sz:Nat->Nat)(gs:List F):Prop where
 _J:Good sz gs
 nd:gs.Nodup
 nid:∀f∈gs,¬f.Uu
def WM.snoc{sz:Nat->Nat}(h:WM sz Z)(B:aM sz f)(T:f∉Z)(G:¬f.Uu):WM sz (Z++[f]):=by
 show(λx Y=>?_,?_,λx Y=>?_)
 .rcases dz.mp Y with q|q
  .exact h._J x q
  .let:x=f:='s' q
   show this▸B
 .rw[Bg]
  show(h.nd,'b',λa O b J=>?_);let:b=f:='s' J
  show λe=>T (by rw[<-this,<-e];show O)
 .rcases dz.mp Y with q|q
  .exact h.nid x q
  .let:x=f:='s' q
   show this▸G
def cX(Y:List F)(f g:F):Prop:=f.b=g.a->f.WN g∈Y\/(f.WN g).Uu
def cX.mono(h:cX Z f g)(s:Z <+: U):cX U f g:=λe=>(h e).imp (λm=>s.subset m) id
def Tu(Y:List F)(f g:F):Y <+: Qk Y f g:=by
 unfold Qk;split
 .exact List.prefix_append _ _
 .exact List.prefix_rfl
def ly(Y:List F)(f g:F):-(Qk Y f g)<=-Y+1:=by unfold Qk;split<;>simp
protected def rZ(h:WM sz Z)(B:aM sz f)(T:aM sz g):WM sz (Qk Z f g):=by
 unfold Qk;split
 .rename_i q;show h.snoc (B.WN T q.1) q.2.1 q.2.2
 .exact h
def ra(Y:List F)(f g:F):cX (Qk Y f g) f g:=by
 intro e;unfold Qk
 by_cases m:f.WN g∈Y
 .show .inl ?_;split
  .exact qw _ m
  .exact m
 .by_cases i:(f.WN g).Uu
  .exact .inr i
  .show .inl ?_;rw[dm (e,m,i)];simp
def W8{Y:List F}{i:Nat}(s:Y <+: Z)(h:Y[i]?\f):Z[i]?\f:=by let(t,rfl):=s;rw[gf (ak<*h).1];show h
def Vh{Y:List F}{i:Nat}(T:M[p]?\(.WK (Y%F.XJ)))(h:Y[i]?\f):Ax ↥p ⇑i M\f.XJ:=Et (ju T) q_ (by simp[h])
def Ql{Y:List F}(T:M[p]?\(.WK (Y%F.XJ))):qu .len [↥p] M=.ok ⇑(-Y) M:=by rw[Y_ (ju T)];simp
def CV{k j:Nat}(N:Sz sz)(J:WM sz Z)(Y:M[p]?\(.WK (Z%F.XJ)))(V:-Z<90000)(C:Z[k]?\f)(B:Z[j]?\g) :
 ∃(T q R G:Option D)(M':fc),Js.WD W [a0,sR p,a2,a3,a4,sI k,sI j,a7,a8,a9] M=.ok (.next,[a0,sR p,a2,a3,T,sI k,sI j,q,R,G]) M' /\
  M'[p]?\(.WK (Qk (Qk Z f g) g f%F.XJ))/\Up p M M':=by
 symm
 let L:=J._J f (az C);let O:=J._J g (az B);let y:=ly Z f g;let(T,G,K,E,A,z):=rY (W:=W) (M:=M) (a0:=a0) (a2:=a2) (a3:=a3) (a4:=a4) (a5:=↑⇑k) (a6:=↑⇑j) (a9:=a9) N L O Y (b_ V ⋯);let(S,Q,X,P,I,H):=rY (W:=W) (M:=K) (a0:=a0) (a2:=a2) (a3:=a3) (a4:=T) (a5:=↑⇑k) (a6:=↑⇑j) (a9:=G) N O L A 'a';left;show(S,↑g.XJ,↑f.XJ,Q,X,?_,I,z>>H);unfold Js;rw[Yi];simp[Vh Y C,Vh Y B,YJ,XN.len,XN.fin,Fo,XN.item,E,P]
def CW{k:Nat}(a:Sz sz)(I:WM sz Z)(H:M[p]?\(.WK (Z%F.XJ)))(m:-Z<10000)(K:Z[k]?\f) :
 ∃(Y:List F)(J C O G B:Option D)(T:fc),Ju.WD W [a0,sR p,a2,a3,a4,sI k,a6,a7,a8,a9] M=.ok (.next,[a0,sR p,a2,a3,J,sI k,C,O,G,B]) T /\
  T[p]?\(.WK (Y%F.XJ))/\Up p M T/\Z <+: Y/\WM sz Y/\-Y<=3*-Z/\∀(j:Nat)(g:F),Z[j]?\g->cX Y f g/\cX Y g f:=by
 unfold Ju;rw[Yi];let Q:-Z<=100000:=e_ (b_ m ⋯)
 simp[Ql H,Q];symm
 let(x,T,e,Y,J,C,O,G,B,rfl,l,h2,s,h4,h5,h6):=lN (n:=-Z) (body:=λd E M=>Jt.WD W (E.set 6 ↑d) M)
  (λi E T=>∃(Y:List F)(J C O G B:Option D),E=[a0,sR p,a2,a3,J,sI k,C,O,G,B]/\T[p]?\(.WK (Y%F.XJ))/\Up p M T/\Z <+: Y/\WM sz Y/\-Y<=-Z+2*i /\
   ∀(j:Nat)(g:F),j<i->Z[j]?\g->cX Y f g/\cX Y g f) (ρ:=[a0,sR p,a2,a3,a4,sI k,a6,a7,a8,a9]) (M:=M)
  (Z,a4,a6,a7,a8,a9,rfl,H,Up.refl p M,List.prefix_rfl,I,x_,λj g h=>absurd h (vz _))
  (λi E U v hI=>by
   symm
   let(Y,J,C,O,G,B,rfl,g1,o,L,P,g5,V):=hI;let S:Z[i]?=↑Z[i]:=by simp[v]
   let(X,y,r,c,b,u,t,u3):=CV (W:=W) (M:=U) (a0:=a0) (a2:=a2) (a3:=a3) (a4:=J) (a7:=O) (a8:=G) (a9:=B) a P g1 'a' (W8 L K) (W8 L S);let A:=P._J f (az (W8 L K));let N:=P._J Z[i] (az (W8 L S));left;show{3,.next,_,b,?_,.inl rfl,(Qk (Qk Y f Z[i]) Z[i] f,X,sI i,y,r,c,rfl,t,o>>u3,(L>>(Tu _ _ _))>>(Tu _ _ _),rZ (rZ P A N) N A,?_,?_)}
   .simp[Jt,u]
   .let:=ly Y f Z[i]
    let:=ly (Qk Y f Z[i]) Z[i] f
    lia
   .intro j g z R
    let pr:=Tu Y f Z[i]>>(Tu (Qk Y f Z[i]) Z[i] f);rcases Nat.lt_succ_iff_lt_or_eq.mp z with q|q
    .exact((V j g q R).1.mono pr,(V j g q R).2.mono pr)
    .subst q
     let:g=Z[j]:=by rw[S]at R;show(j6 R).symm
     subst this;show((ra _ _ _).mono (Tu _ _ _),ra _ _ _))
 left;show{7,Y,J,C,O,G,B,T,e,l,h2,s,h4,'a',λj g N=>h6 j g (ak<*N).1 N}
def l8(f:F)(i j k:Nat)(Y:Env):(Tg.names [i,j,k]).put f.XJ Y\(((Y.set i (sI f.a)).set j (sI f.b)).set k ↑(Ia f.r)):=rfl
def cY(Y:List F)(f:F):List F:=if ¬f.Uu/\f∉Y then Y++[f]else Y
def CY(Y:List F)(k:Nat):Prop:=∀(i j:Nat)(f g:F),i<k->j<k->Y[i]?\f->Y[j]?\g->cX Y f g
def CZ(C:Sz sz)(L:aM sz f)(T:M[p]?\(.WK (Z%F.XJ)))(N:-Z<100000) :
 ∃M',Cq.WD W [a0,sR p,sI f.a,sI f.b,Ia f.r,a5,a6,a7,a8,a9] M=.ok (.next,[a0,sR p,sI f.a,sI f.b,↑(Ia f.r),a5,a6,a7,a8,a9]) M' /\
  M'[p]?\(.WK (cY Z f%F.XJ))/\Up p M M':=by
 let Y:-f.r<=100000:=by let:=(lY C L).2;show a_ this ⋯
 let B:=lS M f Z;let J:D.WL [⇑f.a,⇑f.b,Ia f.r]=f.XJ:=rfl;let ap:=Gm (d:=f.XJ) T (by rw[dh];show N)
 by_cases i:f.Uu
 .refine{1,M,?_,by rw[cY,cz (λq=>q.1 i)];show T,Up.refl p M}
  simp[-eq_int,Cq,Eu,i.1,Nk,Y,Tt,uw i.2]
 .by_cases m:f∈Z
  .refine{1,M,?_,by rw[cY,cz (λq=>q.2 m)];show T,Up.refl p M}
   by_cases G:f.a=f.b
   .let O:¬f.r='r' (-f.r):=λq=>i (G,q)
    simp[G]at J;simp[-eq_int,Cq,Eu,G,O,Nk,Y,Tt,J,Vu T,B,m]
   .simp[-eq_int,Cq,Eu,G,Nk,Y,Tt,J,Vu T,B,m]
  .refine{1,M.set p (.WK ((Z++[f])%F.XJ)),?_,by rw[cY,dm (i,m),m6 T],Up.set _ _ _}
   by_cases G:f.a=f.b
   .let O:¬f.r='r' (-f.r):=λq=>i (G,q)
    simp[G]at J;simp[-eq_int,Cq,Eu,G,O,Nk,Y,Tt,J,Vu T,B,m,Gg T,ap]
   .simp[-eq_int,Cq,Eu,G,Nk,Y,Tt,J,Vu T,B,m,Gg T,ap]
protected def Cb(h:WM sz Z)(T:aM sz f):WM sz (cY Z f):=by
 unfold cY;split
 .rename_i q;show h.snoc T q.2 q.1
 .exact h
def Cc(Y:List F)(f:F):-(cY Y f)<=-Y+1:=by unfold cY;split<;>simp
def Cf(hz:Sz sz)(H:WM sz U)(b:M[p]?\(.WK (U%F.XJ)))(hl:-U<=3) :
 ∃(G:Env)(Y:fc),Jv.WD W [a0,sR p,a2,a3,a4,sI 0,a6,a7,a8,a9] M=.ok (.next,G) Y/\G[1]?\(sR p)/\∃Z:List F,Y[p]?\(.WK (Z%F.XJ))/\Up p M Y/\WM sz Z/\-Z<=15 /\
  (-Z<6->Tq Z)/\(U=[]->Z=[]):=by
 unfold Jv;rw[iS];show Ul (λm s Y=>∃(Z:List F)(k:Nat)(d u v K r:Option D),s=[a0,sR p,a2,a3,d,sI k,u,v,K,r]/\Y[p]?\(.WK (Z%F.XJ))/\Up p M Y/\WM sz Z/\-Z<=15/\CY Z k/\k<=5/\m=10-k/\(U=[]->Z=[]))
  (λG Y=>G[1]?\(sR p)/\∃Z:List F,Y[p]?\(.WK (Z%F.XJ))/\Up p M Y/\WM sz Z/\-Z<=15/\(-Z<6->Tq Z)/\(U=[]->Z=[])) ?_ eC 10 _ M ⋯
  {7,U,0,a4,a6,a7,a8,a9,rfl,b,Up.refl p M,H,a_ hl ⋯,λi j f g h=>absurd h (vz _),iw _,rfl,id}
 intro m s Q hI;symm
 let(Z,k,d,u,v,K,r,rfl,L,y,X,A,n,g6,g7,l):=hI;left
 by_cases O:k< -Z
 .let T:(k:Int)<(-Z:Int):=m_ O
  by_cases t:-Z<6
  .let C:(-Z:Int)<6:=m_ t
   right
   symm
   let(is,x,a,d7,d8,d9,M2,e,p2,u2,pr,R,l2,E):=CW (W:=W) (M:=Q) (a0:=a0) (a2:=a2) (a3:=a3) (a4:=d) (a6:=u) (a7:=v) (a8:=K) (a9:=r) (k:=k) hz X L (c_ A ⋯) (show Z[k]?=↑Z[k]by simp[O]);left;show{5,Q,.next,_,M2,10-(k+1),?_,?_,.inl rfl,'a',(is,k+1,x,a,d7,d8,d9,rfl,p2,y>>u2,R,'a',?_,'a',rfl,?_)}
   .simp[Ql L,T,C]
   .simp[Q6,e]
   .intro i j f g S J P I
    let B:∀(i:Nat)(f:F),i<k+1->is[i]?\f->Z[i]?\f:=λi f H P=>by
     let o:i< -Z:=b_ H O
     let:=W8 pr (show Z[i]?=↑Z[i]by simp[o]);rw[P]at this;rw[this];simp[o]
    let N:=B i f S P;let c:=B j g J I
    by_cases V:i=k
    .subst V
     let:f=Z[i]:=by let:=N;simp[O]at this;show this.symm
     subst this;show(E j g c).1
    .by_cases z:j=k
     .subst z
      let:g=Z[j]:=by let:=c;simp[O]at this;show this.symm
      subst this;show(E i f N).2
     .exact(n i j f g 'a' 'a' N c).mono pr
   .intro e0
    let:=l e0;subst this;simp at O
  .show .inl ?_
   let C:¬(-Z:Int)<6:='a'
   show{1,Q,by simp[Ql L,T,C],rfl,(Z,L,y,X,A,λq=>absurd q t,l)}
 .show .inl ?_
  let T:¬(k:Int)<(-Z:Int):='a'
  show{1,Q,by simp[Ql L,T],rfl,(Z,L,y,X,A,λ_=>?_,l)};intro f P g I;symm
  let(i,S,V):=m9 P;let(j,J,z):=m9 I;left;show n i j f g (b_ S (s_ O)) (b_ J (s_ O)) (by simp[S,V]) (by simp[J,z])
def rb(hm:1<=m)(hz:Sz sz)(hg:Good sz fs)(hl:-fs<=3)(O:gr M d\(fs%F.XJ)) :
 ∃(G:List F)(Y:fc),prog.call m 16 [d] M=.ok ↥(-M) Y/\Y[M.length]?\(.WK (G%F.XJ))/\xj M Y/\-Y=-M+1/\WM sz G/\-G<=15/\(-G<6->Tq G)/\(fs=[]->G=[]):=by
 rw[WQ hm rfl];symm
 let J:gr (M++[.WK []]) d\(fs%F.XJ):=(xj.ZP M _).gr O;let(s,X,qv,M1,e1,T,N,L,E,rfl,h1,h2,h3,h4,h5):=rK (body:=λd C M=>match(Tg.names [2,3,4]).put d C with
  | some Z=>Cq.WD (PW (m-1)) Z M|none=>.WY)
  (λi C Y=>∃(T:List F)(N L E:Option D),C=[↑d,sR (-M),N,L,E,(),(),(),(),()]/\Y[M.length]?\(.WK (T%F.XJ))/\Up (-M) (M++[.WK []]) Y/\WM sz T/\-T<=i/\(fs=[]->T=[]))
  (ρ:=[↑d,sR (-M),(),(),(),(),(),(),(),()]) (M:=M++[.WK []]) J
  {4,[],(),(),(),rfl,'b',Up.refl _ _,(λf B=>by simp at B,'b',λf B=>by simp at B),'b',λ_=>rfl}
  (λi C Y hI=>by
   symm
   let(T,N,L,E,rfl,g1,V,g3,Q,g5):=hI;left;cases d with
   |vl xs=>show O
   |ref n =>
    let hn:n≠-M:=by
     erw[gr]at O;cases e:M[n]? with
     |none=>rw[e]at O;simp at O|some o=>let:=wu e;show h_ this
    erw[gr]at J⊢;rw[V.oth n hn];show J
   | _=>simp[gr]at O)
  (λi x C Y hx hI=>by
   symm
   let(T,N,L,E,rfl,g1,V,g3,Q,g5):=hI;obtain⟨f,B,rfl⟩:∃f,fs[i]?\f/\f.XJ=x:='s' hx
   let P:=az B;let qq:=(ak<*B).1;let(U,S,A,H):=CZ (W:=PW (m-1)) (M:=Y) (a0:=↑d) (a5:=()) (a6:=()) (a7:=()) (a8:=()) (a9:=()) hz (hg f P) g1 (c_ Q (b_ qq (a_ hl ⋯)));left;show{3,.next,_,U,?_,.inl rfl,(cY T f,sI f.a,sI f.b,↑(Ia f.r),rfl,A,V>>H,Cb g3 (hg f P),?_,λe=>?_)}
   .rw[l8];show S
   .let:=Cc T f;show a_ this (v_ Q)
   .subst e;simp at B)
 left;let K:-T<=3:=by simp at h4;show a_ h4 hl
 symm
 let(qk,U,S,q1,G,A,H,R,l2,c2,z2):=Cf (W:=PW (m-1)) (M:=M1) (a0:=↑d) (a2:=N) (a3:=L) (a4:=E) (a6:=()) (a7:=()) (a8:=()) (a9:=()) hz h3 h1 K;let up:=h2>>H;left;show(G,U,?_,A,λa o h=>?_,?_,R,l2,c2,λe=>z2 (h5 e))
 .let I:Jw.WD (PW (m-1)) [↑d,sR (-M),(),(),(),(),(),(),(),()] (M++[.WK []])=.ok (.next,[↑d,sR (-M),N,L,E,(),(),(),(),()]) M1:=by
   unfold Jw;rw[Yi];simp[X];show e1
  simp[Fn.XM,U6,U5,MW.new,I,S,q1]
 .let:=wu h
  rw[up.oth a (h_ this)];show Af h
 .rw[up.len];simp
def eD(f:F):D:=.WL [⇑f.a,⇑f.b]
def Ko(Y:List F):D:=.WL (Y%eD)
def YZ(Y:List F)(f g:F):Int:=if f.WN g∈Y then(pos (f.WN g) Y:Int)else -1
def ky(j k:Nat):List Kx:=[.inl (j:Int),.inl (k:Int)]
def iX(h:ky j k=ky Z k'):j=Z/\k=k':=by simp[ky]at h;show(D_ h.1,D_ h.2)
def aW(j k Y T:Nat):Prop:=Y<j\/(Y=j/\T<k)
structure Tb(hs:List F)(j k:Nat)(jo:List (List Kx×D)):Prop where
 ZK:∀p∈jo,∃(j' k':Nat)(f g:F),p=(ky j' k',⇑(YZ hs f g))/\hs[j']?\f/\hs[k']?\g/\f.b=g.a/\aW j k j' k'
 YD:∀(j' k':Nat)(f g:F),hs[j']?\f->hs[k']?\g->f.b=g.a->aW j k j' k'->Am jo (ky j' k')\⇑(YZ hs f g)
 len:-jo<=j*-hs+k
def Cn{Y:List (List Kx×D)}(h:∀p∈Y,p.1≠q):Am Y q=():=by unfold Am;rw[List.find?_eq_none.mpr (λp T=>'s' (h p T))];rfl
def Co{Y:List (List Kx×D)}(h:∀p∈Y,p.1≠q):Fw Y q v=Y++[(q,v)]:=by unfold Fw;rw[cz];erw[Bx,f9,not_exists,not_and];show h
def Cs{Y:List (List Kx×D)}(h:q≠q'):Am (Y++[(q,v)]) q'=Am Y q':=by
 unfold Am;rw[List.find?_append];cases e:Y.find? (λp=>decide (p.1=q'))with
 |some p=>rfl|none=>simp[h]
def Ct{Y:List (List Kx×D)}(h:∀p∈Y,p.1≠q):Am (Y++[(q,v)]) q\v:=by unfold Am;rw[List.find?_append,List.find?_eq_none.mpr (λp T=>'s' (h p T))];simp
def Tb.skip(h:Tb Z j k jo)(O:Z[j]?\f)(C:Z[k]?\g)(n:f.b≠g.a):Tb Z j (k+1) jo:=by
 show(λp B=>?_,λT Y G J a b c d=>?_,by let:=h.len;show a_ this (w_ x_))
 .symm
  let(T,Y,G,J,e,a,b,c,d):=h.ZK p B;left;show{4,T,Y,G,J,e,a,b,c,by unfold aW at *;lia}
 .by_cases q:T=j/\Y=k
  .symm
   let(rfl,rfl):=q;rw[O]at a;rw[C]at b;cases a;cases b;left;show absurd c n
  .exact h.YD T Y G J a b c (by unfold aW at *;lia)
def Tb.fresh(h:Tb U j k Z):∀p∈Z,p.1≠ky j k:=by
 intro p Y e;symm
 let(G,T,B,J,rfl,a,b,c,d):=h.ZK p Y;let:=iX e;unfold aW at d;left
 lia
def Tb.put(h:Tb Z j k U)(B:Z[j]?\f)(O:Z[k]?\g)(n:f.b=g.a):Tb Z j (k+1) (Fw U (ky j k) ⇑(YZ Z f g)):=by
 rw[Co h.fresh];show(λp C=>?_,λT Y G J a b c d=>?_,by let:=h.len;simp;lia)
 .rcases dz.mp C with q|q
  .symm
   let(T,Y,G,J,e,a,b,c,d):=h.ZK p q;left;show{4,T,Y,G,J,e,a,b,c,by unfold aW at *;lia}
  .let:p=(ky j k,⇑(YZ Z f g)):='s' q
   show{4,j,k,f,g,this,B,O,n,by unfold aW;lia}
 .by_cases q:T=j/\Y=k
  .symm
   let(rfl,rfl):=q;rw[B]at a;rw[O]at b;cases a;cases b;left;show Ct h.fresh
  .rw[Cs (λe=>q (by let:=iX e;show(this.1.symm,this.2.symm)))]
   show h.YD T Y G J a b c (by unfold aW at *;lia)
def Tb.next(h:Tb Z j (-Z) jo):Tb Z (j+1) 0 jo:=by
 show(λp B=>?_,λT Y J G a b c d=>?_,by let:=h.len;let e:(j+1)*-Z=j*-Z+-Z:=Nat.succ_mul _ _;show a_ this (a_ (g_ e) x_))
 .symm
  let(T,Y,J,G,e,a,b,c,d):=h.ZK p B;left;show{4,T,Y,J,G,e,a,b,c,by unfold aW at *;lia}
 .let:=(ak<*b).1
  show h.YD T Y J G a b c (by unfold aW at *;lia)
def C1{T:List F}{j k:Nat}(N:Sz sz)(B:aM sz f)(E:aM sz g)(h:f.b=g.a)(J:M[q]?\(.WK (T%F.XJ)))(L:T[j]?\f)(C:T[k]?\g) :
 Iw.WD W [a0,a1,sR q,a3,a4,sI j,sI k,a7] M=.ok (.vl ((f.WN g).r%nD)) M:=by
 let Y:-(f.r%nD)<=100000:=by rw[dh,B.len];let:=N f.a;show a_ this.2 ⋯
 unfold Iw;rw[Gu (ds:=f.r%nD) (M1:=M) (g:=λd=>match d with|⇑i=>nD (g.r.getD i.toNat 0)|_=>.XQ) (by simp[Vh J L,lW,Ia]) Y (λx P=>by
  let(y,O,rfl):=bu<*P;let G:y< -g.r:=by rw[E.len,<-h];show B.ran y O
  show{1,_,rfl,by simp[Vh J C,lW,nD,rX M g.r G]})]
 simp[F.WN,nD]
def C2(A:Sz sz)(R:WM sz Z)(H:-Z<=5)(Y:M[q]?\(.WK (Z%F.XJ)))(N:M[r]?\(.dT U))(T:Z[j]?\f)(G:Z[k]?\g)(E:Tb Z j k U) :
 ∃(X:Option D)(M':fc)(J:List (List Kx×D)),Fb.WD W [a0,a1,sR q,a3,sR r,sI j,sI k,a7] M=.ok (.next,[a0,a1,sR q,a3,sR r,sI j,sI k,X]) M' /\
  M'[r]?\(.dT J)/\Tb Z j (k+1) J/\Up r M M':=by
 let P:=(ak<*T).1;let V:=(ak<*G).1;let I:=R._J f (az T);let K:=R._J g (az G)
 by_cases h:f.b=g.a
 .let S:=C1 (W:=W) (M:=M) (a0:=a0) (a1:=a1) (a3:=a3) (a4:=↑↥r) (a7:=a7) A I K h Y T G
  let Q:=lS M (f.WN g) Z;let C:-U<100000:=by
   let:=E.len;let:j*-Z<=5*5:=Nat.mul_le_mul (e_ (b_ P H)) H
   lia
  let st:=qZ (d:=⇑(YZ Z f g)) (b:=.WL [⇑j,⇑k]) N rfl C;show{3,↑(f.WN g).XJ,_,Fw U (ky j k) ⇑(YZ Z f g),?_,m6 (o:=.dT (Fw U (ky j k) ⇑(YZ Z f g))) N,E.put T G h,Up.set _ _ _}
  by_cases m:f.WN g∈Z
  .let L:Kg .index ↥q [(f.WN g).XJ] M=.ok ⇑(pos (f.WN g) Z) M:=by simp[Kg,cJ,ju Y,CK,m]
   let O:Oo .index ↥q M=true:=by simp[Oo,ju Y]
   let B:YZ Z f g=(pos (f.WN g) Z:Int):=dm m;rw[B]at st;simp[-eq_int,Fb,Vh Y T,Vh Y G,Zm,Zn,Eu,h,S,lX,lZ,Vu Y,Q,m,O,L,st,B,ky]
  .let B:YZ Z f g=-1:=cz m
   rw[B]at st;simp[-eq_int,Fb,Vh Y T,Vh Y G,Zm,Zn,Eu,h,S,lX,lZ,Vu Y,Q,m,st,B,ky]
 .refine{3,a7,M,U,?_,N,E.skip T G h,Up.refl r M}
  simp[-eq_int,Fb,Vh Y T,Vh Y G,Zm,Zn,Eu,h]
def C3(hz:Sz sz)(l:WM sz Z)(H:-Z<=5)(K:M[q]?\(.WK (Z%F.XJ)))(hr:M[r]?\(.dT []))(C:q≠r) :
 ∃(T:Env)(M':fc)(Y:List (List Kx×D)),Gq.WD W [a0,a1,sR q,a3,sR r,a5,a6,a7] M=.ok (.next,T) M'/\T[2]?\(sR q)/\T[3]?\a3/\T[4]?\(sR r)/\-T=8 /\
  M'[r]?\(.dT Y)/\Tb Z (-Z) 0 Y/\Up r M M':=by
 unfold Gq;symm
 let z:∀(M':fc),Up r M M'->qu .len [↥q] M'=.ok ⇑(-Z) M':=λM' u=>Ql (by rw[u.oth q C];show K)
 let(T,M',e,A,J,G,Y,rfl,o,h2,h3):=zf (S:=Gq) (W:=W) (n:=-Z) (ρ:=[a0,a1,sR q,a3,sR r,a5,a6,a7]) (M:=M) (M1:=M) rfl (by simp[Ql K]) (a_ H ⋯)
  (λj B M'=>∃(A J G:Option D)(Y:List (List Kx×D)),B=[a0,a1,sR q,a3,sR r,A,J,G]/\M'[r]?\(.dT Y)/\Tb Z j 0 Y/\Up r M M')
  {4,a5,a6,a7,[],rfl,hr,(λp y=>by simp at y,λj' k' f g a b c d=>by unfold aW at d;lia,'b'),Up.refl r M}
  (λj B O t I=>by
   symm
   let(A,J,G,Y,rfl,g1,g2,X):=I;left;let N:O[q]?\(.WK (Z%F.XJ)):=by rw[X.oth q C];show K
   symm
   let(s,L,v,x,R,V,rfl,E,k2,k3):=zf (S:=O3) (W:=W) (n:=-Z) (ρ:=[a0,a1,sR q,a3,sR r,sI j,J,G]) (M:=O) (M1:=O) rfl (by simp[Ql N]) (a_ H ⋯)
    (λk B M'=>∃(J G:Option D)(Y:List (List Kx×D)),B=[a0,a1,sR q,a3,sR r,sI j,J,G]/\M'[r]?\(.dT Y)/\Tb Z j k Y/\Up r O M')
    {3,J,G,Y,rfl,g1,g2,Up.refl r O}
    (λk B L i I=>by
     symm
     let(J,G,Y,rfl,E,k2,k3):=I;left;let P:L[q]?\(.WK (Z%F.XJ)):=by rw[k3.oth q C];show N
     symm
     let(R,M3,Q,m,U,t3,u3):=C2 (W:=W) (M:=L) (a0:=a0) (a1:=a1) (a3:=a3) (a7:=G) hz l H P E (show Z[j]?=↑Z[j]by simp[t]) (show Z[k]?=↑Z[k]by simp[i]) k2;left;show(_,.next,_,M3,rfl,m,.inl rfl,_,R,Q,rfl,U,t3,k3>>u3))
   left;show{4,_,.next,_,L,rfl,by simp[O4,v],  .inl rfl,(sI j,x,R,V,rfl,E,k2.next,X>>k3)})
 left;show(_,M',Y,e,rfl,rfl,rfl,rfl,o,h2,h3)
structure Hz(sz:Nat->Nat)(K:Nat)(hs:List F)(jo:List (List Kx×D)):Prop where
 hz:Sz sz
 inv:WM sz hs
 cl:Tq hs
 len:-hs<=5
 k1:1<=K
 k3:K<=3
 Z9:∀f∈hs,f.a<K
 bT:∀f∈hs,f.b<K
 tb:Tb hs (-hs) 0 jo
theorem rh:∀(Y:Y2)(a:Nat),∃v:Nat,(Y%λ(x:Nat)=>(x:Int)).foldl (λm x=>if m<x then x else m) (a:Int)=(v:Int)/\a<=v/\(∀x∈Y,x<=v)/\(v=a\/v∈Y)
 |[],a=>{1,a,rfl,bz _,'b',.inl rfl}
 |x::Y,a=>by
  symm
  let(v,e,T,J,B):=rh Y (if a<x then x else a);left;show{1,v,?_,?_,λy G=>?_,?_}
  .rw[gm,List.foldl_cons,<-e]
   congr 1
   by_cases q:a<x
   .let:(a:Int)<(x:Int):=m_ q
    simp[q]
   .let:¬(a:Int)<(x:Int):='a'
    simp[q]
  .split at T<;>omega
  .rcases dj.mp G with q|q
   .subst q;split at T<;>omega
   .exact J y q
  .rcases B with q|q
   .by_cases w:a<x
    .right;rw[dm w]at q;subst q;simp
    .show .inl ?_;rw[cz w]at q;show q
   .right;show bw _ q
theorem l9:∀Z:List Nat,Yd (Z%nD)\(Z%λ(x:Nat)=>(x:Int))
 |[]=>rfl|x::Z=>by simp[nD,Yd,show Yd (Z%nD)=_ from l9 Z]
def ri(h:xs≠[]):∃v:Nat,qu .max [.vl (xs%nD)] M=.ok ⇑v M/\(∀x∈xs,x<=v)/\v∈xs:=by
 symm
 obtain⟨a,r,rfl⟩:∃a r,xs=a::r:=List.exists_cons_of_ne_nil h;let(v,e,Y,J,T):=rh r a;left;show{1,v,?_,λx G=>?_,?_}
 .let:=l9 (a::r)
  erw[qu,B9,B8,uo,this];erw[gm,k9,uo,xq,WR.Fq,e]
 .rcases dj.mp G with q|q
  .subst q;show Y
  .exact J x q
 .rcases T with q|q
  .rw[q];simp
  .exact bw _ q
def max2(a b:Nat):qu .max [⇑a,⇑b] M=.ok (nD (max a b)) M:=by
 by_cases h:a<b
 .let Y:(a:Int)<b:=m_ h
  let e:max a b=b:='a'
  simp[qu,h,nD,e]
 .let Y:¬(a:Int)<b:='a'
  let e:max a b=a:='a'
  simp[qu,h,nD,e]
def toF:D->F
 |.WL [⇑a,⇑b,.WL r]=>⟨a.toNat,b.toNat,r%λd=>match d with|⇑i=>i.toNat|_=>0⟩
 |_=>(0,0,[])
def iY(f:F):toF f.XJ=f:=by
 let(a,b,r):=f;change F.mk a b ((r%nD)%λd=>match d with|⇑i=>i.toNat|_=>0)=F.mk a b r;rw[q9]
 conv=>rhs;rw[<-List.map_id r]
 show rm _ (qg λx _=>rfl)
def C4{Y:List F}(T:-Y<=100000)(G:M[q]?\(.WK (Y%F.XJ))) :
 Iz.WD W [a0,a1,sR q,a3,a4,a5,a6,a7] M=.ok (.vl ((Y%λf=>max f.a f.b)%nD)) M:=by
 unfold Iz;rw[Eg (d:=↥q) (ds:=Y%F.XJ) (M1:=M) (g:=λd=>nD (max (toF d).a (toF d).b)) 'b' (ju G) ('s' T) (λx J=>by
  symm
  let(f,B,rfl):=bu<*J;left;show{1,_,l8 _ _ _ _ _,by simp[max2,iY]})]
 simp[iY]
def C5{T:List F}(G:Z[2]?\(sR q))(Y:-Z=8)(J:-T<=100000)(B:M[q]?\(.WK (T%F.XJ))) :
 Iu.WD W Z M=.ok (.vl (T%eD)) M:=by
 unfold Iu;rw[Eg (d:=↥q) (ds:=T%F.XJ) (M1:=M) (g:=λd=>eD (toF d)) (by simp[G]) (ju B) ('s' J) (λx O=>by
  symm
  let(f,C,rfl):=bu<*O;left;show{1,_,l8 _ _ _ _ _,?_};rw[iY];simp[eD,List.getElem?_set,Y])]
 simp[iY]
def C6(hm:1<=m)(hz:Sz sz)(R:W7 t f M)(hg:Good sz fs)(W:-fs<=3)(A:gr M d\(fs%F.XJ))(hq:M[q]?\(.WK (hs%F.XJ)))(Q:q≠t)(I:WM sz hs)(L:-hs<=15)(hc:-hs<6->Tq hs)(h0:fs=[]->hs=[]) :
 ∃(T:Env)(M':fc),Ja.WD (PW m) [sR t,↑d,sR q,a3,a4,a5,a6,a7] M=.ok (.next,T) M'/\∃(H:D)(J:Nat)(Y:List F),T=[sR t,↑H,sR J,a3,a4,a5,a6,a7] /\
  M'[J]?\(.WK (Y%F.XJ))/\J≠t/\WM sz Y/\-Y<=5/\Tq Y/\xj M M':=by
 unfold Ja;rw[iS];show Ul (λn V M'=>∃(d:D)(fs hs:List F)(q:Nat),V=[sR t,↑d,sR q,a3,a4,a5,a6,a7]/\-fs=n/\Good sz fs/\-fs<=3/\gr M' d\(fs%F.XJ)/\M'[q]?\(.WK (hs%F.XJ))/\q≠t /\
  WM sz hs/\-hs<=15/\(-hs<6->Tq hs)/\(fs=[]->hs=[])/\xj M M')
  (λT M'=>∃(H:D)(J:Nat)(Y:List F),T=[sR t,↑H,sR J,a3,a4,a5,a6,a7]/\M'[J]?\(.WK (Y%F.XJ))/\J≠t/\WM sz Y/\-Y<=5/\Tq Y/\xj M M') ?_ eC (-fs) _ M (by unfold eC;show c_ W ⋯)
  (d,fs,hs,q,rfl,rfl,hg,W,A,hq,Q,I,L,hc,h0,xj.refl M)
 intro n V B hI;symm
 let(d,fs,hs,q,rfl,rfl,g1,K,C,N,g5,g6,g7,g8,g9,G):=hI;left
 by_cases c:5< -hs
 .right
  symm
  let P:(5:Int)<(-hs:Int):=m_ c
  let Zc:fs≠[]:=λe=>by rw[g9 e]at c;simp at c
  let U:1<=-fs:=List.length_pos_iff.mpr Zc
  let S:Wj d () ↑(-1) B\(.vl (fs.dropLast%F.XJ)):=by
   let O:cH (fs%F.XJ) () ↑(-1)=fs.dropLast%F.XJ:=by
    let X:((-1:Int)+(-fs:Int)).toNat=-fs-1:='a'
    simp[cH,clip,X,List.map_dropLast,List.dropLast_eq_take]
   cases d with
   |WL ds=>simp[gr]at C|vl ds=>erw[Wj,C,xq,O]|ref n=>erw[Wj,C,xq,O]|_=>simp[gr]at C
  let gd:Good sz fs.dropLast:=λf hf=>g1 f (List.dropLast_subset fs hf)
  let(Y,M2,e,p2,k2,l2,i2,b2,Z,z2):=rb (M:=B) (m:=m) (d:=.vl (fs.dropLast%F.XJ)) hm hz gd (by simp;show a_ K ⋯) rfl;let E:t< -B:=by let(n,h,_):=R;show wu (G t _ h)
  left;show{5,B,.next,_,M2,-fs-1,?_,?_,.inl rfl,'a',(.vl (fs.dropLast%F.XJ),fs.dropLast,Y,-B,rfl,'b',gd,by simp;show a_ K ⋯,rfl,p2,i_ E,i2,b2,Z,z2,G>>k2)}
  .simp[Ql N,P]
  .simp[-List.map_dropLast,O5,S,e]
 .show .inl ?_
  let P:¬(5:Int)<(-hs:Int):='a'
  show{1,B,by simp[Ql N,P],(d,q,hs,rfl,N,g5,g6,s_ c,g8 (c_ (s_ c) ⋯),G)}
def C7(H:3<=m)(R:W7 t f M):∃(K r:Nat)(sz:Nat->Nat)(O:List F)(I:List (List Kx×D))(M':fc),prog.call m 17 [↥t] M=.ok (.WL [⇑K,Ko O,↥r]) M'/\M'[r]?\(.dT I)/\-M<=r/\Hz sz K O I/\St t f M M':=by
 rw[WQ (a_ ⋯ H) rfl];let zq:t< -M:=by let(n,h,_):=R;show wu h
 symm
 let(d,A,fs,sz,e1,d1,n1,U,g1,l1,s1):=CS (m:=m-1) (r_ H) R;let(O,M2,e2,p2,k2,q6,i2,b2,c2,z2):=rb (M:=A) (m:=m-1) (d:=d) (r_ (a_ ⋯ H)) U g1 l1 d1;left;let qv:t< -A:=by let(n,h,_):=s1.has;show wu h
 symm
 let s2:St t f A M2:=St.of s1.has k2;let(q7,M3,e3,d',q,T,rfl,N,q3,V,L,c3,k3):=C6 (M:=M2) (m:=m-1) (t:=t) (f:=f) (d:=d) (fs:=fs) (hs:=O) (q:=-A) (a3:=()) (a4:=()) (a5:=()) (a6:=()) (a7:=()) (r_ (a_ ⋯ H)) U s2.has g1 l1 (k2.gr d1) p2 (i_ qv) i2 b2 c2 z2;let s3:St t f M2 M3:=St.of s2.has k3;let q1:=s1>>(s2>>s3);left;symm
 let C:=C4 (W:=PW (m-1)) (M:=M3) (a0:=↑↥t) (a1:=↑d') (a3:=()) (a4:=()) (a5:=()) (a6:=()) (a7:=()) (by show a_ L ⋯:-T<=100000) N;let(v,ev,P,q2):=ri (M:=M3) (xs:=(T%λf:F=>max f.a f.b)++[0]) 'b';let J:G6 .XS (.vl ((T%λf:F=>max f.a f.b)%nD)) (.vl [⇑0]) M3=.ok (.vl (((T%λf:F=>max f.a f.b)++[0])%nD)) M3:=by rw[Uk _ _ (by simp;show a_ L ⋯)];simp[nD]
 generalize hX:(D.vl ((T%λf:F=>max f.a f.b)%nD))=X at C J;generalize hY:(D.vl (((T%λf:F=>max f.a f.b)++[0])%nD))=Y at ev J;let q5:v<=2:=by
  rcases dz<*q2 with w|w
  .symm
   let(x,B,rfl):=bu<*w;left;let:=(V._J x B).a;let:=(V._J x B).b;lia
  .simp at w;show a_ (f_ w) (iw _)
 let Q:Bb M3 ↥q (.vl [])\(decide (T=[])):=by
  erw[Bb];cases T with
  |nil=>simp[Mm,gr,N,U0]|cons a l=>simp[Mm,gr,N]
 left;symm
 obtain⟨K,G,hK,k1,q0,ka,kb,p4,s4,l4⟩:∃(K:Nat)(G:fc),
  (Ea.iff (.XX .eq (.v 2) (.Gk .nil)) (.o (.asg (.tg (.name 3)) (.YG .XS (.i 1) (.call 14 (.p (.v 0) (.i 3)))))) .nil).WD (PW (m-1)) [sR t,↑d',sR q,sI (1+(v:Int)),(),(),(),()] M3
   = .ok (.next,[sR t,↑d',sR q,sI K,(),(),(),()]) G/\1<=K/\K<=3/\(∀f∈T,f.a<K)/\(∀f∈T,f.b<K)/\G[q]?\(.WK (T%F.XJ))/\St t f M3 G/\-G=-M3:=by
  by_cases Z:T=[]
  .symm
   let(w,G,ew,lw,sw,qq):=Dj (m:=m-1) (r_ (a_ ⋯ H)) s3.has (many:=3) ⋯ ⋯;left;show(1+w,G,?_,x_,'a',by simp[Z],by simp[Z],sw.keep q _ q3 N,sw,qq);simp[Q,Z,ew]
  .refine(1+v,M3,?_,x_,'a',λx B=>?_,λx B=>?_,N,St.of s3.has (xj.refl _),rfl)
   .simp[Q,Z]
   .let:=P (max x.a x.b) (qw _ (bu.mpr (x,B,rfl)));lia
   .let:=P (max x.a x.b) (qw _ (bu.mpr (x,B,rfl)));lia
 let p5:(G++[.dT []])[q]?\(.WK (T%F.XJ)):=Af p4;let S:=wu p4;let(q8,M6,I,e6,r2,r3,r4,r8,p6,t6,u6):=C3 (W:=PW (m-1)) (M:=G++[.dT []]) (q:=q) (r:=-G) (a0:=↑↥t) (a1:=↑d') (a3:=↑⇑K) (a5:=()) (a6:=()) (a7:=()) U V L p5 'b' (h_ S);left;let q4:M6[q]?\(.WK (T%F.XJ)):=by rw[u6.oth q (h_ S)];show p5
 let qk:=C5 (W:=PW (m-1)) (M:=M6) r2 r8 (by show a_ L ⋯:-T<=100000) q4;let E:=q1>>s4;show{6,K,-G,sz,T,I,M6,?_,p6,E.len,(U,V,c3,L,k1,q0,ka,kb,t6),?_}
 .erw[Fn.XM,Ss,Sq]
  simp[-B5,e1,e2,e3,C,J,ev,hK,MW.new,e6,r3,r4,qk,Jf,Ko]
 .refine E.trans (?_,?_,λa o na h=>?_)
  .rw[u6.len];simp
  .let(n,h,o):=s4.has
   show{1,n,by rw[u6.oth t (by let:=wu h;show h_ this)];show Af h,o}
  .rw[u6.oth a (by let:=wu h;show h_ this)];show Af h
def pD(p:Nat×Nat):D:=.WL [⇑p.1,⇑p.2]
def Meet(Y:List F)(j k:Nat):Prop:=∃f g,Y[j]?\f/\Y[k]?\g/\f.b=g.a
structure Ps(hs:List F)(j k:Nat)(ps:List (Nat×Nat)):Prop where
 all:∀p:Nat×Nat,p∈ps↔Meet hs p.1 p.2/\aW j k p.1 p.2
 len:-ps<=j*-hs+k
def Ps.skip(h:Ps Z j k ps)(T:Z[j]?\f)(Y:Z[k]?\g)(n:f.b≠g.a):Ps Z j (k+1) ps:=by
 show(λp=>?_,by let:=h.len;show a_ this (w_ x_));rw[h.all p];constructor
 .exact λq=>(q.1,by let:=q.2;unfold aW at *;lia)
 .intro q
  show(q.1,?_);let G:=q.2
  by_cases e:p.1=j/\p.2=k
  .symm
   let(J,B,a,b,c):=q.1;rw[e.1,T]at a;rw[e.2,Y]at b;cases a;cases b;left;show absurd c n
  .unfold aW at *;lia
def Ps.put(h:Ps Z j k ps)(T:Z[j]?\f)(Y:Z[k]?\g)(n:f.b=g.a):Ps Z j (k+1) (ps++[(j,k)]):=by
 show(λp=>?_,by let:=h.len;simp;lia);rw[dz,h.all p,ig];constructor
 .rintro(q|q)
  .exact(q.1,by let:=q.2;unfold aW at *;lia)
  .subst q;show({2,f,g,T,Y,n},by unfold aW;lia)
 .intro q
  by_cases e:p.1=j/\p.2=k
  .right;show Prod.ext e.1 e.2
  .show .inl ?_;show(q.1,by let:=q.2;unfold aW at *;lia)
def Ps.next(h:Ps Z j (-Z) ps):Ps Z (j+1) 0 ps:=by
 show(λp=>?_,by let:=h.len;let e:(j+1)*-Z=j*-Z+-Z:=Nat.succ_mul _ _;show a_ this (a_ (g_ e) x_));rw[h.all p];constructor
 .exact λq=>(q.1,by let:=q.2;unfold aW at *;lia)
 .intro q
  show(q.1,?_);symm
  let(f,g,a,b,c):=q.1;let:=(ak<*b).1;let:=q.2;left;unfold aW at *;lia
def eG(f:F)(M:fc):Ax (eD f) ⇑0 M\⇑f.a:=rfl
def W9(f:F)(M:fc):Ax (eD f) ⇑1 M\⇑f.b:=rfl
def Vi{i:Nat}(h:Z[i]?\f):Ax (Ko Z) ⇑i M\(eD f):=Ik q_ (by simp[h])
def Qm:qu .len [Ko Z] M=.ok ⇑(-Z) M:=by simp[qu,Cm,Ko]
def Pb(x y:D)(i j:Nat)(Y:Env):(Tg.names [i,j]).put (.WL [x,y]) Y\((Y.set i ↑x).set j ↑y):=rfl
def C8(C:-Z<=5)(T:M[q]?\(.WK (ps%pD)))(O:Z[j]?\f)(G:Z[k]?\g)(J:Ps Z j k ps) :
 ∃(M':fc)(Y:List (Nat×Nat)),Gd.WD W [a0,sR q,sI j,eD f,sI k,eD g] M=.ok (.next,[a0,sR q,sI j,↑(eD f),sI k,↑(eD g)]) M' /\
  M'[q]?\(.WK (Y%pD))/\Ps Z j (k+1) Y/\Up q M M':=by
 let B:=(ak<*O).1;let N:=(ak<*G).1
 by_cases h:f.b=g.a
 .let L:-(ps%pD)<100000:=by
   let:=J.len;let:j*-Z<=5*5:=Nat.mul_le_mul (e_ (b_ B C)) C
   rw[dh];lia
  let ap:=Gm (d:=.WL [⇑j,⇑k]) T L;show{2,M.set q (.WK ((ps++[Prod.mk j k])%pD)),ps++[(j,k)],?_,m6 T,J.put O G h,Up.set _ _ _};simp[-eq_int,Gd,eG,W9,Eu,h,Gg T,ap,pD]
 .refine{2,M,ps,?_,T,J.skip O G h,Up.refl q M}
  simp[-eq_int,Gd,eG,W9,Eu,h]
def rk(n:1<=m)(l:-hs<=5) :
 ∃(M':fc)(Y:List (Nat×Nat)),prog.call m 7 [Ko hs] M=.ok ↥(-M) M'/\M'[M.length]?\(.WK (Y%pD))/\Ps hs (-hs) 0 Y/\Up (-M) (M++[.WK []]) M':=by
 rw[WQ n rfl];symm
 let(t,M',e,L,P,T,G,Y,rfl,X,Q,d):=Tp (S:=Mz) (W:=PW (m-1)) (ds:=hs%eD) (ρ:=[Ko hs,sR (-M),(),(),(),()]) (M:=M++[.WK []]) (M1:=M++[.WK []]) rfl (by simp[Ko])
  (λj J M'=>∃(L P T G:Option D)(Y:List (Nat×Nat)),J=[↑(Ko hs),sR (-M),L,P,T,G]/\M'[M.length]?\(.WK (Y%pD))/\Ps hs j 0 Y/\Up (-M) (M++[.WK []]) M')
  {5,(),(),(),(),[],rfl,'b',(λp=>by simp[aW],'b'),Up.refl _ _}
  (λj x J B F R=>by
   symm
   let(L,P,T,G,Y,rfl,i,c,A):=R;obtain⟨f,s,rfl⟩:∃f,hs[j]?\f/\eD f=x:='s' F
   let(q,E,H,V,r,N,rfl,O,k2,k3):=Tp (S:=Mx) (W:=PW (m-1)) (ds:=hs%eD) (ρ:=[Ko hs,sR (-M),sI j,eD f,T,G]) (M:=B) (M1:=B) rfl (by simp[Ko])
    (λk J M'=>∃(T G:Option D)(Y:List (Nat×Nat)),J=[↑(Ko hs),sR (-M),sI j,↑(eD f),T,G]/\M'[M.length]?\(.WK (Y%pD))/\Ps hs j k Y/\Up (-M) B M')
    {3,T,G,Y,rfl,i,c,Up.refl _ _}
    (λk y J E z R=>by
     symm
     let(T,G,Y,rfl,O,k2,k3):=R;obtain⟨g,K,rfl⟩:∃g,hs[k]?\g/\eD g=y:='s' z
     let(v,C,I,u,t3,o):=C8 (W:=PW (m-1)) (M:=E) (a0:=↑(Ko hs)) l O s K k2;left;show(_,.next,_,v,Pb _ _ _ _ _,I,.inl rfl,sI k,↑(eD g),C,rfl,u,t3,k3>>o))
   rw[dh]at k2;left;show{4,_,.next,_,E,Pb _ _ _ _ _,by simp[My,H],.inl rfl,(sI j,↑(eD f),V,r,N,rfl,O,k2.next,A>>k3)})
 rw[dh]at Q;left;show{2,M',Y,?_,X,Q,d};simp[Fn.XM,Q3,Q0,MW.new,e]
def XC(T:List F)(Y:List (List Kx×D))(x y:Int):Option D:=if x=-1 then ↑⇑y else if y=-1 then ↑⇑x else Am Y [.inl x,.inl y]
def ro(J:1<=m)(G:M[r]?\(.dT Z))(h:XC U Z x y\v):prog.call m 6 [↥r,⇑x,⇑y] M=.ok v M:=by
 rw[WQ J rfl];unfold XC at h
 by_cases Y:x=-1
 .rw[dm Y]at h;cases h
  simp[Fn.XM,Mw,Mv,Y]
 .rw[cz Y]at h
  by_cases T:y=-1
  .rw[dm T]at h;cases h
   simp[Fn.XM,Mw,Mv,Y,T]
  .rw[cz T]at h
   simp[Fn.XM,Mw,Mv,Y,T,fD G (fF x y),h]
def fG(Y:List F)(c:F):Int:=if c∈Y then(pos c Y:Int)else -1
def Qn(Y:List F)(f g:F):YZ Y f g=fG Y (f.WN g):=rfl
def rq(nd:hs.Nodup){i:Nat}(h:hs[i]?\f):fG hs f=i:=by let m:f∈hs:=az h;rw[fG,dm m,lU nd h]
def Yu:∀k:List Kx,Ut (gC k)\k:=by
 intro k;change cV (k%gB)\k
 induction k with
 |nil=>rfl|cons a l Y=>cases a<;>simp[cV,gB,Z8,Y]
theorem sA:∀Z:List (List Kx×D),Hi (Z%λp=>gC p.1)\(Z%(·.1))
 |[]=>rfl|p::l=>by simp[Hi,Yu,sA l]
theorem sC:∀Z:List (Nat×Nat),Hi (Z%pD)\(Z%λp=>ky p.1 p.2)
 |[]=>rfl|p::l=>by simp[Hi,pD,sC l,ky]
def C9{Y:List (List Kx×D)}(h:Am Y q\v):∃p∈Y,p.1=q:=by
 unfold Am at h;cases e:Y.find? (λp=>decide (p.1=q))with
 |none=>rw[e]at h;cases h|some p=>show(p,List.mem_of_find?_eq_some e,'s' (List.find?_some e))
section
variable{sz:Nat->Nat}{K:Nat}{hs:List F}{jo:List (List Kx×D)}(P:Hz sz K hs jo)
include P
theorem Hz.YD(Y:hs[j]?\f)(T:hs[k]?\g)(h:f.b=g.a):Am jo (ky j k)\⇑(YZ hs f g):=
 P.tb.YD j k f g Y T h (.inl (ak<*Y).1)
theorem Hz.no(h:¬Meet hs j k):Am jo (ky j k)=():=by apply Cn;intro p Y e;let(G,T,f,g,rfl,a,b,c,_):=P.tb.ZK p Y;let(rfl,rfl):=iX e;show h {2,f,g,a,b,c}
theorem Hz.kl:-jo<=25:=by
 let:=P.tb.len;let:-hs*-hs<=5*5:=Nat.mul_le_mul P.len P.len
 lia
theorem Hz.plain:Hj (jo%(·.1))=true:=by let:=P.kl;erw[Hj,dh,bf,f9];show(a_ this ⋯,?_);rw[jr];intro k T;let(p,Y,rfl):=bu<*T;let(j,k,f,g,rfl,_):=P.tb.ZK p Y;simp[ky]
theorem Hz.sm:Ye jo=true:=by
 unfold Ye;rw[jr];intro p Y;let(j,k,f,g,rfl,a,b,_):=P.tb.ZK p Y;let:=(ak<*a).1;let:=(ak<*b).1;let:=P.len;simp[ky]
 lia
theorem Hz.same(h:Ps hs (-hs) 0 ps):Mt (jo%(·.1)) (ps%λp=>ky p.1 p.2)=true:=by
 unfold Mt;rw[bf,jr,jr];constructor
 .intro x J
  let(p,Y,rfl):=bu<*J;let(j,k,f,g,rfl,a,b,c,d):=P.tb.ZK p Y;rw[Bx];show{1,ky j k,bu.mpr ((j,k),(h.all (j,k)).mpr ({2,f,g,a,b,c},d),rfl),'b'}
 .intro y T
  let(p,Y,rfl):=bu<*T;let((f,g,a,b,c),d):=h.all p<*Y;let(q,G,e):=C9 (P.YD a b c);rw[Bx];show{1,q.1,bu.mpr (q,G,rfl),by simp[e]}
theorem Hz.Hd(h:c∈hs\/c.Uu):(fG hs c=-1/\c.Uu)\/∃i:Nat,hs[i]?\c/\fG hs c=i:=by
 by_cases m:c∈hs
 .exact .inr (pos c hs,lT c m,dm m)
 .exact .inl (cz m,h.resolve_left m)
theorem Hz.sD{j k l:Nat}(O:hs[j]?\f)(q:hs[k]?\g)(L:hs[l]?\h)(G:f.b=g.a)(B:g.b=h.a) :
 ∃v:Int,XC hs jo (YZ hs f g) l\⇑v/\XC hs jo j (YZ hs g h)\⇑v:=by
 let A:=az O;let mg:=az q;let H:=az L;let of:=P.inv._J f A;let E:=P.inv._J g mg;let V:=P.inv._J h H;let as:=CM (h:=h) of E G;rw[Qn,Qn];let N:¬((j:Int)=-1):='a'
 let D:¬((l:Int)=-1):='a'
 rcases P.Hd (P.cl f A g mg G)with⟨C,I⟩|⟨u,X,C⟩
 .let z:=lV (of.WN E G) I
  let d:f.a=g.b:=I.1;let T:(f.WN g).WN h=h:=by rw[z];change(cW sz f.a).WN h=h;rw[d,B];show id_comp V
  rcases P.Hd (P.cl g mg h H B)with⟨J,W⟩|⟨w,Q,J⟩
  .let R:=lV (E.WN V B) W
   let Y:f.WN (g.WN h)=f:=by rw[R];change f.WN (cW sz g.a)=f;rw[<-G];show comp_id of
   let c:f=h:=by rw[<-Y,<-as,T]
   let y:j=l:=by rw[<-lU P.inv.nd O,<-lU P.inv.nd L,c]
   show(l,by simp[XC,C],?_);rw[J,XC,cz N,dm rfl,y]
  .let S:¬((w:Int)=-1):='a'
   show(l,by simp[XC,C],?_);rw[J,XC,cz N,cz S];let:=P.YD O Q (show f.b=(g.WN h).a from G);rw[Qn,<-as,T,rq P.inv.nd L]at this;show this
 .let M:¬((u:Int)=-1):='a'
  let F:=P.YD X L (show(f.WN g).b=h.a from B);rcases P.Hd (P.cl g mg h H B)with⟨J,W⟩|⟨w,Q,J⟩
  .let R:=lV (E.WN V B) W
   let Y:f.WN (g.WN h)=f:=by rw[R];change f.WN (cW sz g.a)=f;rw[<-G];show comp_id of
   show(j,?_,?_)
   .rw[C,XC,cz M,cz D]
    rw[Qn,as,Y,rq P.inv.nd O]at F;show F
   .rw[J,XC,cz N,dm rfl]
  .let S:¬((w:Int)=-1):='a'
   show(fG hs ((f.WN g).WN h),?_,?_)
   .rw[C,XC,cz M,cz D];show F
   .rw[J,XC,cz N,cz S]
    let:=P.YD O Q (show f.b=(g.WN h).a from G);rw[Qn,<-as]at this;show this
end
def DA(A:1<=m)(P:Hz sz K Z U):prog.call m 9 [⇑K,Ko Z] M=.ok .XQ M:=by
 rw[WQ A rfl];let(V,B,e,(G,rfl),rfl):=CD (S:=Ox) (W:=PW (m-1)) (ds:=Z%eD) (ρ:=[sI K,Ko Z,()]) (M:=M) (M1:=M) rfl (by simp[Ko])
  (λj T B=>(∃G:Option D,T=[sI K,↑(Ko Z),G])/\B=M) ({1,(),rfl},rfl)
  (λj x T C R X=>by
   let((G,rfl),rfl):=X;obtain⟨f,F,rfl⟩:∃f,Z[j]?\f/\eD f=x:='s' R
   let N:=az F;let O:=P.Z9 f N;let L:=P.bT f N;show{4,_,.next,_,C,rfl,?_,.inl rfl,(↑(eD f),rfl),rfl};let Y:(f.a:Int)<K:=m_ O
   let J:(f.b:Int)<K:=m_ L
   let Q:(0:Int)<=(f.a:Int):=q_
   let I:(0:Int)<=(f.b:Int):=q_
   simp[Ow,eG,W9,O,L,Y,J,Q,I])
 let E:(1:Int)<=K:=by let:=P.k1;show n_ this
 let k3:(K:Int)<=3:=by let:=P.k3;show n_ this
 let H:¬(5:Int)<(-Z:Int):=by let:=P.len;lia
 simp[Fn.XM,Rz,Ry,E,k3,Qm,H,e]
def DB{j k:Nat}(C:1<=m)(P:Hz sz K Z U)(N:Z[j]?\f)(B:Z[k]?\g)(h:f.b=g.a):prog.call m 8 [Ko Z,⇑(YZ Z f g),⇑f.a,⇑g.b] M=.ok (.bl true) M:=by
 rw[WQ C rfl,Qn];let R:=az N;let mg:=az B;rcases P.Hd (P.cl f R g mg h)with⟨G,O⟩|⟨u,J,G⟩
 .let E:f.a=g.b:=O.1
  simp[Fn.XM,Ip,Im,G,E]
 .let Y:=(ak<*J).1
  let L:¬((u:Int)=-1):='a'
  let z:(0:Int)<=(u:Int):=q_
  let T:(u:Int)<(-Z:Int):=m_ Y
  let e:Bb M (eD (f.WN g)) (.WL [⇑f.a,⇑g.b])\true:=by change U0 (Mm M 5) [⇑f.a,⇑g.b] [⇑f.a,⇑g.b]\true;rw[Fy (Qj M 4 _ _) (Fy (Qj M 4 _ _) (show U0 (Mm M 5) [] []\true from rfl))];simp
  simp[Fn.XM,Ip,Im,G,L,z,Y,T,Qm,Vi J,e]
def DC(N:2<=m)(P:Hz sz K Z jo)(X:M[r]?\(.dT jo)):∃U,prog.call m 10 [Ko Z,↥r] M=.ok .XQ U/\xj M U/\-U=-M+1:=by
 rw[WQ (a_ ⋯ N) rfl];let(M1,Y,A,E,B,H):=rk (M:=M) (m:=m-1) (hs:=Z) (r_ N) P.len;let R:xj M M1:=λa o h=>by rw[H.oth a (by let:=wu h;show h_ this)];show Af h
 let F:=R r _ X;let J:((ZC M1 ↥r)*>Hi)\(jo%(·.1)):=by erw[ZC,F,uo,sA]
 let G:((ZC M1 ↥(-M))*>Hi)\(Y%λp=>ky p.1 p.2):=by erw[ZC,E,gr,uo,sC]
 let y:Hj (Y%λp=>ky p.1 p.2)=true:=by
  let:=B.len;let:-Z*-Z<=5*5:=Nat.mul_le_mul P.len P.len
  erw[Hj,dh,bf,f9];show('a',?_);rw[jr];intro k I;let(p,Q,rfl):=bu<*I;simp[ky]
 let O:(Ex.dt (.v 1) (.v 2)).WD (PW (m-1)) [↑(Ko Z),sR r,sR (-M),(),()] M1=.ok (.bl false) M1:=by rw[qT];erw[qL,List.getElem?_cons_succ,List.getElem?_cons_zero,WR.Di,J,P.plain,G,y,P.same B,my,uv]
 let(q,U,e,(C,L,rfl),rfl):=Fv (S:=Q5) (W:=PW (m-1)) (d:=↥(-M)) (ds:=Y%pD) (ρ:=[Ko Z,sR r,sR (-M),(),()]) (M:=M1) (M1:=M1) rfl 'b' (ju E)
  (λj T U=>(∃C L:Option D,T=[↑(Ko Z),sR r,sR (-M),C,L])/\U=M1) ({2,(),(),rfl},rfl) (λi T M h=>by rw[h.2];show ju E)
  (λi x T z l u=>by
   let((C,L,rfl),rfl):=u;obtain⟨p,Q,rfl⟩:∃p,Y[i]?\p/\pD p=x:='s' l
   let((f,g,a,b,c),d):=B.all p<*(az Q);show{4,_,.next,_,z,Pb _ _ _ _ _,?_,.inl rfl,{2,↑⇑p.1,sI p.2,rfl},rfl};let V:=fD F (fF p.1 p.2);rw[show([.inl (p.1:Int),.inl (p.2:Int)]:List Kx)=ky p.1 p.2 from rfl,P.YD a b c]at V;simp[Q4,V,Vi a,Vi b,eG,W9,DB (show 1<=m-1 by show r_ N) P a b c])
 show{1,U,?_,R,by rw[H.len];simp};simp[Fn.XM,U4,U3,A,O,e]
def DD(E:2<=m)(P:Hz sz K Z jo)(hr:M[r]?\(.dT jo)):∃U,prog.call m 11 [Ko Z,↥r] M=.ok .XQ U/\xj M U/\-U=-M+1:=by
 rw[WQ (a_ ⋯ E) rfl];let(M1,X,e1,p1,t1,u1):=rk (M:=M) (m:=m-1) (hs:=Z) (r_ E) P.len;let A:xj M M1:=λa o h=>by rw[u1.oth a (by let:=wu h;show h_ this)];show Af h
 let L:=A r _ hr;let hl:=P.len;let(qk,U,e,(H,V,O,T,G,rfl),rfl):=Fv (S:=O2) (W:=PW (m-1)) (d:=↥(-M)) (ds:=X%pD) (ρ:=[Ko Z,sR r,sR (-M),(),(),(),(),()]) (M:=M1) (M1:=M1) rfl 'b' (ju p1)
  (λj B U=>(∃H V O T G:Option D,B=[↑(Ko Z),sR r,sR (-M),H,V,O,T,G])/\U=M1) ({5,(),(),(),(),(),rfl},rfl) (λi B M h=>by rw[h.2];show ju p1)
  (λi x B Q hx F=>by
   let((H,V,O,T,G,rfl),rfl):=F;obtain⟨p,hp,rfl⟩:∃p,X[i]?\p/\pD p=x:='s' hx
   let((f,g,a,b,c),d):=t1.all p<*(az hp);let(qq,M3,e3,(c5,c6,c7,rfl),rfl):=zf (S:=Oz) (W:=PW (m-1)) (n:=-Z) (ρ:=[Ko Z,sR r,sR (-M),sI p.1,sI p.2,O,T,G]) (M:=Q) (M1:=Q) rfl (by simp[Qm]) (a_ hl ⋯)
    (λj B U=>(∃O T G:Option D,B=[↑(Ko Z),sR r,sR (-M),sI p.1,sI p.2,O,T,G])/\U=Q) ({3,O,T,G,rfl},rfl)
    (λl B I R F=>by
     let((O,T,G,rfl),rfl):=F;let J:Z[l]?=↑Z[l]:=by simp[R]
     let Y:=qX L (fF p.2 l);rw[show([.inl (p.2:Int),.inl (l:Int)]:List Kx)=ky p.2 l from rfl]at Y
     by_cases q:g.b=Z[l].a
     .rw[P.YD b J q]at Y
      let(v,v1,v2):=P.sD a b J c q;let N:=fD L (fF p.1 p.2);rw[show([.inl (p.1:Int),.inl (p.2:Int)]:List Kx)=ky p.1 p.2 from rfl,P.YD a b c]at N;let C:=fD L (fF p.2 l);rw[show([.inl (p.2:Int),.inl (l:Int)]:List Kx)=ky p.2 l from rfl,P.YD b J q]at C;show{4,_,.next,_,I,rfl,?_,.inl rfl,{3,↑⇑l,sI v,sI v,rfl},rfl};simp[Ir,Y,N,C,ro (show 1<=m-1 by show r_ E) L v1,ro (show 1<=m-1 by show r_ E) L v2]
     .rw[P.no (λ(g',h',x,y,z)=>by rw[b]at x;rw[J]at y;cases x;cases y;show q z)]at Y
      show{4,_,.cont,_,I,rfl,?_,.inr rfl,{3,↑⇑l,T,G,rfl},rfl};simp[Ir,Y])
   show{4,_,.next,_,M3,Pb _ _ _ _ _,?_,.inl rfl,{5,↑⇑p.1,sI p.2,c5,c6,c7,rfl},rfl};simp[O1,e3])
 show{1,U,?_,A,by rw[u1.len];simp};simp[Fn.XM,R9,R8,e1,e]
def ZS(n r K:Nat)(T:List F)(Y:List (List Kx×D))(M:fc):Prop:=M[n]?\(.YW 2 [(2,⇑K),(1,Ko T),(0,↥r)])/\M[r]?\(.dT Y)
def DE(J:3<=m)(P:Hz sz K Z U)(T:M[r]?\(.dT U))(E:M[n]?\(.YW 2 [])) :
 ∃M' r',prog.call m 0 [↥n,⇑K,Ko Z,↥r] M=.ok .XQ M'/\ZS n r' K Z U M'/\-M<=r'/\r'< -M'/\(∀(a:Nat)(o:MO),a≠n->M[a]?\o->M'[a]?\o):=by
 rw[WQ (a_ ⋯ J) rfl];let V:=DA (M:=M) (m:=m-1) (r_ (a_ ⋯ J)) P;let(F,R,C,l1):=DC (M:=M) (m:=m-1) (r_ J) P T;let(Y,Q,k2,l2):=DD (M:=F) (m:=m-1) (r_ J) P (C r _ T);let k:=C>>k2;let G:=k n _ E;let r2:=k r _ T;let O:r≠n:=λe=>by rw[e,E]at T;cases T
 let D:Wm ↥n 2 ⇑K Y\(Y.set n (.YW 2 [(2,⇑K)])):=by simp[Wm,G,Zd]
 let W:=m6 (o:=.YW 2 [(2,⇑K)]) G;let A:Wm ↥n 1 (Ko Z) (Y.set n (.YW 2 [(2,⇑K)]))\(Y.set n (.YW 2 [(2,⇑K),(1,Ko Z)])):=by simp[Wm,W,Zd]
 let I:=m6 (o:=.YW 2 [(2,⇑K),(1,Ko Z)]) G;let H:(Y.set n (.YW 2 [(2,⇑K),(1,Ko Z)]))[r]?\(.dT U):=by rw[jw (j4 O)];show r2
 let S:qu .dict [↥r] (Y.set n (.YW 2 [(2,⇑K),(1,Ko Z)]))=.ok ↥(-Y) (Y.set n (.YW 2 [(2,⇑K),(1,Ko Z)])++[.dT U]):=by simp[qu,H,P.sm,MW.new]
 let L:(Y.set n (.YW 2 [(2,⇑K),(1,Ko Z)])++[.dT U])[n]?\(.YW 2 [(2,⇑K),(1,Ko Z)]):=Af I;let X:Wm ↥n 0 ↥(-Y) (Y.set n (.YW 2 [(2,⇑K),(1,Ko Z)])++[.dT U])\((List.set Y n (MO.YW 2 [(2,⇑K),(1,Ko Z)])++[MO.dT U]).set n (MO.YW 2 [(2,⇑K),(1,Ko Z),(0,↥(-Y))])):=by simp[Wm,L,Zd]
 let B:=wu G;show{2,_,-Y,?_,(m6 (o:=.YW 2 [(2,⇑K),(1,Ko Z),(0,↥(-Y))]) L,?_),'a','b',λa o N h=>?_}
 .simp[Fn.XM,Ou,Oq,V,R,Q,D,A,S,X]
 .rw[jw (h_ B)]
  rw[jf 'b'];simp
 .rw[jw (j4 N)]
  show Af (by rw[jw (j4 N)];show k a o h)
end aL
namespace L2
open PySem PySem.Spec PyProof.Rows
abbrev _j:=Sum Int Str
def eH:_j->Value->Bool
 |.inl k,v=>Value.isInt k v|.inr x,v=>Value.isStrOf x v
def DF(w:World):_j->Int
 |.inl k=>hashInt k|.inr x=>hashStr w x
theorem Eh:∀{k:_j}{v:Value},eH k v=true->(∃i t,k=Sum.inl i/\v=Value.int i t)\/(∃x t,k=Sum.inr x/\v=Value.str x t)
 |.inl i,v,h=>by
  let(t,e):=Value.isInt_shape (k:=i) (v:=v) h;show .inl (i,t,rfl,e)
 |.inr x,v,h=>by
  let(t,e):=Value.isStrOf_shape (x:=x) (v:=v) h;show .inr (x,t,rfl,e)
def DG(i:Int)(t:Tok):eH (.inl i) (.int i t)=true:=by simp[eH,Value.isInt]
def DH(x:Str)(t:Tok):eH (.inr x) (.str x t)=true:=by simp[eH,Value.isStrOf]
def DI(a b:Int):decide ((Sum.inl a:_j)=Sum.inl b)=(a==b):=by
 by_cases e:a=b
 .subst e;simp
 .let h:¬(Sum.inl a:_j)=Sum.inl b:=λq=>e (Sum.inl.inj q)
  rw[t8 h];show(xg.mpr e).symm
def DJ(a b:Str):decide ((Sum.inr a:_j)=Sum.inr b)=decide (a=b):=by
 by_cases e:a=b
 .subst e;simp
 .let h:¬(Sum.inr a:_j)=Sum.inr b:=λq=>e (Sum.inr.inj q)
  rw[t8 h,t8 e]
def DK(a:Int)(b:Str):decide ((Sum.inl a:_j)=Sum.inr b)=false:=t8 (λq=>nomatch q)
def DL(a:Str)(b:Int):decide ((Sum.inr a:_j)=Sum.inl b)=false:=t8 (λq=>nomatch q)
def uc(prog:Program)(w:World):PySem.KeyKind prog w _j where
 is:=eH
 hash:=DF w
 inj:=λv a b J T=>by
  rcases Eh J with⟨i,t,rfl,rfl⟩|⟨x,t,rfl,rfl⟩
  .rcases Eh T with⟨j,u,rfl,e⟩|⟨y,u,rfl,e⟩
   .injection e with e1 _;rw[e1]
   .exact nomatch e
  .rcases Eh T with⟨j,u,rfl,e⟩|⟨y,u,rfl,e⟩
   .exact nomatch e
   .injection e with e1 _;rw[e1]
 byValue:=λk v h=>by rcases Eh h with⟨i,t,rfl,rfl⟩|⟨x,t,rfl,rfl⟩<;>rfl
 pyHash:=λY h=>by
  rcases Eh Y with⟨i,t,rfl,rfl⟩|⟨x,t,rfl,rfl⟩
  .exact wpAny_pyHash_int h
  .exact wpAny_pyHash_str h
 eqBool:=λG Y h=>by
  rcases Eh G with⟨i,t,rfl,rfl⟩|⟨x,t,rfl,rfl⟩
  .rcases Eh Y with⟨j,u,rfl,rfl⟩|⟨y,u,rfl,rfl⟩
   .rw[DI]at h;show wpAny_eqBool_int h
   .rw[DK]at h;show SeqAt.EqAt.int_str i t y u _ _ _ _ h
  .rcases Eh Y with⟨j,u,rfl,rfl⟩|⟨y,u,rfl,rfl⟩
   .rw[DL]at h;show SeqAt.EqAt.str_int x t j u _ _ _ _ h
   .rw[DJ]at h;show wpAny_eqBool_str h
 «strs»:=λk x t v h=>by
  rcases Eh h with⟨i,u,rfl,e⟩|⟨y,u,rfl,e⟩
  .exact nomatch e
  .injection e with e1 _
   subst e1;cases v<;>rfl
def DM(prog:Program)(w:World)(i:Int)(t:Tok):(uc prog w).is (.inl i) (.int i t)=true:=DG i t
def DN(prog:Program)(w:World)(x:Str)(t:Tok):(uc prog w).is (.inr x) (.str x t)=true:=DH x t
set_option genInjectivity true in
inductive V where
 |XQ|bl (b:Bool)|int (i:Int)|str (x:Str)|ref (a:Addr)
 deriving DecidableEq
def WX:V->Value->Prop
 |.XQ,u=>u=Value.none|.bl b,u=>u=Value.bool b|⇑i,u=>∃t,u=Value.int i t|.str x,u=>∃t,u=Value.str x t|↥a,u=>u=Value.ref a
abbrev WT:List V->List Value->Prop:=Paired WX
theorem WT.length(r:WT Z U):-Z=-U:=Paired.length r
theorem WT.get:∀{T:List V}{Y:Zl}{i:Nat}{x:V},WT T Y->T[i]?\x->∃u,Y[i]?\u/\WX x u
 |_,_,_,_,.nil,e=>by simp at e|_,_,0,_,.cons r _,e=>by simp at e;subst e;show(_,rfl,r)
 |_,_,i+1,x,.cons _ t,e=>by
  let(u,G,J):=WT.get (i:=i) (x:=x) t ('s' e);show{1,u,'s' G,J}
theorem WT.set{x:V}{u:Value}(r:WX x u):∀{Y:List V}{T:Zl}(i:Nat),WT Y T->WT (Y.set i x) (T.set i u)
 |_,_,_,.nil=>.nil|_,_,0,.cons _ t=>.cons r t|_,_,i+1,.cons q t=>.cons q (WT.set r i t)
theorem WT.append:∀{J T:List V}{Y G:Zl},WT J Y->WT T G->WT (J++T) (Y++G):=by intro _ _ _ _ h r;induction h with|nil=>show r|cons q t ih=>show .cons q ih
theorem WT.take:∀{T:List V}{Y:Zl}(n:Nat),WT T Y->WT (T.take n) (Y.take n)
 |_,_,0,_=>.nil|_,_,_+1,.nil=>.nil|_,_,n+1,.cons r t=>.cons r (WT.take n t)
theorem WT.drop:∀{T:List V}{Y:Zl}(n:Nat),WT T Y->WT (T.drop n) (Y.drop n)
 |_,_,0,r=>r|_,_,_+1,.nil=>.nil|_,_,n+1,.cons _ t=>WT.drop n t
def Tv:Option V->Option Value->Prop
 |some v,↑u=>WX v u|none,()=>True|_,_=>False
def KV{Y:Type}:List (Y×V)->List (Y×Value)->Prop:=Paired λ(p:Y×V) (q:Y×Value)=>p.1=q.1/\WX p.2 q.2
def kV:_j->V
 |.inl i=>⇑i|.inr x=>.str x
set_option genCtorIdx false
inductive HO where
 |WK (xs:List V)
 |WL (xs:List V)
 |dK (jo:List (_j×V))|dT (jo:List (List _j×V))
 |YW (C dx:Addr) (fs:List (Str×V))
 |_W (x:Addr)
 |Wg (o:Obj) (u:HO)
set_option genCtorIdx true
def HO.ctorIdx(u:HO):Nat:=u.casesOn (λ_=>0) (λ_=>1) (λ_=>2) (λ_=>3) (λ_ _ _=>4) (λ_=>5) (λ_ _=>6)
abbrev Hp:=Addr->Option HO
def XD(H:Hp)(a:Addr)(o:HO):Hp:=λb=>if b=a then ↑o else H b
def z8:XD H a o a\o:=by unfold XD;rw[dm rfl]
def qp(h:b≠a):XD H a o b=H b:=by unfold XD;rw[cz h]
def mB{H:Hp}(h:H a\o)(Y:H b\u)(d:o≠u):a≠b:=by intro e;subst e;rw[h]at Y;show d (j6 Y)
def ug{H:Hp}(h:H a\o)(Y:H b=()):a≠b:=by intro e;subst e;rw[h]at Y;cases Y
section
variable(P:Program)(w:World)
def cB(h:Heap)(a:Addr)(Y:U1):Prop:=∃o,h^a\o/\o.cls='U'/\∃n,o.data=.seq Y n/\o.dict=()
def cB.is(x:cB h a items):IsTup h a items:=let (o,h1,h2,n,h3,_):=x;(o,h1,h2,n,h3)
def cB.new(h:Heap)(items:U1):cB (h.push { cls:='U',data:=.seq items }) h.objs.size items:={1,_,cu _ rfl,rfl,(_,rfl,rfl)}
def Dy(H:Hp)(h:Heap)(a:Addr):HO->Prop
 |.WK Y=>-Y<=sizeLine/\∃(T:Zl)(n:Nat),WT Y T/\h^a=some ('l' T.toArray n)|.WL Y=>-Y<=sizeLine/\∃T:List Value,WT Y T/\cB h a T.toArray|.dK jo=>-jo<=sizeLine/\(a==sysModules)=false/\∃B,KV jo B/\h.DictOf (uc P w) a B
 |.dT jo=>-jo<=sizeLine/\(a==sysModules)=false/\∃Y:List (List _j×Addr×Value),
  Paired (λ(p:List _j×V) (q:List _j×Addr×Value)=>p.1=q.1/\H q.2.1\(.WL (p.1%kV))/\WX p.2 q.2.2) jo Y /\
  ∃o J O,h^a\o/\o.ExactDict/\o.data=.dict J O/\J.toList=Y%(entryOfKey (tupleKind (uc P w)))/\(Y%(·.1)).Nodup
 |.YW C dx fs=>H dx\(._W a)/\-fs<=1000/\dx≠a/\h^a\(PySem.W.instObj C dx) /\
  ∃G,h.Ns1 dx G/\(∀f,Tv (fs/f) (G f))/\PySem.Within G (fs%(·.1))
 |._W _=>∃o,h^a\o|.Wg o u=>h^a\o/\Dy H h a u
def Vj(H:Hp)(h:Heap):Prop:=∀a o,H a\o->Dy P w H h a o
end
theorem Dy.lt(x:Dy P w H h a o):a<h.objs.size:=by
 cases o with
 |WK T=>let(_,_,_,_,e):=x;show cj e
 |WL T=>let(_,_,_,p):=x;show(cB.is p).lt
 |dK Y=>let(_,_,_,_,o,_,_,e,_):=x;show cj e
 |dT Y=>let(_,_,_,_,o,_,_,e,_):=x;show cj e
 |YW C J fs=>let(_,_,_,e,_):=x;show cj e
 |_W y=>let(_,e):=x;show cj e
 |Wg G u=>let(e,_):=x;show cj e
theorem Paired.sE{J B:Type}{F G:J->B->Prop}:∀{T:List J}{Y:List B},Paired F T Y->(∀a b,F a b->G a b)->Paired G T Y:=by intro _ _ h f;induction h with|nil=>show .nil|cons r t ih=>show .cons (f _ _ r) ih
def Dy.ZQ(x:Dy P w H h a o)(k:∀b u,(b=a\/H b\(._W a))->h^b\u->h'^b\u)(V:∀b,H b\(._W a)->U b\(._W a))(S:∀b Z,H b\(.WL Z)->U b\(.WL Z)):Dy P w U h' a o:=by
 induction o with
 |WK Z=>let(z,J,n,r,e):=x;show(z,J,n,r,k _ _ (.inl rfl) e)
 |WL Z=>let(z,J,r,Y,e,c):=x;show(z,J,r,Y,k _ _ (.inl rfl) e,c)
 |dK Q=>let(z,y,E,r,Y,G,T,e,c):=x;show(z,y,E,r,Y,G,T,k _ _ (.inl rfl) e,c)
 |dT Q =>
  let(z,y,Z,r,Y,G,T,e,c):=x;show(z,y,Z,Paired.sE r λp q z=>(z.1,S _ _ z.2.1,z.2.2),Y,G,T,k _ _ (.inl rfl) e,c)
 |YW C W fs =>
  let(d,z,B,e,R,(L,G,T,N,c),r):=x;show(V _ d,z,B,k _ _ (.inl rfl) e,R,{3,L,G,T,k _ _ (.inr d) N,c},r)
 |_W y=>let(Y,e):=x;show(Y,k _ _ (.inl rfl) e)
 |Wg Y u O=>let(e,q):=x;show(k _ _ (.inl rfl) e,O q)
theorem Vj.lt(x:Vj P w H h)(e:H a\o):a<h.objs.size:=(x a o e).lt
def Vj.fresh(x:Vj P w H h)(e:h.objs.size<=a):H a=():=by
 cases q:H a with
 |none=>rfl|some u=>show absurd (iu (x.lt q) e) (ph _)
def Vj.YM(x:Vj P w H h)(k:∀b u,h^b\u->h'^b\u):Vj P w H h':=λa o e =>
 (x a o e).ZQ (λb u _ q=>k b u q) (λ_ q=>q) λ_ _ q=>q
def Vj.laid(x:Vj P w H h)(k:∀b u,h^b\u->h'^b\u)(G:h.objs.size<=a)(new:Dy P w (XD H a o) h' a o):Vj P w (XD H a o) h':=λb u e=>by
 let T:=x.fresh G
 by_cases Y:b=a
 .subst Y;rw[z8]at e;cases e;show new
 .rw[qp Y]at e
  show(x b u e).ZQ (λc v _ q=>k c v q) (λc q=>by rw[qp (ug q T)];show q) λc J q=>by rw[qp (ug q T)];show q
def Rd(H:Hp)(a:Addr)(u:HO):Prop:=H a\u\/∃o,H a\(.Wg o u)
def Rd.ok(r:Rd H a u)(x:Vj P w H h):Dy P w H h a u:=by
 rcases r with r|⟨o,r⟩
 .exact x a u r
 .let(_,q):=x a _ r
  show q
def dH:Option HO->Prop
 |some (.WK _)=>True|some (.dK _)=>True|some (.dT _)=>True|some (.YW _ _ _)=>True|_=>False
def Vj._G(ok:Vj P w H h)(O:dH (H x))(L:e=x\/H e\(._W x))(k:∀b u,b≠e->h^b\u->h'^b\u)(N:∃u,h'^e\u)(new:Dy P w (XD H x Z) h' x Z):Vj P w (XD H x Z) h':=λb u q=>by
 let T:∀c y,H c\(._W y)->c≠x:=λc y r z=>by subst z;rw[r]at O;show O
 let C:∀c J,H c\(.WL J)->c≠x:=λc J r z=>by subst z;rw[r]at O;show O
 by_cases B:b=x
 .subst B;rw[z8]at q;cases q;show new
 .rw[qp B]at q
  by_cases Y:b=e
  .let E:H b\(._W x):=by
    rcases L with z|z
    .exact absurd (Y>>z) B
    .rw[Y];show z
   rw[q]at E;cases E;let(v,R):=N;show(v,by rw[Y];show R)
  .refine(ok b u q).ZQ (λc v G r=>k c v ?_ r) (λc r=>by rw[qp (T c b r)];show r) λc J r=>by rw[qp (C c J r)];show r
   rcases G with rfl|G
   .exact Y
   .rintro rfl
    rcases L with z|z
    .exact T c b G z
    .rw[G]at z;cases z;show B rfl
structure Un(fs ex:X0)(H H':Hp)(h h':Heap):Prop where
 keep:∀b o,h^b\o->H b=()->b∉fs->b∉ex->h'^b\o
 slot:∀b o,h^b\o->H b=()->b∈fs->b∉ex->∃sl,h'^b=some { o with slots:=sl }
 free:∀b o,h^b\o->H b=()->b∉ex->H' b=()
 there:∀b o,h^b\o->b∉ex->∃o',h'^b\o'
 cZ:∀b xs,H b\(.WL xs)->H' b\(.WL xs)
 eI:∀b o u,H b\(.Wg o u)->H' b\(.Wg o u)
def Un.any(u:Un fs ex H H1 h h1)(q:h^b\Z)(n:H b=())(T:b∉ex):∃U,h1^b=some { Z with slots:=U }:=by
 by_cases Y:b∈fs
 .exact u.slot b Z q n Y T
 .exact(Z.slots,u.keep b Z q n Y T)
def Un.YM(k:∀b u,h^b\u->h'^b\u):Un fs ex H H h h':=
 (λb Y q _ _ _=>k b Y q,λb Y q _ _ _=>(Y.slots,k b Y q),λ_ _ _ n _=>n,λb Y q _=>(Y,k b Y q),λ_ _ q=>q,λ_ _ _ q=>q)
def Un.refl:Un fs ex H H h h:=Un.YM λ_ _ q=>q
theorem Un.laid(k:∀b u,h^b\u->h'^b\u)(T:h.objs.size<=a)(Y:H a=()):Un fs ex H (XD H a o) h h' where
 keep:=λb u q _ _ _=>k b u q
 slot:=λb u q _ _ _=>(u.slots,k b u q)
 free:=λb u q n _=>by rw[qp (gq (iu (cj q) T))];show n
 there:=λb u q _=>(u,k b u q)
 cZ:=λb G q=>by rw[qp (ug q Y)];show q
 eI:=λb u G q=>by rw[qp (ug q Y)];show q
def Un._G(T:dH (H x))(N:e=x\/H e\(._W x))(k:∀b u,b≠e->h^b\u->h'^b\u)(G:∃u,h'^e\u):Un fs ex H (XD H x o) h h':=by
 let O:∀b,H b=()->b≠x:=λb n z=>by subst z;rw[n]at T;show T
 let B:∀b,H b=()->b≠e:=λb n z=>by
  subst z;rcases N with r|r
  .exact O b n r
  .rw[n]at r;cases r
 let J:∀b u,H b\u->¬dH ↑u->b≠x:=λb u q C z=>by subst z;rw[q]at T;show C T
 show(λb u q n _ _=>k b u (B b n) q,λb u q n _ _=>(u.slots,k b u (B b n) q),λb u q n _=>by rw[qp (O b n)];show n,λb u q _=>?_,
  λb L q=>by rw[qp (J b _ q λz=>z)];show q,λb u L q=>by rw[qp (J b _ q λz=>z)];show q)
 by_cases Y:b=e
 .subst Y;show G
 .exact(u,k b u Y q)
def iZ(h:Heap)(H:Hp):List Addr:=('r' h.objs.size).filter λa=>(H a).isSome
def cb(h:Heap)(H:Hp):Heap:=PySem.W.hideAll h (iZ h H)
def DO(h:Heap)(H:Hp):(cb h H).objs.size=h.objs.size:=PySem.W.hideAll_size _ _
def DP(e:h^b\o)(n:H b=()):(cb h H)^b\o:=
 PySem.W.hideAll_get _ e λY=>by let q:(H b).isSome=true:=(jn<*Y).2;rw[n]at q;simp at q
def DQ(e:(cb h H)^b\o):h^b\o/\H b=():=by
 let Y:h^b\o:=PySem.W.of_hideAll (iZ h H) e;show(Y,?_);cases q:H b with
 |none=>rfl
 |some x =>
  let T:b∈iZ h H:=jn.mpr (jg.mpr (cj Y),by simp[q]);let z:(cb h H)^b=():=PySem.W.hideAll_none (iZ h H) T;rw[z]at e;cases e
structure Mod(K:Fg)(mg:Zs)(base:Heap):Prop where
 ij:K.In base
 glob:base.Ns mainGlobals mg
 YC:∃mb,base.Ns builtinsNs mb/\∀x:Str,x≠"__name__"-> mb x=bootBuiltins x
 nolimit:base.NoLimit
structure Cx where
 prog:Program
 w:World
 K:Fg
 mg:Str->Option Value
 base:Heap
 A:Around
 N:List Str
 s₀:Shared
 H₀:Hp
 env:Env
 YK:List Env
 YH:List Env
 ex:List Addr
 fn:Str->Bool
 YB:Bool
 pn:List (Addr×Obj)
 xe:Value->Shared->Prop
def frs(l:List Env):List Addr:=l.filterMap (·.frame)
abbrev Cx.fs(X:Cx):List Addr:=frs X.YK
def dI(Y:Scope)(x:Str):Prop:=(Y.names/x)\.local\/(Y.names/x)\.cell\/(Y.names/x)\.free
def Loc(Y:Scope)(x:Str):Prop:=(Y.names/x)\.local\/(Y.names/x)\.cell
def Look(Y:Env)(h:Heap)(m:Zs)(x:Str)(u:Value):Prop:=
 (Y.kindOf x\.local/\m x\u)\/((Y.kindOf x\.cell\/Y.kindOf x\.free)/\∃c,(Y.cells/x)\c/\h.IsCell c ↑u)
structure Cx.Ok(X:Cx):Prop where
 _l:Mod X.K X.mg X.base
 kind:X.env.scope.kind=.function
 glob:X.env.globals=mainGlobals
 YC:X.env.builtins=builtinsNs
 above:X.s₀⁻¹<=X.env.locals
 inj:∀x y c,(X.env.cells/x)\c->(X.env.cells/y)\c->x=y
 has:∀x,(X.env.kindOf x\.cell\/X.env.kindOf x\.free)->∃c,(X.env.cells/x)\c
 cab:∀x c,X.fn x=true->(X.env.cells/x)\c->X.s₀⁻¹<=c
 hd:X.YB=true->X.A.handled=()
 frames:X.A.frames\X.YH
 ip:X.YH=X.YK\/(X.YH=X.env::X.YK/\X.env.frame\X.env.locals)
 sF:∀b∈X.ex,b≠X.env.locals/\∀x c,(X.env.cells/x)\c->c≠b
 bs:∀b o,X.base^b\o->X.s₀.1^b\o/\X.H₀ b=()
 cc:X.base.objs.size<=X.s₀⁻¹
 gJ:∀b o,X.base^b\o->b∉X.ex
 iq:∀b∈X.ex,b∉X.fs
 bU:X.s₀.1.FunFrames X.base X.YK
 eJ:∀b∈X.fs,X.H₀ b=()
structure WM(X:Cx)(pins:Zp)(σ:List (Option V))(H:Hp)(s:Shared):Prop where
 ok:X.Ok
 os:s.os=X.s₀.os
 _c:AllBare s.gens
 base:Un X.fs X.ex X.H₀ H X.s₀.1 s.1
 loc:∃m,s.1.Ns X.env.locals m/\∀(i:Nat)(x:Str)(v:V),X.N[i]?\x->σ[i]?\↑v->dI X.env.scope x->∃u,WX v u/\Look X.env s.1 m x u
 cell:∀x c,(X.env.cells/x)\c->∃v,s.1.IsCell c v
 free:H X.env.locals=()
 Tw:∀x c,(X.env.cells/x)\c->H c=()
 _Y:∀p∈X.pn++pins,s.1^p.1\p.2/\H p.1=()/\p.1≠X.env.locals/\p.1∉X.fs/\∀v,p.2.data≠.cell v
 Dk:Vj X.prog X.w H s.1
 len:-σ=-X.N
def Cx.Ok.DR{X:Cx}(ok:X.Ok)(e:X.base^b\o):b∉X.fs:=λY=>by let:=(ok.bU.mem Y).1;rw[e]at this;cases this
theorem WM.bs(I:'i'):∀b o,X.base^b\o->s.1^b\o/\H b=():=λb o e =>
 (I.base.keep b o (I.ok.bs b o e).1 (I.ok.bs b o e).2 (I.ok.DR e) (I.ok.gJ b o e),I.base.free b o (I.ok.bs b o e).1 (I.ok.bs b o e).2 (I.ok.gJ b o e))
def WM.bk(I:'i'):∀b o,X.base^b\o->s.1^b\o:=λb o e=>(I.bs b o e).1
theorem WM._l(I:'i'):Mod X.K X.mg X.base:=I.ok._l
def WM.aP(I:'i'):X.K.In s.1:=I.ok._l.ij.keeps I.bk
theorem WM.lt(I:'i'):X.env.locals<s⁻¹:=let (_,hn,_):=I.loc;hn.lt
def WM.sz(I:'i'):X.s₀⁻¹<=s⁻¹:=gh I.ok.above (Aj I.lt)
def WM.mD(I:'i')(h:s⁻¹<=a):a∉X.fs:=λY=>by let(_,o,T,_):=I.ok.bU.mem Y;show absurd (iu (cj T) (gh I.sz h)) (ph _)
def WM.eK(I:'i'):∀x c,(X.env.cells/x)\c->c≠X.env.locals:=λx c e z=>by let(v,o,J,G):=I.cell x c e;let(m,(B,O,C,T,Y,_),_):=I.loc;rw[z,T]at J;cases J;rw[Y]at G;cases G
theorem WM.bU(I:'i'):s.1.FunFrames X.base X.YK:=by
 let all:∀(l:List Env),(∀b∈frs l,b∈X.fs)->X.s₀.1.FunFrames X.base l->s.1.FunFrames X.base l:=by
  intro l
  induction l with
  |nil=>intro _ _;trivial
  |cons C r P =>
   intro J R;let(B,(L,o,G,E,S,O),N):=R;let Y:L∈X.fs:=J L (by unfold frs;rw[List.filterMap_cons,G];show dw);let(Q,e):=I.base.slot L o S (I.ok.eJ L Y) Y λz=>I.ok.iq L z Y
   show(B,{2,L,_,G,E,e,O},P (λb T=>J b (by unfold frs;rw[List.filterMap_cons,G];show bw _ T)) N)
 show all X.YK (λ_ T=>T) I.ok.bU
theorem WM.YH(I:'i'):s.1.FunFrames X.base X.YH:=by
 rcases I.ok.ip with e|⟨e,hf⟩
 .rw[e];show I.bU
 .rw[e]
  let(m,Y,_):=I.loc;show .cons (by rw[I.ok.kind];decide) hf Y ?_ I.bU;show Heap.get?_none_of_le (gh I.ok.cc I.ok.above)
def WM.jA(I:'i'):∀b∈frs X.YH,b∈X.env.locals::X.fs:=λb Y=>by
 rcases I.ok.ip with e|⟨e,hf⟩
 .rw[e]at Y;show bw _ Y
 .rw[e]at Y
  unfold frs at Y;rw[List.filterMap_cons,hf]at Y;show Y
def WM.sG(I:'i'):∀b∈frs X.YH,H b=():=λb Y=>by
 rcases dj<*(I.jA b Y)with e|Y
 .rw[e];show I.free
 .let(_,o,T,_):=I.ok.bU.mem Y
  show I.base.free b o T (I.ok.eJ b Y) λz=>I.ok.iq b z Y
def WM.XF{ch:X0}(I:'i')(T:∀b∈ch,(b∈X.ex\/X.s₀⁻¹<=b)/\b≠X.env.locals/\(∀x c,(X.env.cells/x)\c->c≠b)/\∀p∈X.pn++pins,p.1≠b)(keep:∀b o,b≠X.env.locals->b∉X.fs->b∉ch->s.1^b\o->H b=()->U^b\o)(O:∀b o,b≠X.env.locals->b∈X.fs->b∉ch->s.1^b\o->H b=()->∃sl,U^b=some { o with slots:=sl })(free:∀b o,b∉ch->s.1^b\o->H b=()->H' b=())(N:∀b o,b∉ch->s.1^b\o->∃o',U^b\o')(W:∀b Z,H b\(.WL Z)->H' b\(.WL Z))(V:∀b o u,H b\(.Wg o u)->H' b\(.Wg o u))(f:∀m,s.1.Ns X.env.locals m->U.Ns X.env.locals m)(j:Vj X.prog X.w H' U)(D:AllBare g') :
 WM X pins σ H' { s with heap:=U,gens:=g',drawn:=d',toks:=t' }:=by
 let P:∀b o,X.s₀.1^b\o->b≠X.env.locals:=λb o e=>gq (iu (cj e) I.ok.above)
 let B:∀b o,X.s₀.1^b\o->b∉X.ex->b∉ch:=λb o e Y L=>by
  rcases(T b L).1 with z|z
  .exact Y z
  .exact absurd (iu (cj e) z) (ph _)
 let J:∀x c,(X.env.cells/x)\c->∀v,s.1.IsCell c v->U.IsCell c v:=λx c e v (o,E,S)=>by
  let G:c∉ch:=λz=>(T c z).2.2.1 x c e rfl
  by_cases K:c∈X.fs
  .let(sl,q):=O c o (I.eK x c e) K G E (I.Tw x c e)
   show(_,q,S)
  .exact(o,keep c o (I.eK x c e) K G E (I.Tw x c e),S)
 show(I.ok,I.os,D,(λb o e n L Y=>?_,λb o e n L Y=>?_,λb o e n Y=>?_,λb o e Y=>?_,λb Z e=>W b Z (I.base.cZ b Z e),λb o Z e=>V b o Z (I.base.eI b o Z e)),?_,λx c e=>?_,?_,λx c e=>?_,λp F=>?_,j,I.len)
 .exact keep b o (P b o e) L (B b o e Y) (I.base.keep b o e n L Y) (I.base.free b o e n Y)
 .let(sl,C):=I.base.slot b o e n L Y
  let(R,Q):=O b _ (P b o e) L (B b o e Y) C (I.base.free b o e n Y);show(R,Q)
 .let(o',C):=I.base.there b o e Y
  show free b o' (B b o e Y) C (I.base.free b o e n Y)
 .let(o',C):=I.base.there b o e Y
  show N b o' (B b o e Y) C
 .let(m,t,g):=I.loc
  show{1,m,f m t,λi x v C Q y=>?_};let(u,r,l):=g i x v C Q y;show(u,r,?_);rcases l with l|⟨k,c,e,z⟩
  .exact .inl l
  .exact .inr (k,c,e,J x c e _ z)
 .let(v,z):=I.cell x c e
  show(v,J x c e v z)
 .let(m,(o,_,_,E,_),_):=I.loc
  show free _ o (λz=>(T _ z).2.1 rfl) E I.free
 .let(v,o,E,S):=I.cell x c e
  show free c o (λz=>(T c z).2.2.1 x c e rfl) E (I.Tw x c e)
 .let(e,n,M,A,d):=I._Y p F
  let G:p.1∉ch:=λz=>(T p.1 z).2.2.2 p F rfl
  show(keep p.1 p.2 M A G e n,free p.1 p.2 G e n,M,A,d)
def WM.un(I:'i')(u:Un X.fs [] H Z s.1 h')(O:Vj X.prog X.w Z h'):WM X pins σ Z { s with heap:=h',toks:=t' }:=by
 let(m,(o,S,R,B,r),_):=id I.loc;let(Q,C):=u.any B I.free 'b';show I.XF (g':=s.gens) (d':=s.drawn) (ch:=[]) (λ_ z=>nomatch z) (λb o _ G _ e n=>u.keep b o e n G 'b') (λb o _ G _ e n=>u.slot b o e n G 'b') (λb o _ e n=>u.free b o e n 'b') (λb o _ e=>u.there b o e 'b') u.cZ u.eI (λP N=>by
  let(E,T,J,Y,L):=N;rw[B]at Y;cases Y;show{3,_,T,J,C,L}) O I._c
def WM.call(I:'i')(u:Un (frs X.YH) ch H Z s.1 h')(N:Vj X.prog X.w Z h')(R:AllBare g')(T:∀b∈ch,(b∈X.ex\/X.s₀⁻¹<=b)/\b≠X.env.locals/\(∀x c,(X.env.cells/x)\c->c≠b)/\∀p∈X.pn++pins,p.1≠b) :
 WM X pins σ Z { s with heap:=h',gens:=g',drawn:=d',toks:=t' }:=by
 let(m,(o,W,V,C,r),_):=id I.loc;let(F,J):=u.any C I.free λz=>(T _ z).2.1 rfl
 show I.XF (ch:=ch) T (λb o J E Y e n=>u.keep b o e n (λz=>(dj<*(I.jA b z)).elim J E) Y) (λb o _ _ Y e n=>u.any e n Y) (λb o Y e n=>u.free b o e n Y) (λb o Y e=>u.there b o e Y) u.cZ u.eI (λQ L=>by
  let(S,B,O,G,P):=L;rw[C]at G;cases G;show{3,_,B,O,J,P}) N R
def WM.Z_(I:'i')(k:∀b o,b≠it->s.1^b\o->Z^b\o)(B:H it=())(G:it≠X.env.locals)(R:it∈X.ex\/X.s₀⁻¹<=it)(C:∀x c,(X.env.cells/x)\c->c≠it)(P:∀p∈X.pn++pins,p.1≠it):WM X pins σ H { s with heap:=Z,toks:=t' }:=by
 let T:∀b u,H b\u->b≠it:=λb u e z=>by rw[z,B]at e;cases e
 show I.XF (g':=s.gens) (d':=s.drawn) (ch:=[it]) (λb L=>?_) (λb o _ _ Y e _=>k b o (λz=>Y (by simp[z])) e) (λb o _ _ Y e _=>(o.slots,k b o (λz=>Y (by simp[z])) e)) (λ_ _ _ _ n=>n)
  (λb o Y e=>(o,k b o (λz=>Y (by simp[z])) e)) (λ_ _ e=>e) (λ_ _ _ e=>e) (λm J=>?_) (λb u e=>?_) I._c
 .let e:b=it:='s' L
  subst e;show(R,G,C,P)
 .let(o,O,N,E,r):=J
  show{3,o,O,N,k _ o (j4 G) E,r}
 .refine(I.Dk b u e).ZQ (λc v Y q=>k c v ?_ q) (λ_ q=>q) λ_ _ q=>q
  rcases Y with z|z
  .rw[z];show T b u e
  .exact T c _ z
def WM.tok(I:'i')(t:Nat):WM X pins σ H { s with toks:=t }:=I.un (h':=s.1) (t':=t) Un.refl I.Dk
theorem WM.YM(I:'i')(k:∀b u,s.1^b\u->Z^b\u):WM X pins σ H { s with heap:=Z,toks:=t' }:=I.un (Un.YM k) (I.Dk.YM k)
theorem WM.laid(I:'i')(k:∀b u,s.1^b\u->h'^b\u)(Y:s⁻¹<=a)(new:Dy X.prog X.w (XD H a o) h' a o) :
 WM X pins σ (XD H a o) { s with heap:=h',toks:=t' }:=I.un (Un.laid k Y (I.Dk.fresh Y)) (I.Dk.laid k Y new)
theorem WM._G(I:'i')(T:dH (H x))(G:e=x\/H e\(._W x))(k:∀b u,b≠e->s.1^b\u->Z^b\u)(Y:∃u,Z^e\u)(new:Dy X.prog X.w (XD H x o) Z x o):WM X pins σ (XD H x o) { s with heap:=Z,toks:=t' }:=I.un (Un._G T G k Y) (I.Dk._G T G k Y new)
def WM.YL(I:'i')(G:-σ'=-σ)(w:∀(i:Nat) v,σ'[i]?\↑v->σ[i]?\↑v):WM X pins σ' H s:=
 (I.ok,I.os,I._c,I.base,let (m,hn,hl'):=I.loc;{1,m,hn,λi x v Y J T=>hl' i x v Y (w i v J) T},I.cell,I.free,I.Tw,I._Y,I.Dk,G>>I.len)
def WM.Xa(I:'i')(h:∀p∈jB,s.1^p.1\p.2/\H p.1=()/\p.1≠X.env.locals/\p.1∉X.fs/\∀v,p.2.data≠.cell v):WM X jB σ H s:=
 (I.ok,I.os,I._c,I.base,I.loc,I.cell,I.free,I.Tw,λp Y=>(dz<*Y).elim (λz=>I._Y p (qw _ z)) (h p),I.Dk,I.len)
def Hr{N:Ya}(G:N.Nodup){i:Nat}(a:N[i]?\x)(b:N[j]?\x):i=j:=by let(B,Y):=ak<*a;let(J,T):=ak<*b;show(List.getElem_inj G)<*(Y>>T.symm)
def DS(I:'i')(hN:X.N.Nodup)(S:X.N[i]?\x)(B:Loc X.env.scope x)(r:WX v u)(h:∀s',WM X pins (σ.set i ↑v) H s'->(∃a,Heap.SameBut a s.1 s'.1/\(a=X.env.locals\/(X.env.cells/x)\a))->Q Unit.unit s')(hf:autoParam (X.fn x=true\/(X.env.scope.names/x)\.local) k_._auto_1):wpAny M A (storeName X.env x u) Q E s:=by
 let(m,hn,hl):=id I.loc;let qk:(X.env.scope.kind==.class||(X.env.scope.kind==.module&&X.env.locals != X.env.globals))=false:=by rw[I.ok.kind];rfl
 let C:i < -σ:=by rw[I.len];show(ak<*S).1
 let eK:=I.eK;let G:∀{a:Addr}{h':Heap},(∃o,s.1^a\o/\H a=())->Heap.SameBut a s.1 h'->Vj X.prog X.w H h':=fun{a h'} ha Y b ob e=>by
  let(_,_,Vk):=ha;show(I.Dk b ob e).ZQ (λc K J q=>Y.2 c ?_>>q) (λ_ q=>q) λ_ _ q=>q
  rintro rfl;rcases J with rfl|J
  .rw[Vk]at e;cases e
  .rw[Vk]at J;cases J
 rcases B with hk|hk
 .refine wpAny_storeName_local hk hn (λh' Rj Y=>?_) qk
  let(oL,_,_,qq,_):=id hn;show h _ (I.ok,I.os,I._c,(λb o e n P B=>?_,λb o e n P B=>?_,I.base.free,λb o e B=>?_,I.base.cZ,I.base.eI),{1,_,Rj,λj y v' T O e3=>?_},λy c e=>?_,I.free,I.Tw,λp hp=>?_,G (oL,qq,I.free) Y,'s' I.len) {1,_,Y,.inl rfl}
  .exact(Y.2 b (gq (iu (cj e) I.ok.above)))>>(I.base.keep b o e n P B)
  .let(sl,T):=I.base.slot b o e n P B
   show{1,sl,Y.2 b (gq (iu (cj e) I.ok.above))>>T}
  .let(o',T):=I.base.there b o e B
   show(o',Y.2 b (gq (iu (cj e) I.ok.above))>>T)
  .by_cases L:j=i
   .subst L
    rw[S]at T;cases T;rw[Cu C]at O;cases O;show{1,u,r,.inl (hk,'b')}
   .rw[ye (j4 L)]at O
    let(u',r',q):=hl j y v' T O e3;show{1,u',r',?_};rcases q with⟨k,e⟩|⟨k,c,e,z⟩
    .refine .inl (k,?_)
     let:y≠x:=λe=>L (Hr hN T (e▸S))
     simp[this,e]
    .exact .inr (k,c,e,z.sameBut Y (eK y c e))
  .let(K,z):=I.cell y c e
   show(K,z.sameBut Y (eK y c e))
  .let(e,n,Z,nf,d):=I._Y p hp
   show(Y.2 p.1 Z>>e,n,Z,nf,d)
 .let R:X.fn x=true:=by
   rcases hf with z|z
   .exact z
   .rw[z]at hk;cases hk
  let(c,J):=I.ok.has x (.inl hk);let(K,z):=I.cell x c J;show wpAny_storeName_cell I.ok.kind hk J z (λh' V Y=>?_);let(oc,F,U):=id z;show h (s<&>h') (I.ok,I.os,I._c,(λb o e n P B=>?_,λb o e n P B=>?_,I.base.free,λb o e B=>?_,I.base.cZ,I.base.eI),{1,m,hn.sameBut Y (j4 (eK x c J)),λj y v' T O e3=>?_},λy D e=>?_,I.free,I.Tw,λp hp=>?_,G (oc,F,I.Tw x c J) Y,'s' I.len) {1,c,Y,.inr J}
  .exact(Y.2 b (gq (iu (cj e) (I.ok.cab x c R J))))>>(I.base.keep b o e n P B)
  .let(sl,T):=I.base.slot b o e n P B
   show(sl,Y.2 b (gq (iu (cj e) (I.ok.cab x c R J)))>>T)
  .let(o',T):=I.base.there b o e B
   show(o',Y.2 b (gq (iu (cj e) (I.ok.cab x c R J)))>>T)
  .by_cases L:j=i
   .subst L
    rw[S]at T;cases T;rw[Cu C]at O;cases O;show(u,r,.inr (.inl hk,c,J,V))
   .rw[ye (j4 L)]at O
    let(u',r',q):=hl j y v' T O e3;show(u',r',?_);rcases q with q|⟨k,D,e,z'⟩
    .exact .inl q
    .refine .inr (k,D,e,z'.sameBut Y ?_)
     rintro rfl;show L (Hr hN T (I.ok.inj _ _ _ e J▸S))
  .by_cases W:D=c
   .subst W;show(_,V)
   .let(w2,z2):=I.cell y D e
    show(w2,z2.sameBut Y W)
  .let(e,n,Z,nf,d):=I._Y p hp
   show(Y.2 p.1 ?_>>e,n,Z,nf,d);intro q;rw[q,F]at e;let q':oc=p.2:=j6 e;show d K (by rw[<-q'];show U)
def DT(I:'i')(T:X.N.Nodup)(Y:X.N[i]?\x)(B:Loc X.env.scope x)(r:WX v u)(h:∀Z,WM X pins (σ.set i ↑v) H Z->Q Unit.unit Z)(J:autoParam (X.fn x=true\/(X.env.scope.names/x)\.local) k_._auto_1):wpAny M A (storeName X.env x u) Q E s:=
 DS I T Y B r (λZ G _=>h Z G) J
def WM.call'(I:'i')(N:s'.os=s.os)(u:Un (frs X.YH) ch H Z s.1 s'.1)(B:Vj X.prog X.w Z s'.1)(C:AllBare s'.gens)(Y:∀b∈ch,(b∈X.ex\/X.s₀⁻¹<=b)/\b≠X.env.locals/\(∀x c,(X.env.cells/x)\c->c≠b)/\∀p∈X.pn++pins,p.1≠b):WM X pins σ Z s':=by let(L,J,G,T,O):=s';let e:O=s.os:=N;subst e;show I.call (g':=J) (t':=T) (d':=G) u B C Y
abbrev XK:=Value->Option Addr->Hp->Prop
abbrev St:=List (Option V)
abbrev VK:=V->Hp->Prop
abbrev TE:=St->Hp->VK->Prop
abbrev TT:=St->Hp->(Bool->Hp->Prop)->Prop
abbrev TA:=St->Hp->(List V->Hp->Prop)->Prop
structure Ends where
 nx:St->Hp->Prop
 rt:VK
 bk:St->Hp->Prop:=λ_ _=>False
 ct:St->Hp->Prop:=λ_ _=>False
abbrev TS:=Ends->St->Hp->Prop
def EP(X:Cx)(Y:Zp)(J:St)(Q:VK)(u:Value)(G:Shared):Prop:=∃v T,WM X Y J T G/\WX v u/\Q v T
def TP(X:Cx)(Y:Zp)(J:St)(Q:Bool->Hp->Prop)(b:Bool)(G:Shared):Prop:=∃T,WM X Y J T G/\Q b T
def AP(X:Cx)(Y:Zp)(J:St)(Q:List V->Hp->Prop)(O:Zl)(B:Shared):Prop:=∃T G,WM X Y J G B/\WT T O/\Q T G
def SP(X:Cx)(T:Zp)(D:Ends)(f:Flow)(J:Shared):Prop:=
 match f with
 |.next=>∃Y G,WM X T Y G J/\D.nx Y G|.brk=>∃Y G,WM X T Y G J/\D.bk Y G|.cont=>∃Y G,WM X T Y G J/\D.ct Y G|.ret u=>∃v Y G,WM X T Y G J/\WX v u/\D.rt v G
def PE(X:Cx)(e:Expr)(t:TE):Prop:=
 ∀(Y:Zp)(s:Shared)(T:St)(H:Hp)(Q:VK),WM X Y T H s->t T H Q->'q' (eval e X.env) (EP X Y T Q) X.xe s
def PT(X:Cx)(e:Expr)(t:TT):Prop:=
 ∀(Y:Zp)(s:Shared)(T:St)(H:Hp)(Q:Bool->Hp->Prop),WM X Y T H s->t T H Q->'q' (isTrue e X.env (eval e X.env)) (TP X Y T Q) X.xe s
def PW(X:Cx)(e:Expr)(t:TT):Prop:=
 ∀(T:Sem Value)(Y:Zp)(s:Shared)(G:St)(H:Hp)(Q:Bool->Hp->Prop),WM X Y G H s->t G H Q->'q' (isTrue e X.env T) (TP X Y G Q) X.xe s
def PW.pt(h:PW X e t):PT X e t:=h _
def PA(X:Cx)(G:Y3)(t:TA):Prop:=
 ∀(pos:Pos)(Y:Zp)(s:Shared)(T:St)(H:Hp)(Q:List V->Hp->Prop),WM X Y T H s->t T H Q->'q' (spliced (backTo pos (starEach G X.env))) (AP X Y T Q) X.xe s
def PS(X:Cx)(st:Stmt)(t:TS):Prop:=
 ∀(Y:Zp)(s:Shared)(T:St)(H:Hp)(D:Ends),WM X Y T H s->t D T H->'q' (exec st X.env) (SP X Y D) X.xe s
def Uv(X:Cx)(st:List Stmt)(t:TS):Prop:=
 ∀(Y:Zp)(s:Shared)(T:St)(H:Hp)(D:Ends),WM X Y T H s->t D T H->'q' (execs st X.env) (SP X Y D) X.xe s
def Kd(h:wpAny M A t Q E s)(Y:∀a s,Q a s->Z a s):wpAny M A t Z E s:=mj h Y λ_ _ x=>x
def Uw(h:wpAny M A t (EP X pins σ Q) E s)(k:∀a s x H,'i'->WX x a->Q x H->Z a s):wpAny M A t Z E s:=Kd h λ_ _ z=>by let(_,_,i,r,q):=z;show k _ _ _ _ i r q
def eL(h:wpAny M A t (AP X pins σ Q) E s)(k:∀a s x H,'i'->WT x a->Q x H->Z a s):wpAny M A t Z E s:=Kd h λ_ _ z=>by let(_,_,i,r,q):=z;show k _ _ _ _ i r q
def gK(h:wpAny M A t (TP X pins σ Q) E s)(k:∀a s H,'i'->Q a H->Z a s):wpAny M A t Z E s:=Kd h λ_ _ z=>by let(_,i,q):=z;show k _ _ _ i q
def DU(i:Nat):TE:=λY H Q=>∃v,Y[i]?\↑v/\Q v H
def tC(v:V):TE:=λ_ H Q=>Q v H
def DV(R:X.N[i]?\x)(C:dI X.env.scope x)(J:autoParam ((x==("__debug__": Str))=false) bL._auto_1)(B:autoParam ((x==("__classdict__": Str))=false) bL._auto_1):PE X (.Name x pos) (DU i):=by
 intro G s L H Q I h;let(v,e,h):=h;let(m,P,S):=I.loc;let(u,r,l):=S i x v R e C;let fin:EP X G L Q u s:=(v,H,I,r,h);rcases l with⟨Y,E⟩|⟨Y,c,O,T⟩
 .exact wpAny_Name (wpAny_loadName_local I.ok.kind Y P E fin) J
 .rcases Y with Y|Y
  .exact wpAny_Name (wpAny_loadName_cell I.ok.kind Y O T fin) J
  .exact wpAny_Name (wpAny_loadName_free I.ok.kind Y O T fin B) J
def sH:PE X (.Constant ⇑i j pos) (tC ⇑i):=λ_ _ _ H _ I h=>wpAny_Constant_int (⇑i,H,I.tok _,(_,rfl),h)
def DW:PE X (.Constant (.bool b) j pos) (tC (.bl b)):=λ_ _ _ H _ I h=>Constant_bool (.bl b,H,I,rfl,h)
def DX:PE X (.Constant .none j pos) (tC .XQ):=λ_ _ _ H _ I h=>Constant_none (.XQ,H,I,rfl,h)
def Gl(X:Cx)(x:Str):Prop:=X.env.kindOf x\.globalImplicit
def mE(I:'i')(Y:Gl X x)(T:X.mg x\u)(h:Q u s)(G:autoParam ((x==("__debug__": Str))=false) bL._auto_1):'q' (eval (.Name x pos) X.env) Q E s:=
 Calls.Name_function_global I.ok.kind Y (Calls.loadGlobal_global (by rw[I.ok.glob];show I._l.glob.keeps I.bk) T h) G
def Fe(I:'i')(O:Gl X x)(G:X.mg x=())(Y:bootBuiltins x\u)(h:Q u s)(J:autoParam (x≠"__name__") bL._auto_1)(T:autoParam ((x==("__debug__": Str))=false) bL._auto_1):'q' (eval (.Name x pos) X.env) Q E s:=by let(N,C,B):=I._l.YC;show Calls.Name_function_global I.ok.kind O (Calls.loadGlobal_builtin (by rw[I.ok.glob];show I._l.glob.keeps I.bk) G (by rw[I.ok.YC];show C.keeps I.bk) (B x J>>Y) h) T
def DY(Y:Gl X x)(T:X.mg x\u)(r:WX v u)(G:autoParam ((x==("__debug__": Str))=false) bL._auto_1):PE X (.Name x pos) (tC v):=
 λ_ _ _ H _ I h=>mE I Y T (v,H,I,r,h) G
def PC(X:Cx)(B:CmpOp)(a b:Expr)(t:TE):Prop:=
 ∀(Y:Zp)(s:Shared)(J:St)(H:Hp)(Q:VK),WM X Y J H s->t J H Q ->
  'q' (eval a X.env) (λv G=>'q' (eval b X.env) (λu T=>'q' (compareOp B v u) (EP X Y J Q) X.xe T) X.xe G) X.xe s
def yP(b:Expr)(h:op≠.In)(T:op≠.NotIn):behindInMarks op b=false:=by
 let Y:(op==CmpOp.In)=false:=by cases op<;>first|rfl|show absurd rfl h
 let G:(op==CmpOp.NotIn)=false:=by cases op<;>first|rfl|show absurd rfl T
 cases b<;>simp[behindInMarks,Y,G]
def tB(t:TE):TT:=λT H Q=>t T H λx Y=>∃c,x=.bl c/\Q c Y
def DZ(h:PC X op a b t)(G:autoParam (behindInMarks op b=false) pA._auto_1):PE X (.Compare a [op] [b] pos) t:=λY s T H Q I J=>wpAny_Compare1 (h Y s T H Q I J) G
def Dx(h:PC X op a b t)(T:autoParam (behindInMarks op b=false) pA._auto_1):PT X (.Compare a [op] [b] pos) (tB t):=by intro Y s G H Q I J;show wpAny_isTrue_Compare1 (Kd (h Y s G H _ I J) λv L T=>Kd T λu P O=>Uw O λc E x B I1 C N=>?_) T;let(d,rfl,q):=N;cases C;show qd (B,I1,q)
def D0(h:PE X e t)(O:autoParam (∀Z,isTrue e X.env Z=(do let v<-Z;standAt e.pos;holding [v] (truthy v))) ke._auto_1):PT X e (tB t):=by intro Y s T H Q I G;show isTrue_plain (Uw (h Y s T H _ I G) λv N x J I1 B C=>?_) (O _);let(d,rfl,q):=C;cases B;show qd (J,I1,q)
def D1(t u:TT):TT:=λT H Q=>t T H λc Y=>if c=true then u T Y Q else Q false Y
def D2(t u:TT):TT:=λT H Q=>t T H λc Y=>if c=true then Q true Y else u T Y Q
def D3(t:TT):TT:=λT H Q=>t T H λc Y=>Q (!c) Y
def D4(G:PT X a tA):PW X (.BoolOp .And [a] pos) tA:=by
 intro B Y s T H Q I h;show isTrue_and (Kd (G Y s T H Q I h) λc J e=>?_);cases c with
 |true=>show isTrue_and_nil e|false=>show e
def D5(G:PT X a tA):PW X (.BoolOp .Or [a] pos) tA:=by
 intro B Y s T H Q I h;show isTrue_or (Kd (G Y s T H Q I h) λc J e=>?_);cases c with
 |false=>show isTrue_or_nil e|true=>show e
def D6{T:Y3}(L:PT X a tA)(N:PW X (.BoolOp .And (b::T) pos) mF):PW X (.BoolOp .And (a::b::T) pos) (D1 tA mF):=by
 intro C Y s G H Q I h;show isTrue_and (gK (L Y s G H _ I h) λc O J I1 B=>?_);cases c with
 |true=>show N C Y O G J Q I1 B|false=>show(J,I1,B)
def D7{T:Y3}(L:PT X a tA)(N:PW X (.BoolOp .Or (b::T) pos) mF):PW X (.BoolOp .Or (a::b::T) pos) (D2 tA mF):=by
 intro C Y s G H Q I h;show isTrue_or (gK (L Y s G H _ I h) λc O J I1 B=>?_);cases c with
 |true=>show(J,I1,B)|false=>show N C Y O G J Q I1 B
def D8(T:PT X a tA):PT X (.UnaryOp .Not a pos) (D3 tA):=by intro Y s J H Q I h;show isTrue_not (T Y s J H (λc G=>Q (!c) G) I h)
def D9(G J:TE):TE:=λT H Q=>G T H λx Y=>∃c,x=.bl c/\if c=true then J T Y Q else Q (.bl false) Y
def EC(G J:TE):TE:=λT H Q=>G T H λx Y=>∃c,x=.bl c/\if c=true then Q (.bl true) Y else J T Y Q
def ED(G:TE):TE:=λT H Q=>G T H λx Y=>∃c,x=.bl c/\Q (.bl (!c)) Y
def EE{T:Y3}(L:PE X a Z)(N:PE X (.BoolOp .And (b::T) pos) tb):PE X (.BoolOp .And (a::b::T) pos) (D9 Z tb):=by
 intro Y s J H Q I h;show BoolOp_and (Uw (L Y s J H _ I h) λv O x B I1 C G=>?_);let(c,rfl,G):=G;cases C;show qd ?_;cases c with
 |true=>show N Y O J B Q I1 G|false=>show(.bl false,B,I1,rfl,G)
def EI{T:Y3}(L:PE X a Z)(N:PE X (.BoolOp .Or (b::T) pos) tb):PE X (.BoolOp .Or (a::b::T) pos) (EC Z tb):=by
 intro Y s J H Q I h;show BoolOp_or (Uw (L Y s J H _ I h) λv O x B I1 C G=>?_);let(c,rfl,G):=G;cases C;show qd ?_;cases c with
 |false=>show N Y O J B Q I1 G|true=>show(.bl true,B,I1,rfl,G)
def EJ(O:PE X a Z):PE X (.UnaryOp .Not a pos) (ED Z):=by intro Y s G H Q I h;show UnaryOp_ (Uw (O Y s G H _ I h) λv C x J I1 B T=>?_);let(c,rfl,T):=T;cases B;show not_of (qd (.bl (!c),J,I1,rfl,T))
def EK(t:TT)(G J:TE):TE:=λY H Q=>t Y H λc T=>if c=true then G Y T Q else J Y T Q
def EN(O:PT X c tA)(N:PE X a Z)(C:PE X b tb):PE X (.IfExp c a b pos) (EK tA Z tb):=by
 intro Y s T H Q I h;show wpAny_IfExp (gK (O Y s T H _ I h) λd G J I1 B=>?_);cases d with
 |true=>show N Y G T J Q I1 B|false=>show C Y G T J Q I1 B
def Kp(K:Fg)(H:Hp)(a:Addr)(T:List V):Prop:=
 Rd H a (.WK T) \/
  ∃(o:Obj)(Y:U1)(n:Nat),(K/a)\o/\o.cls=.type "list"/\o.dict=()/\o.data=.seq Y n/\Y.size<=sizeLine/\WT T Y.toList
def Oe(K:Fg)(H:Hp)(a:Addr)(T:List V):Prop:=
 Rd H a (.WL T) \/
  ∃(o:Obj)(Y:U1)(n:Nat),(K/a)\o/\o.cls='U'/\o.data=.seq Y n/\Y.size<=sizeLine/\WT T Y.toList
def EO:Value->Option V
 |.none=>↑.XQ|.bool b=>↑(.bl b)|.int i _=>↑⇑i|.str x _=>↑(.str x)|↥a=>↑↥a|_=>()
def WX.abs(r:WX x u):EO u\x:=by
 cases x with
 |XQ=>cases r;rfl|bl _=>cases r;rfl|int _=>let(t,rfl):=r;rfl
 |str _=>let(t,rfl):=r;rfl
 |ref _=>cases r;rfl
def WX.inj(r:WX x u)(q:WX y u):x=y:=j6 (r.abs.symm>>q.abs)
theorem WT.inj{T ys:List V}{G:Zl}(h:WT T G)(Y:WT ys G):T=ys:=by
 induction h generalizing ys with
 |nil=>cases Y;rfl|cons r t B=>cases Y with|cons O J=>rw[r.inj O,B J]
def Kp.of{K:Fg}(h:H a\(.WK xs)):Kp K H a xs:=.inl (.inl h)
def Oe.of{K:Fg}(h:H a\(.WL xs)):Oe K H a xs:=.inl (.inl h)
def WM.list(I:'i')(h:Kp X.K H a U):∃Z:List Value,WT U Z/\PlainL s.1 a Z.toArray/\-U<=sizeLine:=by
 rcases h with h|⟨o,Z,n,hk,hc,hd,hs,hz,r⟩
 .let(z,Z,n,r,e):=h.ok I.Dk
  show(Z,r,{2,_,n,e,rfl,rfl,rfl},z)
 .refine(Z.toList,r,{2,o,n,I.aP a o hk,hc,hd,'s' hs},?_)
  let e:=-r;erw[vd]at e;show a_ (f_ e) hz
def WM.tuple(I:'i')(h:Oe X.K H a U):∃Z:List Value,WT U Z/\IsTup s.1 a Z.toArray/\-U<=sizeLine:=by
 rcases h with h|⟨o,Z,n,hk,hc,hs,hz,r⟩
 .let(z,Z,r,p):=h.ok I.Dk
  show(Z,r,p.is,z)
 .refine(Z.toList,r,(o,I.aP a o hk,hc,n,'s' hs),?_)
  let e:=-r;erw[vd]at e;show a_ (f_ e) hz
def WM.sJ(I:'i')(h:Kp X.K H a Z)(G:Kp X.K H a ys):Z=ys:=by
 let(B,r,(o,n,e,_,_,d),_):=I.list h;let(its',J,(O,C,Y,_,_,T),_):=I.list G;rw[e]at Y;cases Y;rw[d]at T;injection T with d1 _
 let:B=its':='s' (rm Array.toList d1)
 subst this;show r.inj J
def WM.sL(I:'i')(h:Oe X.K H a Z)(G:Oe X.K H a ys):Z=ys:=by
 let(B,r,(o,e,_,n,d),_):=I.tuple h;let(its',J,(O,Y,_,C,T),_):=I.tuple G;rw[e]at Y;cases Y;rw[d]at T;injection T with d1 _
 let:B=its':='s' (rm Array.toList d1)
 subst this;show r.inj J
abbrev Cx.cL(X:Cx)(E:Y1):Cx:={ X with xe:=E }
abbrev Cx.gL(X:Cx):Cx:=X.cL λ_ _=>False
theorem Cx.Ok.cL{X:Cx}(ok:X.Ok)(E:Y1):(X.cL E).Ok:=
 (ok._l,ok.kind,ok.glob,ok.YC,ok.above,ok.inj,ok.has,ok.cab,ok.hd,ok.frames,ok.ip,ok.sF,ok.bs,ok.cc,ok.gJ,ok.iq,ok.bU,ok.eJ)
def Cx.Ok.Tz{X:Cx}(ok:(X.cL E).Ok):X.Ok:=
 (ok._l,ok.kind,ok.glob,ok.YC,ok.above,ok.inj,ok.has,ok.cab,ok.hd,ok.frames,ok.ip,ok.sF,ok.bs,ok.cc,ok.gJ,ok.iq,ok.bU,ok.eJ)
theorem WM.cL(I:'i')(E:Y1):WM (X.cL E) pins σ H s:=(I.ok.cL E,I.os,I._c,I.base,I.loc,I.cell,I.free,I.Tw,I._Y,I.Dk,I.len)
theorem WM.Tz(I:WM (X.cL E) pins σ H s):'i':=(I.ok.Tz,I.os,I._c,I.base,I.loc,I.cell,I.free,I.Tw,I._Y,I.Dk,I.len)
theorem SP.Tz(h:SP (X.cL E) pins D f s'):SP X pins D f s':=by
 cases f with
 |next=>let(Y,T,I,q):=h;show(Y,T,I.Tz,q)
 |brk=>let(Y,T,I,q):=h;show(Y,T,I.Tz,q)
 |cont=>let(Y,T,I,q):=h;show(Y,T,I.Tz,q)
 |ret u=>let(v,Y,T,I,r,q):=h;show{3,v,Y,T,I.Tz,r,q}
theorem Uv.gL{st:List Stmt}(h:Uv X.gL st t):Uv X st t:=λY s T H D I G =>
 mj (h Y s T H D (I.cL _) G) (λ_ _ q=>q.Tz) λ_ _ z=>False.elim z
def ER:TS:=λD Y H=>D.nx Y H
def ES(t u:TS):TS:=λD Y H=>t { D with nx:=u D } Y H
def ET:Uv X [] ER:=λ_ _ Y H _ I h=>wpAny_execs_nil (Y,H,I,h)
def sM{st:Stmt}{T:List Stmt}(L:PS X st t)(C:Uv X T u):Uv X (st::T) (ES t u):=by
 intro Y s J H D I h;show wpAny_execs_cons (Kd (L Y s J H { D with nx:=u D } I h) λf B q=>?_);cases f with
 |next =>
  let(G,N,O,q):=q;show C Y B G N D O q
 |ret v=>show q|brk=>show q|cont=>show q
def EU:TS:=λD Y H=>D.bk Y H
def EV:TS:=λD Y H=>D.ct Y H
def EW:PS X (.Break pos) EU:=λ_ _ Y H _ I h=>wpAny_Break (Y,H,I,h)
def EX:PS X (.Continue pos) EV:=λ_ _ Y H _ I h=>wpAny_Continue (Y,H,I,h)
def WM.quiet(I:'i'):interactive X.env=false:=by simp[interactive,I.ok.kind]
def EY(T:TE):TS:=λD Y H=>T Y H λ_ G=>D.nx Y G
def E_(B:PE X e Z)(J:autoParam (swapsWith e () pos.line X.env=pure false) aJ._auto_1):PS X (.Expr e pos) (EY Z):=by intro Y s T H D I h;show wpAny_Expr_any (Uw (B Y s T H _ I h) λv C x G I1 N O=>(T,G,I1,O)) I.quiet J
def Ee(Y:TE):TS:=λD T H=>Y T H D.rt
def E1(J:PE X e Z):PS X (.Return ↑e pos) (Ee Z):=by intro Y s T H D I h;show wpAny_Return_some (Uw (J Y s T H _ I h) λv C x G I1 B O=>{3,x,T,G,I1,B,O})
def E2(c:TT)(t u:TS):TS:=λD Y H=>c Y H λb T=>if b=true then t D Y T else u D Y T
def E3(O:PT X c Z)(N:Uv X a t)(C:Uv X b u):PS X (.If c a b pos) (E2 Z t u):=by
 intro Y s T H D I h;show wpAny_If (gK (O Y s T H _ I h) λd G J I1 B=>?_);cases d with
 |true=>show N Y G T J D I1 B|false=>show C Y G T J D I1 B
abbrev TG:=V->St->Hp->(St->Hp->Prop)->Prop
abbrev gM:=List V->St->Hp->(St->Hp->Prop)->Prop
def PG(X:Cx)(Y:Expr)(t:TG):Prop:=
 ∀(T:Zp)(s:Shared)(J:St)(H:Hp)(v:V)(u:Value)(Q:St->Hp->Prop),WM X T J H s->WX v u->t v J H Q ->
  'q' (assign Y X.env u) (λ_ O=>∃G B,WM X T G B O/\Q G B) X.xe s
def fH(X:Cx)(C:Y3)(t:gM):Prop:=
 ∀(Y:Zp)(s:Shared)(G:St)(H:Hp)(J:List V)(B:Zl)(Q:St->Hp->Prop),WM X Y G H s->WT J B->t J G H Q ->
  'q' (assignInOrder (assignEach C X.env%(·.2)) B) (λ_ N=>∃T O,WM X Y T O N/\Q T O) X.xe s
abbrev mG:=V->V->V->Hp->(Hp->Prop)->Prop
def mH(X:Cx)(t:mG):Prop:=
 ∀(Y:Zp)(s:Shared)(G:St)(H:Hp)(o i v:V)(T B u:Value)(Q:Hp->Prop),WM X Y G H s->WX o T->WX i B->WX v u->t o i v H Q ->
  'q' (setItem T B u) (λ_ O=>∃J,WM X Y G J O/\Q J) X.xe s
def jC(i:Nat):TG:=λv Y H Q=>Q (Y.set i ↑v) H
def mI(G:X.N.Nodup)(T:X.N[i]?\x)(O:Loc X.env.scope x)(B:autoParam (X.fn x=true\/(X.env.scope.names/x)\.local) k_._auto_1):PG X (.Name x pos) (jC i):=by intro Y s C H v u Q I r h;show wpAny_assign_Name (DT I G T O r (λL J=>(_,H,J,h)) B)
def E4:gM:=λY T H Q=>Y=[]/\Q T H
def E5(t:TG)(u:gM):gM:=λT G H Q=>∃v r,T=v::r/\t v G H λY J=>u r Y J Q
def E6:fH X [] E4:=by intro Y s T H G J Q I r h;let(e,h):=h;subst e;cases r;show assignInOrder_nil (T,H,I,h)
def E7(P:PG X e t)(L:fH X Z u)(C:autoParam (assignEach (e::Z) X.env%(·.2)=assign e X.env::assignEach Z X.env%(·.2)) aJ._auto_1):fH X (e::Z) (E5 t u):=by
 intro Y s J H S V Q I r h;let(v,R,G,h):=h;subst G;cases r with
 |cons r N =>
  rw[C];show assignInOrder_cons (Kd (P Y s J H _ _ _ I r h) λ_ B z_=>?_);let(T,O,I1,E):=z_;show L Y B T O _ _ Q I1 N E
def E8(K:Fg)(n:Nat)(t:gM):TG:=λv T H Q=>∃a Y,v=↥a/\Oe K H a Y/\-Y=n/\t Y T H Q
def E9(C:X.YB=true)(h:fH X Z t)(N:autoParam (-assignEach Z X.env=n) aJ._auto_1)(T:autoParam ((assignEach Z X.env).findIdx? (·.1)=()) aJ._auto_1):PG X (.Tuple Z k pos) (E8 X.K n t):=by
 intro Y s J H v u Q I r G;let(a,P,O,S,E,G):=G;subst O;cases r;let(F,B,R,W):=I.tuple S;show assign_Tuple_tuple (I.ok.hd C) R (by simp[N,<-E,B.length]) T λL V=>?_
 let I1:WM X Y J H (s<&>L):=I.YM (t':=s.toks) λb o e=>V b o (gq (cj e)) e
 show h Y _ J H P _ Q I1 ('s' B) G
def FA(O B:TE)(t:mG):TG:=λv Y H Q=>O Y H λo T=>B Y T λi J=>t o i v J λG=>Q Y G
def FC(B:PE X o to)(J:PE X i ti)(G:mH X t)(R:autoParam (∀v,assign (.Subscript o i pos) X.env v=(do
 let Z<-holding [v] (eval o X.env)
 let U<-holding [v,Z] (eval i X.env)
 standAt pos
 holding [v,Z,U] (setItem Z U v)
 release [v,Z,U] [])) ke._auto_1):PG X (.Subscript o i pos) (FA to ti t):=by
 intro Y s T H v u Q I r h;rw[R];show aa (je (Uw (B Y s T H _ I h) λZ S x C I1 P N=>?_));show aa (je (Uw (J Y S T C _ I1 N) λU E y W I2 V F=>?_));show aa (wpAny_standAt (aa (je (Kd (G Y E T W x y v Z U u _ I2 P V r F) λ_ K z_=>?_))));let(L,I3,O):=z_;show wpAny_release (T,L,I3,O)
def mJ(T:TE)(g:TG):TS:=λD Y H=>T Y H λx G=>g x Y G D.nx
def mK(C:PE X e Z)(L:PG X tg g)(O:autoParam (swapsWithSole [tg] e pos.line X.env=pure false) aJ._auto_1)(J:autoParam (swappedStores [tg] e X.env=pure ()) aJ._auto_1)(P:autoParam (assignEach [tg] X.env%(·.2)=[assign tg X.env]) aJ._auto_1):PS X (.Assign [tg] e pos) (mJ Z g):=by intro Y s T H D I h;show wpAny_Assign_stores (Uw (C Y s T H _ I h) λv G x B I1 N E=>?_) O J;rw[P];show Kd (L Y G T B x v _ I1 N E) λ_ R q=>q
def FD(c:TT)(O:TS):TS:=λD Y H=>∃W:Nat->St->Hp->Prop,(∃m,W m Y H)/\∀m Y H,W m Y H ->
 c Y H λb J=>if b=true then ∃N:St->Hp->Prop,(∀T B,N T B->∃G,G<m/\W G T B)/\O { D with nx:=N,ct:=N,bk:=D.nx } Y J else D.nx Y J
def FE(S:PassesOwn (model X.prog X.w) X.A X.env X.xe)(U:PT X c Z)(hb:Uv X body tb):PS X (.While c body [] pos) (FD Z tb):=by
 intro T s σ H D I h;let(W,(m0,w0),turn):=h;show wpAny_While (codeAny_whileLoop (λn M=>∃J V,WM X T J V M/\W n J V) ?_ m0 (σ,H,I,w0));rintro n s1 ⟨G,F,I1,w1⟩;show xu S (gK (U T s1 G F _ I1 (turn n G F w1)) λb s2 K I2 C=>?_);cases b with
 |true =>
  let(N,Q,C):=C;rw[dm rfl];show xu S (Kd (hb T s2 G K _ I2 C) λf s3 O=>?_);cases f with
  |next =>
   let(Y,B,I3,E):=O;let(P,R,L):=Q Y B E;show(P,R,Y,B,I3,L)
  |cont =>
   let(Y,B,I3,E):=O;let(P,R,L):=Q Y B E;show(P,R,Y,B,I3,L)
  |brk=>show O|ret v=>show O
 |false =>
  rw[cz Av];show wpAny_execs_nil (G,K,I2,C)
structure It where
 go:Nat->Hp->Prop
 gP:Nat->Hp->V->Hp->Prop
 stop:Nat->Hp->Prop
def Yv(X:Cx)(Y:Zp)(H:Hp)(b:Addr):Prop:=
 H b=()/\b≠X.env.locals/\b∉X.fs/\(b∈X.ex\/X.s₀⁻¹<=b)/\(∀x c,(X.env.cells/x)\c->c≠b)/\∀p∈X.pn++Y,p.1≠b
def WM.fI(I:'i')(Y:s⁻¹<=b)(G:Z b=()):Yv X pins Z b:=by
 show(G,yw (iu I.lt Y),I.mD Y,.inr (gh I.sz Y),λx c e z=>?_,λp T z=>?_)
 .let(v,q):=I.cell x c e
  show absurd (iu q.lt (by rw[z];show Y)) (ph _)
 .exact absurd (iu (cj (I._Y p T).1) (by rw[z];show Y)) (ph _)
structure Turn(P:Program)(w:World)(K:Fg)(tg:Expr)(J:It)(fp:X0)(it:Addr)(tn:Nat->Heap->Prop):Prop where
 mem:it∈fp
 XR:∀i h,tn i h->∀b∈fp,∃o,h^b\o/\∀v,o.data≠.cell v
 keep:∀i h h',tn i h->(∀b∈fp,∀o,h^b\o->h'^b\o)->tn i h'
 item:∀(X:Cx),X.prog=P->X.w=w->X.K=K->X.YB=true->∀(i:Nat)(pins:Zp)(s:Shared)(σ:St)(H:Hp)(E:Y1),'i'->(∀b∈fp,Yv X pins H b)->tn i s.1->J.go i H ->
  wq P w X.A (pyNext ↥it) (λr s1=>∃u,r\u /\
   wq P w X.A (letOwnedTupleGo tg ↥it u) (λ_ s2=>∃x H',WM X pins σ H' s2/\WX x u/\J.gP i H x H'/\tn (i+1) s2.1/\∀b∈fp,H' b=()) E s1) E s
 done:∀(X:Cx),X.prog=P->X.w=w->X.K=K->X.YB=true->∀(i:Nat)(pins:Zp)(s:Shared)(σ:St)(H:Hp)(E:Y1),'i'->(∀b∈fp,Yv X pins H b)->tn i s.1->J.stop i H ->
  wq P w X.A (pyNext ↥it) (λr s1=>r=()/\WM X pins σ H s1) E s
 self:∀(A:Around)(i:Nat)(s:Shared)(Q:Y1)(E:Y1),tn i s.1->Q ↥it s->wq P w A (pyIter ↥it) Q E s
abbrev TI:=St->Hp->(It->Hp->Prop)->Prop
def PIE(X:Cx)(Y:Zp)(L:St)(N:Expr)(R:It->Hp->Prop)(T:Value)(O:Shared):Prop:=
 ∃(it:Addr)(C:X0)(B:Nat->Heap->Prop)(J:It)(G:Hp),T=↥it/\WM X Y L G O/\Turn X.prog X.w X.K N J C it B/\B 0 O.1/\(∀b∈C,Yv X Y G b)/\R J G
def PI(X:Cx)(J T:Expr)(O:TI):Prop:=
 ∀(Y:Zp)(s:Shared)(G:St)(H:Hp)(R:It->Hp->Prop),WM X Y G H s->O G H R ->
  'q' (eval T X.env) (λv B=>'q' (pyIter v) (PIE X Y G J R) X.xe B) X.xe s
def mL(B:s.1^it\o)(G:o.cls=.type n)(T:o.data=.fields Z)(J:["enumerate","zip","dict_itemiterator","dict_reverseitemiterator","odict_iterator","itertools.zip_longest","itertools.pairwise"].contains n=false)(Y:Q Unit.unit s):wpAny M A (letOwnedTupleGo tg ↥it u) Q E s:=by
 unfold letOwnedTupleGo;cases tg<;>first
  |show aj Y
  | (cases u<;>first
   |show aj Y
   | (show aa (wpAny_load B ?_)
      rw[G,T];change wpAny M A (if(["enumerate","zip","dict_itemiterator","dict_reverseitemiterator","odict_iterator","itertools.zip_longest","itertools.pairwise"].contains n&&Z[0]?==↑(rawInt _))=true then _ else _) Q E s;rw[cz (by intro h;rw[J,Bool.false_and]at h;cases h)];show aj Y))
def mM(K:Fg)(a:Addr):It:=
 (λi H=>∃Y x,Kp K H a Y/\Y[i]?\x,λi H x T=>T=H/\∀Y,Kp K H a Y->Y[i]?\x,λi H=>∃Y,Kp K H a Y/\-Y<=i)
def sN(K:Fg)(a:Addr):It:=
 (λi H=>∃Y x,Oe K H a Y/\Y[i]?\x,λi H x T=>T=H/\∀Y,Oe K H a Y->Y[i]?\x,λi H=>∃Y,Oe K H a Y/\-Y<=i)
def Qz(Y:Int)(n:Nat):It:=(λi _=>i<n,λi H x T=>T=H/\x=⇑(Y+i),λi _=>n<=i)
theorem FF{K:Fg}(a it:Addr):Turn P w K tg (mM K a) [it] it (λi h=>h.IsListIter it a i)where
 mem:='b'
 XR:=λi h st b T=>by
  let e:b=it:='s' T
  subst e;let(o,e,c,d):=st;show(o,e,λv z=>by rw[d]at z;cases z)
 keep:=λi h J st k=>st.at λo e=>k it 'b' o e
 item:=by
  intro X N Q S F i Y s M H E I O st R;subst N Q S;let(D,x,B,C):=R;let(Z,V,p,hz):=I.list B;let(u,A,ru):=V.get C;let(f0,f1,f2,W,L,f5):=O it 'b';show wpAny_pyNext_list_item st p.isList (x:=u) ('s' A) λJ G U=>?_
  let I1:WM X Y M H (s<&>J):=I.Z_ (t':=s.toks) (λb o T e=>U.2 b T>>e) f0 f1 W L f5;let(o,e,c,d):=id G;show{1,u,rfl,mL (s:=(s<&>J)) e c d ⋯ {2,x,H,I1,ru,(rfl,λys hy=>by rw[I.sJ hy B];show C),G,λb T=>(O b T).1}}
 done:=by intro X N Q S F i Y s M H E I O st R;subst N Q S;let(D,B,C):=R;let(Z,V,p,hz):=I.list B;let(f0,f1,f2,W,L,f5):=O it 'b';let hl:=-V;show wpAny_pyNext_list_end (I.ok.hd F) st p.isList (by simp;show a_ (g_ hl) C) λJ eb=>(rfl,I.Z_ (t':=s.toks) (λb o T e=>eb b o T e) f0 f1 W L f5)
 self:=λ_ _ _ _ _ st h=>wpAny_pyIter_listiter st h
theorem FG{K:Fg}(a it:Addr):Turn P w K tg (sN K a) [it] it (λi h=>h.IsTupleIter it a i)where
 mem:='b'
 XR:=λi h st b T=>by
  let e:b=it:='s' T
  subst e;let(o,e,c,d):=st;show(o,e,λv z=>by rw[d]at z;cases z)
 keep:=λi h J st k=>st.at λo e=>k it 'b' o e
 item:=by
  intro X N V Q M i Y s A H E I O st R;subst N V Q;let(Z,x,B,C):=R;let(S,W,p,hz):=I.tuple B;let(u,D,ru):=W.get C;let(f0,f1,f2,F,L,f5):=O it 'b';show wpAny_pyNext_tuple_item st (show s.1.IsTuple a S.toArray from p) (x:=u) ('s' D) λJ G U=>?_
  let I1:WM X Y A H (s<&>J):=I.Z_ (t':=s.toks) (λb o T e=>U.2 b T>>e) f0 f1 F L f5;let(o,e,c,d):=id G;show{1,u,rfl,mL (s:=(s<&>J)) e c d ⋯ {2,x,H,I1,ru,(rfl,λys hy=>by rw[I.sL hy B];show C),G,λb T=>(O b T).1}}
 done:=by intro X N V Q M i Y s A H E I O st R;subst N V Q;let(Z,B,C):=R;let(S,W,p,hz):=I.tuple B;let(f0,f1,f2,F,L,f5):=O it 'b';let hl:=-W;show wpAny_pyNext_tuple_end (I.ok.hd M) st (show s.1.IsTuple a S.toArray from p) (by simp;show a_ (g_ hl) C) λJ eb=>(rfl,I.Z_ (t':=s.toks) (λb o T e=>eb b o T e) f0 f1 F L f5)
 self:=λ_ _ _ _ _ st h=>wpAny_pyIter_tupleiter st h
theorem FH{K:Fg}(it:Addr)(O:Int)(n:Nat):Turn P w K tg (Qz O n) [it] it (λi h=>IsRangeIter h it (O+(i:Nat)*1) ((n:Int)-(i:Nat)) 1)where
 mem:='b'
 XR:=λi h st b T=>by
  let e:b=it:='s' T
  subst e;show(_,st,λv z=>by
   let U:Data.fields _=Data.cell v:=z;cases U)
 keep:=λi h J st k=>k it 'b' _ st
 item:=by
  intro X C S R Q i Y s F H E I B st L;subst C S R;let(f0,f1,f2,V,N,f5):=B it 'b';let W:=Walks.range (prog:=X.prog) (w:=X.w) (I.ok.hd Q) it O 1 n;show W.item i s _ _ L st λv J M Z G A=>?_
  let(t,rfl):=Z;let I1:WM X Y F H { s with heap:=J,toks:=M }:=I.Z_ (λb o T e=>A b o ('s' T) e) f0 f1 V N f5;show{1,_,rfl,mL (s:={ s with heap:=J,toks:=M }) (n :="range_iterator") G rfl rfl ⋯ (⇑(O+i),H,I1,(t,?_),(rfl,rfl),G,λb T=>(B b T).1)};rw[Int.mul_one]
 done:=by intro X C S R Q i Y s F H E I B st L;subst C S R;let(f0,f1,f2,V,N,f5):=B it 'b';show wpAny_pyNext_range_end (I.ok.hd Q) st (by let:n<=i:=L;lia) λJ D=>(rfl,I.Z_ (t':=s.toks) (λb o T e=>D b o T e) f0 f1 V N f5)
 self:=λ_ _ _ _ _ st h=>wpAny_pyIter_rangeiter st h
def FI{lo:Int}(I:'i')(O:(Neg.neg (2^62):Int)<=lo)(G:lo<2^62)(B:(Neg.neg (2^62):Int)<=Z)(C:Z<2^62)(q:R (Qz lo (Z-lo).toNat) H):'q' (pyIter (.ref s⁻¹)) (PIE X pins σ tg R) E { s with heap:=s.1.push { cls:=.type "range",data:=.fields #[.int lo t,.int Z u,.int 1 v] },toks:=U }:=by
 show wpAny_pyIter_range (IsRange.new ..) (small_one O G B C) ?_;let I1:WM X pins σ H { s with heap:=s.1.push { cls:=.type "range",data:=.fields #[.int lo t,.int Z u,.int 1 v] },toks:=U }:=I.YM λb o e=>aq _ e
 show((s.1.push { cls:=.type "range",data:=.fields #[.int lo t,.int Z u,.int 1 v] }).objs.size,[(s.1.push { cls:=.type "range",data:=.fields #[.int lo t,.int Z u,.int 1 v] }).objs.size],_,_,H,rfl,
  I1.YM (t':=U) λb o e=>aq _ e,FH _ lo (Z-lo).toNat,?_,λb J=>?_,q)
 .let Y:lo+((0:Nat):Int)*1=lo:='b'
  let T:(((Z-lo).toNat:Nat):Int)-((0:Nat):Int)=Builtin.Range.rangeSize lo Z 1:=by rw[rangeSize_one];split<;>lia
  change IsRangeIter _ _ (lo+((0:Nat):Int)*1) ((((Z-lo).toNat:Nat):Int)-((0:Nat):Int)) 1;rw[Y,T];show cu _ rfl
 .let e:b=(s.1.push { cls:=.type "range",data:=.fields #[.int lo t,.int Z u,.int 1 v] }).objs.size:='s' J
  subst e;show I1.fI (bz _) (I1.Dk.fresh (bz _))
def FJ(J:TA):TI:=λG H R=>J G H λT Y=>∃j:Int,T=[⇑j]/\(Neg.neg (2^62):Int)<=j/\j<2^62/\R (Qz 0 j.toNat) Y
def FK{X:Cx}{G:Expr}(L:Gl X "range")(B:X.mg "range"= ())(E:PA X [a] Z)(O:autoParam (starEach [a] X.env=[(false,eval a X.env)]) aJ._auto_1):PI X G (.Call (.Name "range" p) [a] [] pos) (FJ Z):=by
 intro Y s J H R I h;show Dc (Fe I L B boot_range (jq (eL (E pos Y s J H _ I h) λW S V Q I1 C T=>?_) O rfl));let(j,e,T,P,q):=T;subst e;cases C with
 |cons r N =>
  cases N;let(t,rfl):=r;show call_range_1 (FI I1 'a' 'a' T P ('s' q))
def FL(E:TI)(g:TG)(C:TS):TS:=λD Y H=>E Y H λJ L=>∃W:Nat->Nat->St->Hp->Prop,(∃m,W 0 m Y L)/\∀i m Y H,W i m Y H ->
 (J.stop i H/\D.nx Y H)\/(J.go i H/\∃N:St->Hp->Prop,(∀T G,N T G->∃O,O<m/\W (i+1) O T G)/\∀x G,J.gP i H x G->g x Y G λB P=>C { D with nx:=N,ct:=N,bk:=D.nx } B P)
def Yw(Y:X0)(h:Heap):List (Addr×Obj):=Y.filterMap λb=>(h^b)%λo=>(b,o)
def Qo(Y:b∈Z)(e:h^b\o):(b,o)∈Yw Z h:=List.mem_filterMap.mpr (b,Y,by rw[e];rfl)
def FO(T:p∈Yw Z h):p.1∈Z/\h^p.1\p.2:=by
 let(b,G,e):=List.mem_filterMap.mp T;cases q:h^b with
 |none=>rw[q]at e;cases e
 |some o =>
  rw[q]at e;let Y:(b,o)=p:=j6 e;subst Y;show(G,q)
def WM.pinned{X:Cx}(I:'i')(B:∀b∈Z,Yv X pins H b)(J:∀b∈Z,∃o,s.1^b\o/\∀v,o.data≠.cell v):WM X (pins++Yw Z s.1) σ H s:=
 I.Xa λp G=>(dz<*G).elim (λz=>I._Y p (jz _ z)) λz=>by let(T,e):=FO z;let(f0,f1,f2,_):=B p.1 T;let(o,Y,d):=J p.1 T;rw[e]at Y;cases Y;show(e,f0,f1,f2,d)
def WM.T3{X:Cx}(I:WM X (pins++Z) σ H s):'i':=I.Xa λp Y=>I._Y p (jz _ (qw _ Y))
def FP{X:Cx}{tg:Expr}(F:PassesOwn (model X.prog X.w) X.A X.env X.xe)(hc:X.YB=true)(hi:PI X tg iter wi)(hg:PG X tg g)(P:Uv X body tb)(hs:autoParam (∀x,foldedSetIterable iter X.env x=pure x) ke._auto_1):PS X (.For tg iter body [] pos) (FL wi g tb):=by
 intro Y s σ H D I h;show wpAny_For (Kd (hi Y s σ H _ I h) λv s1 h1=>Kd h1 λq1 s2 h2=>?_) hs;let(it,Z,tn,J,H2,e,I2,T,qk,f2,W,(m0,w0),turn):=h2;subst e;let S:∀{H':Hp},(∀b∈Z,H' b=())->∀b∈Z,Yv X Y H' b:=λhn b P=>(hn b P,(f2 b P).2)
 show codeAny_forLoop_any (λn s'=>∃i C H',WM X Y C H' s'/\tn i s'.1/\(∀b∈Z,H' b=())/\W i n C H') ?_ m0 {3,0,σ,H2,I2,qk,λb P=>(f2 b P).1,w0};rintro n s3 ⟨i,O,H3,I3,K,M,w3⟩;rcases turn i n O H3 w3 with⟨U,qn⟩|⟨go,N,hN,XF⟩
 .refine xu F (Kd (T.done X rfl rfl rfl hc i Y s3 O H3 X.xe I3 (S M) K U) λr s4 z_=>?_)
  let(hr,I4):=z_;subst hr;show wpAny_execs_nil (O,H3,I4,qn)
 .refine xu F (Kd (T.item X rfl rfl rfl hc i Y s3 O H3 X.xe I3 (S M) K go) λr s4 z_=>?_)
  let(u,hr,h4):=z_;subst hr;show xu F (Kd h4 λ_ s5 z_=>?_);let(x,H5,I5,r5,y5,Q,q0):=z_;let qq:=I5.pinned (S q0) (T.XR _ _ Q);show xu F (Kd (hg _ s5 O H5 x u _ qq r5 (XF x H5 y5)) λ_ s6 z_=>?_);let(qv,H6,I6,q6):=z_;show xu F (Kd (P _ s6 qv H6 _ I6 q6) λf s7 R=>?_);let E:∀{G:St}{L:Hp},WM X (Y++Yw Z s5.1) G L s7->N G L->∃m,m<n/\∃i C H',WM X Y C H' s7/\tn i s7.1/\(∀b∈Z,H' b=())/\W i m C H':=fun{G L} B V=>by let(m',hm,w7):=hN G L V;show{1,m',hm,(i+1,G,L,B.T3,T.keep _ _ _ Q λb P o e=>(B._Y (b,o) (jz _ (jz _ (Qo P e)))).1,λb P=>?_,w7)};let(o,e,d):=T.XR _ _ Q b P;show(B._Y (b,o) (jz _ (jz _ (Qo P e)))).2.1
  cases f with
  |next=>let(G,L,B,V):=R;show E B V
  |cont=>let(G,L,B,V):=R;show E B V
  |brk=>let(G,L,B,R):=R;show(G,L,B.T3,R)
  |ret v=>let(x7,G,L,B,r7,R):=R;show{3,x7,G,L,B.T3,r7,R}
abbrev R2:=V->V->Hp->VK->Prop
def Gx(X:Cx)(f:Value->Value->Sem Value)(r:R2):Prop:=
 ∀(Y:Zp)(s:Shared)(T:St)(H:Hp)(x y:V)(v u:Value)(Q:VK),WM X Y T H s->WX x v->WX y u->r x y H Q ->
  'q' (f v u) (EP X Y T Q) X.xe s
def mO(X:Cx)(f:Value->Sem Value)(r:V->Hp->VK->Prop):Prop:=
 ∀(Y:Zp)(s:Shared)(T:St)(H:Hp)(x:V)(v:Value)(Q:VK),WM X Y T H s->WX x v->r x H Q ->
  'q' (f v) (EP X Y T Q) X.xe s
def Ff(X:Cx)(f:Value)(r:List V->Hp->VK->Prop):Prop:=
 ∀(Y:Zp)(s:Shared)(G:St)(H:Hp)(T:List V)(J:Zl)(Q:VK),WM X Y G H s->WT T J->r T H Q ->
  'q' (call f J) (EP X Y G Q) X.xe s
def fJ(r:R2)(J T:TE):TE:=λY H Q=>J Y H λx G=>T Y G λy B=>r x y B Q
def FQ(r:V->Hp->VK->Prop)(G:TE):TE:=λT H Q=>G T H λx Y=>r x Y Q
def rI(C:Int->Int->Prop)(g:Int->Int->V):R2:=λx y H Q=>∃i j,x=⇑i/\y=⇑j/\C i j/\Q (g i j) H
def ck(g:Int->Int->V):R2:=λx y H Q=>∃i j,x=⇑i/\y=⇑j/\Q (g i j) H
def rU(g:Int->V):V->Hp->VK->Prop:=λx H Q=>∃i,x=⇑i/\Q (g i) H
def mP{X:Cx}{a b:Expr}{J G:TE}(P:PE X a J)(N:PE X b G){Y:Zp}{s:Shared}{T:St}{H:Hp}{R:V->V->Hp->Prop}(I:WM X Y T H s)
 (h:J T H λx H1=>G T H1 λy Z=>R x y Z) {Q:Y1} {f:Value->Value->Sem Value}
 (L:∀v u s2 x y Z,WM X Y T Z s2->WX x v->WX y u->R x y Z->'q' (f v u) Q X.xe s2) :
 'q' (eval a X.env) (λv qq=>'q' (eval b X.env) (λu U=>'q' (f v u) Q X.xe U) X.xe qq) X.xe s:=by
 show Uw (P Y s T H _ I h) λv B x H1 I1 C E=>?_
 show Uw (N Y B T H1 _ I1 E) λu s2 y Z I2 O S=>?_
 show L v u s2 x y Z I2 C O S
def FR{X:Cx}{a b:Expr}{G T:TE}{pos:Pos}{J:Operator}{r:R2}(P:Gx X (binaryOp J) r)(R:PE X a G)(E:PE X b T):PE X (.BinOp a J b pos) (fJ r G T):=by intro Y s B H Q I h;show wpAny_BinOp (mP R E I h λv u C x y N I2 L O q=>P Y C B N x y v u Q I2 L O q)
def sO{X:Cx}{a:Expr}{G:TE}{pos:Pos}{J:UnaryOp}{r:V->Hp->VK->Prop}(N:mO X (unaryOp J) r)(E:PE X a G):PE X (.UnaryOp J a pos) (FQ r G):=by intro Y s T H Q I h;show UnaryOp_ (Uw (E Y s T H _ I h) λv B x O I1 C L=>N Y B T O x v Q I1 C L)
def jD{X:Cx}{f:Value->Value->Sem Value}{C:Int->Int->Prop}{g:Int->Int->Int}
 (Y:∀(i j:Int)(t u:Tok)(s:Shared)(Q:Y1)(E:Y1),C i j->Q (.int (g i j) s.toks) { s with toks:=s.toks+1 }->'q' (f (.int i t) (.int j u)) Q E s) :
 Gx X f (rI C λi j=>⇑(g i j)):=by
 intro T s N H x y v u Q I O J h;let(i,j,rfl,rfl,B,q):=h;let(t,rfl):=O;let(G,rfl):=J;show Y i j t G s _ _ B (⇑(g i j),H,I.tok _,(_,rfl),q)
def sQ{X:Cx}{f:Value->Value->Sem Value}{g:Int->Int->Int}
 (Y:∀(i j:Int)(t u:Tok)(s:Shared)(Q:Y1)(E:Y1),Q (.int (g i j) s.toks) { s with toks:=s.toks+1 }->'q' (f (.int i t) (.int j u)) Q E s) :
 Gx X f (ck λi j=>⇑(g i j)):=by
 intro T s O H x y v u Q I B J h;let(i,j,rfl,rfl,q):=h;let(t,rfl):=B;let(G,rfl):=J;show Y i j t G s _ _ (⇑(g i j),H,I.tok _,(_,rfl),q)
def jE{X:Cx}{f:Value->Value->Sem Value}{g:Int->Int->Bool}
 (Y:∀(i j:Int)(t u:Tok)(s:Shared)(Q:Y1)(E:Y1),Q (.bool (g i j)) s->'q' (f (.int i t) (.int j u)) Q E s) :
 Gx X f (ck λi j=>.bl (g i j)):=by
 intro T s O H x y v u Q I B J h;let(i,j,rfl,rfl,q):=h;let(t,rfl):=B;let(G,rfl):=J;show Y i j t G s _ _ (.bl (g i j),H,I,rfl,q)
def FT(i j:Int):Prop:=0<j/\j<1073741824
def FU(i j:Int):Prop:=0<=j/\j<=1000000/\i.natAbs<2^64
def mQ(i j:Int):Prop:=((Neg.neg (2^64):Int)<i/\i<2^64)\/((Neg.neg (2^64):Int)<j/\j<2^64)
def mQ.ok{i j:Int}(h:mQ i j):IntMulOk i j:=by
 rcases h with⟨Y,T⟩|⟨Y,T⟩
 .exact .of_left (intBits_le_64 Y T)
 .exact .of_right (intBits_le_64 Y T)
def FV{X:Cx}:Gx X (binaryOp .Add) (ck λi j=>⇑(i+j)):=sQ λ_ _ _ _ _ _ _ q=>add_int q
def FW{X:Cx}:Gx X (binaryOp .Sub) (ck λi j=>⇑(i-j)):=sQ λ_ _ _ _ _ _ _ q=>sub_int q
def FX{X:Cx}:Gx X (binaryOp .Mult) (rI mQ λi j=>⇑(i*j)):=jD λ_ _ _ _ _ _ _ Y q=>mul_int q Y.ok
def FY{X:Cx}:Gx X (binaryOp .FloorDiv) (rI FT λi j=>⇑(HDiv.hDiv i j)):=jD λi j _ _ _ _ _ Y q=>by
 let T:(0:Int)<j:=Y.1
 let G:j<1073741824:=Y.2
 show floordiv_int 'a' (by rw[Int.fdiv_eq_ediv_of_nonneg i 'a'];show q) (.inl (PyProof.noPylong_small (by omega)))
def FZ{X:Cx}:Gx X (binaryOp .Mod) (rI (λ_ j=>0<j) λi j=>⇑(HMod.hMod i j)):=jD λi j _ _ _ _ _ Y q=>by
 let T:(0:Int)<j:=Y
 show mod_int' 'a' (by rw[Int.fmod_eq_emod_of_nonneg i 'a'];show q)
def F_{X:Cx}:Gx X (binaryOp .Pow) (rI FU λi j=>⇑(HPow.hPow i j.toNat)):=jD λ_ _ _ _ _ _ _ Y q=>pow_int_small Y.1 Y.2.1 Y.2.2 q
def Fc{X:Cx}{f:Value->Sem Value}{g:Int->Int}
 (Y:∀(i:Int)(t:Tok)(s:Shared)(Q:Y1)(E:Y1),Q (.int (g i) s.toks) { s with toks:=s.toks+1 }->'q' (f (.int i t)) Q E s) :
 mO X f (rU λi=>⇑(g i)):=by
 intro T s J H x v Q I G h;let(i,rfl,q):=h;let(t,rfl):=G;show Y i t s _ _ (⇑(g i),H,I.tok _,(_,rfl),q)
def sS{X:Cx}:mO X (unaryOp .USub) (rU λi=>⇑(Neg.neg i)):=Fc λ_ _ _ _ _ q=>neg_int q
def mR(x y:V):Bool:=match x with
 |⇑_=>(match y with|⇑_=>true|_=>false)
 |.bl _=>(match y with|.bl _=>true|_=>false)
 |_=>false
def Fh:R2:=λx y H Q=>mR x y=true/\Q (.bl (decide (x=y))) H
def Fu:R2:=λx y H Q=>mR x y=true/\Q (.bl (!decide (x=y))) H
def sT{i j:Int}:decide (V.int i=V.int j)=(i==j):=by rw[Ay];simp
def sU{i j:Bool}:decide (V.bl i=V.bl j)=(i==j):=by rw[Ay];simp
def Yx{X:Cx}{Y:Zp}{G:St}{H:Hp}{s:Shared}{Q:VK}{k T:Bool}(I:WM X Y G H s)(q:Q (.bl k) H)(e:k=T):EP X Y G Q (.bool T) s:=by subst e;show(.bl k,H,I,rfl,q)
def Fx{X:Cx}:Gx X (compareOp .Eq) Fh:=by
 intro G s O H x y v u Q I J T h;let(Y,q):=h;cases x with
 |bl i=>cases y with
  |bl j=>cases J;cases T;show eq_bool (Yx I q sU)|_=>cases Y
 |int i=>cases y with
  |int j=>let(t,rfl):=J;let(B,rfl):=T;show eq_int (Yx I q sT)
  |_=>cases Y
 |_=>cases Y
def F0{X:Cx}:Gx X (compareOp .NotEq) Fu:=by
 intro G s O H x y v u Q I J T h;let(Y,q):=h;cases x with
 |bl i=>cases y with
  |bl j=>cases J;cases T;show ne_bool (Yx I q (rm not sU))|_=>cases Y
 |int i=>cases y with
  |int j=>let(t,rfl):=J;let(B,rfl):=T;show ne_int (Yx I q (rm not sT))
  |_=>cases Y
 |_=>cases Y
def F1{X:Cx}:Gx X (compareOp .Lt) (ck λi j=>.bl (decide (i<j))):=jE λ_ _ _ _ _ _ _ q=>lt_int q
def F2{X:Cx}:Gx X (compareOp .LtE) (ck λi j=>.bl (decide (i<=j))):=jE λ_ _ _ _ _ _ _ q=>le_int q
def F3{X:Cx}:Gx X (compareOp .Gt) (ck λi j=>.bl (decide (j<i))):=jE λ_ _ _ _ _ _ _ q=>gt_int q
def F4{X:Cx}:Gx X (compareOp .GtE) (ck λi j=>.bl (decide (j<=i))):=jE λ_ _ _ _ _ _ _ q=>ge_int q
def Gx.or{X:Cx}{f:Value->Value->Sem Value}{r J:R2}(h:Gx X f r)(O:Gx X f J):Gx X f (λx y H Q=>r x y H Q\/J x y H Q):=by
 intro Y s G H x y v u Q I B T q;rcases q with q|q
 .exact h Y s G H x y v u Q I B T q
 .exact O Y s G H x y v u Q I B T q
def F5{X:Cx}{a b:Expr}{J G:TE}{pos:Pos}{T:CmpOp}{r:R2}(R:Gx X (compareOp T) r)(S:PE X a J)(P:PE X b G)(C:behindInMarks T b=false):PE X (.Compare a [T] [b] pos) (fJ r J G):=by intro Y s B H Q I h;show wpAny_Compare1 (mP S P I h λv u N x y L I2 E O q=>R Y N B L x y v u Q I2 E O q) C
def sV(t:TE):TT:=λY H Q=>t Y H λx T=>∃k,x=.bl k/\Q k T
def F6{X:Cx}{a b:Expr}{B J:TE}{pos:Pos}{G:CmpOp}{r:R2}(V:Gx X (compareOp G) r)(F:PE X a B)(S:PE X b J)(N:behindInMarks G b=false):PT X (.Compare a [G] [b] pos) (sV (fJ r B J)):=by
 intro Y s T H Q I h;show wpAny_isTrue_Compare1 (Uw (F Y s T H _ I h) λv O x C I1 R W=>Uw (S Y O T C _ I1 W) λu L y P I2 E K =>
  Kd (V Y L T P x y v u _ I2 R E K) λc M (z,H3,I3,r3,k,e,q3)=>?_) N
 subst e;cases r3;show qd (H3,I3,q3)
def jF(r C:R2)(B G E:TE):TE:=λY H Q=>B Y H λx J=>G Y J λy L=>r x y L λz T=>∃k,z=.bl k /\
 (if k=true then E Y T λN O=>C y N O Q else Q (.bl false) T)
def F7{X:Cx}{a b c:Expr}{L N C:TE}{pos:Pos}{B T:CmpOp}{r O:R2}(S:Gx X (compareOp B) r)(J:Gx X (compareOp T) O)(ha:PE X a L)(hb:PE X b N)(K:PE X c C)
 (hm:autoParam (lastMarks [B,T] [b,c]=false) pB._auto_1):PE X (.Compare a [B,T] [b,c] pos) (jF r O L N C):=by
 intro Y s G H Q I h;show Compare_chain (Uw (ha Y s G H _ I h) λv s1 x F I1 U A=>chain_link (Uw (hb Y s1 G F _ I1 A) λu D y H2 I2 E q2 =>
  Kd (S Y D G H2 x y v u _ I2 U E q2) λd s3 (z,H3,I3,r3,k,e,q3)=>?_)) hm
 subst e;cases r3;show qd ?_;cases k with
 |false=>show ite_ff (.bl false,H3,I3,rfl,q3)|true=>show ite_tt (chain_last (Uw (K Y s3 G H3 _ I3 q3) λP W Z M V R q4=>J Y W G M y Z u P Q V E R q4))
def F8{X:Cx}{a b c:Expr}{L N C:TE}{pos:Pos}{B T:CmpOp}{r O:R2}(F:Gx X (compareOp B) r)(J:Gx X (compareOp T) O)(ha:PE X a L)(R:PE X b N)(U:PE X c C)
 (hm:autoParam (lastMarks [B,T] [b,c]=false) pB._auto_1):PT X (.Compare a [B,T] [b,c] pos) (sV (jF r O L N C)):=by
 intro Y s G H Q I h;show isTrue_chain (Uw (ha Y s G H _ I h) λv s1 x Z I1 r1 q1=>test_link (Uw (R Y s1 G Z _ I1 q1) λu s2 y H2 I2 E q2 =>
  Kd (F Y s2 G H2 x y v u _ I2 r1 E q2) λd s3 (z,H3,I3,r3,k,e,q3)=>?_)) hm
 subst e;cases r3;show qd ?_;cases k with
 |false =>
  let(k',D,K):=q3;cases D;show ite_ff (H3,I3,K)
 |true =>
  show ite_tt (test_last (Uw (U Y s3 G H3 _ I3 q3) λV A z' H4 M W q4=>Uw (J Y A G H4 y z' u V _ M E W q4) λd' s5 z2 P I5 r5 z_=>?_));let(k2,S,q5):=z_;subst S;cases r5;show qd (P,I5,q5)
def jG:(sizeLine:Nat)<2^63:=by rw[vo];decide
def vals1{x:V}{Y:Zl}(r:WT [x] Y):∃u,Y=[u]/\WX x u:=by
 cases r with
 |cons G T=>cases T;show(_,rfl,G)
def vals2{x y:V}{Y:Zl}(r:WT [x,y] Y):∃u w',Y=[u,w']/\WX x u/\WX y w':=by
 cases r with
 |cons G J =>
  cases J with
  |cons T B=>cases B;show{2,_,_,rfl,G,T}
def F9{X:Cx}(G:X.YB=true):Ff X (.builtin "max") (λZ H Q=>∃i j,Z=[⇑i,⇑j]/\Q ⇑(if j > i then j else i) H):=by
 intro T s B H Z O Q I r h;let(i,j,rfl,q):=h;let(u,N,rfl,(t,rfl),(J,rfl)):=vals2 r;show max_two_ints (I.ok.hd G) λC L k=>{2,_,H,I.YM k,?_,q}
 by_cases Y:j > i
 .rw[dm Y,dm Y];show(_,rfl)
 .rw[cz Y,cz Y];show(_,rfl)
def GA{X:Cx}(G:X.YB=true):Ff X (.builtin "min") (λZ H Q=>∃i j,Z=[⇑i,⇑j]/\Q ⇑(if j<i then j else i) H):=by
 intro T s B H Z O Q I r h;let(i,j,rfl,q):=h;let(u,N,rfl,(t,rfl),(J,rfl)):=vals2 r;show min_two_ints (I.ok.hd G) λC L k=>{2,_,H,I.YM k,?_,q}
 by_cases Y:j<i
 .rw[dm Y,dm Y];show(_,rfl)
 .rw[cz Y,cz Y];show(_,rfl)
structure eM(h:Heap)(x dx C:Addr)(mA:Zs):Prop where
 XR:h^x\(PySem.W.instObj C dx)
 ns:h.Ns1 dx mA
 ne:dx≠x
protected def GB{h:Heap}{B:Addr}{N:Zs}(n:h.Ns1 B N):∃Y,h^B\Y/\∀Z,PySem.W.lookIn Z Y\(N Z):=by
 let(o,O,V,H,R,P,_,Q):=n;show(o,H,λZ=>?_);let e:=Q Z;unfold nsFind findBy at e;rw[<-Array.find?_toList]at e;unfold PySem.W.lookIn;rw[R];dsimp only;split
 .rename_i y q
  rw[q]at e;show rm some e
 .rename_i q
  rw[q]at e;let a:O.toList.any (·.refKey)=false:=by rw[List.any_eq_false];intro y L;let(z,t,T):=P y (Array.mem_toList_iff.mp L);simp[DictEntry.refKey,T]
  let E:¬O.toList.any (·.refKey)=true:=by rw[a];show Av
  rw[cz E];show rm some e
def eM.YD{h:Heap}{x T C:Addr}{Y:Zs}(I:eM h x T C Y):∃U,PySem.W.InstAt h x (PySem.W.instObj C T) C ↑U/\∀Z,PySem.W.lookIn Z U\(Y Z):=
 let (U,ho,hl):=GB I.ns
 (U,(I.XR,rfl,rfl,ho),hl)
def get_map{prog:Program}{w:World}{A:Around}{E:Y1}{s:Shared}{K:Fg}{x N C:Addr}{B:Zs}{Y:Str}{v:Value}{T:Bool}{Q:Y1}(X:K.In s.1)(I:eM s.1 x N C B)(P:PySem.W.plainGet K C Y=true)(R:PySem.W.hasDictIn K C=true)
 (S:PySem.W.findIn K ↥C Y\()) (O:B Y\v) (G:PySem.W.handedIn v=true) (h:Q v { s with toks:=s.toks+1 }) :
 'p' (getAttr ↥x Y T) Q E s:=by
 let(H,J,L):=I.YD;show PySem.W.get_value X J (PySem.W.plainGet_of P).1 (PySem.W.findObj_own R S rfl (by rw[L,O])) G h
def GC{prog:Program}{w:World}{A:Around}{E:Y1}{s:Shared}{K:Fg}{x O C f:Addr}{T:Zs}{Y:Str}{L:Sem Bool}{Q:Value×List Value->Shared->Prop}(X:K.In s.1)(I:eM s.1 x O C T)(G:PySem.W.plainGet K C Y=true)
 (S:PySem.W.findIn K ↥C Y\↑↥f) (P:PySem.W.isFn K ↥f=true) (B:T Y=()) (h:Q (↥f,[↥x]) s) :
 'p' (getMethod ↥x Y L) Q E s:=by
 let(N,J,R):=I.YD;show PySem.W.method_fn X J (PySem.W.plainGet_of G).1 (PySem.W.plainGet_of G).2 S (Ef<*P) (by change(PySem.W.lookIn Y N%(·.isSome))\false;rw[R,B];rfl) h
def GD{prog:Program}{w:World}{A:Around}{E:Y1}{s:Shared}{K:Fg}{x B C:Addr}{L:Zs}{Y:Str}{v:Value}{H:Ya}{Q:Unit->Shared->Prop}(X:K.In s.1)(I:eM s.1 x B C L)
 (M:PySem.W.findIn K ↥C "__setattr__"\↑(.builtin "object.__setattr__")) (F:PySem.W.plainOver K C=true) (z:PySem.W.takerIn K C Y\()) (g:PySem.W.hasDictIn K C=true)
 (D:PySem.Within L H) (O:-H<=sizeLine)
 (h:∀Z,eM Z x B C (λy=>if y=Y then ↑v else L y)->Heap.SameBut B s.1 Z->Q Unit.unit { s with heap:=Z,toks:=s.toks+2 }) :
 'p' (setAttr ↥x Y v) Q E s:=by
 let(d,J,l):=I.YD;show PySem.W.set_plain X J M (PySem.W.osa_open (s:={ s with toks:=s.toks+1 }) (r:=()) X J F z λb=>?_);let(c,q,P):=PySem.W.any_some g;let j:s.1^x\(↥C,↑B,.plain,#[]):=I.XR;show aa (aj (aa (aa (wpAny_loadPart j (aa (PySem.W.Looks.here (s:={ s with toks:=s.toks+1 }) (PySem.W.looks_clsIn X q) ?_))))));rw[P];show aj (a:=↑B) (aa (aj (aa ?_)));show wpAny_nsSet1 (s:={ s with toks:=s.toks+1 }) I.ns λZ G T=>?_
 let(p,u,V,R,N,S):=G.count (PySem.Within.cons Y v D);show aa (wpAny_lookBehind R (by rw[N];show pastItsLine_dict (gh S (by rw[ik];show v_ O))) ?_);show aj (h _ (T.2 _ (j4 I.ne)>>I.XR,G,I.ne) T)
def GF{prog:Program}{w:World}{A:Around}{s:Shared}{K:Fg}{C f:Addr}{R:Result->Shared->Prop}{T:Zl}{G:List (Str×Value)}(X:K.In s.1)(J:PySem.W.makesIn K C=true)
 (B:PySem.W.findIn K ↥C "__init__"\↑↥f) (O:PySem.W.typeIn K ↥f\(.type "function"))
 (h:codeAny (model prog w) (A.under (.builtin "type.__call__" (↥C::T,G))) (.call ↥f (↥(s⁻¹+1)::T,G)) (PySem.W.InitBack (s⁻¹+1) R)
  (s<&>(s.1.push PySem.W.emptyDict).push (PySem.W.instObj C s⁻¹))) :
 codeAny (model prog w) A (.call ↥C (T,G)) R s:=by
 let(N,g,d,t,L):=s;show PySem.W.make_core (PySem.W.makes_of X J) (PySem.W.looks_findIn X B) (λY=>PySem.W.bind_fn X Y O) (.inl rfl) h
def Mq(f:Str)(v:V):List (Str×V)->List (Str×V)
 |[]=>[(f,v)]|(g,x)::r=>if g=f then(g,v)::r else(g,x)::Mq f v r
theorem Zo(f g:Str)(v:V):∀fs:List (Str×V),Mq f v fs/g=if g=f then ↑v else fs/g
 |[]=>by
  change List.lookup g [(f,v)]=_
  by_cases h:g=f
  .let Y:(g==f)=true:=Ef.mpr h
   erw[List.lookup,Y,dm h]
  .let Y:(g==f)=false:=xg.mpr h
   erw[List.lookup,Y,cz h]
 |(k,x)::r=>by
  let G:=Zo f g v r;rw[show Mq f v ((k,x)::r)=(if k=f then(k,v)::r else(k,x)::Mq f v r)from rfl]
  by_cases T:k=f
  .rw[dm T]
   by_cases h:g=k
   .let Y:(g==k)=true:=Ef.mpr h
    erw[List.lookup,Y,dm (h>>T)]
   .let Y:(g==k)=false:=xg.mpr h
    erw[List.lookup,Y,cz (λe:g=f=>h (e>>T.symm))]
  .rw[cz T]
   by_cases h:g=k
   .let Y:(g==k)=true:=Ef.mpr h
    erw[List.lookup,Y,cz (λe:g=f=>T (h.symm>>e))]
   .let Y:(g==k)=false:=xg.mpr h
    erw[List.lookup,Y];show G
theorem Yy(f:Str)(v:V):∀fs:List (Str×V),f∈Mq f v fs%(·.1)/\∀g,g∈fs%(·.1)->g∈Mq f v fs%(·.1)
 |[]=>(by simp[Mq],λg h=>by simp at h)
 |(k,x)::r=>by
  let(T,G):=Yy f v r;rw[show Mq f v ((k,x)::r)=(if k=f then(k,v)::r else(k,x)::Mq f v r)from rfl]
  by_cases Y:k=f
  .rw[dm Y]
   subst Y;show('b',λg h=>'s' h)
  .rw[cz Y]
   show(?_,λg h=>?_)
   .rw[gm]
    show bw _ T
   .rw[gm]at h⊢
    rcases dj<*h with e|e
    .exact dj.mpr (.inl e)
    .exact bw _ (G g e)
theorem Zq(f:Str)(v:V):∀fs:List (Str×V),-Mq f v fs<=-fs+1
 |[]=>by simp[Mq]
 |(k,x)::r=>by
  let T:=Zq f v r;rw[show Mq f v ((k,x)::r)=(if k=f then(k,v)::r else(k,x)::Mq f v r)from rfl]
  by_cases Y:k=f
  .rw[dm Y,ik,ik];show x_
  .rw[cz Y,ik,ik];show v_ T
def Tv.some_of{v:V}{o:Option Value}(r:Tv ↑v o):∃u,o\u/\WX v u:=by
 cases o with
 |none=>show(show False from r).elim
 |some u=>show(u,rfl,r)
def Tv.none_of{o:Option Value}(r:Tv () o):o=():=by
 cases o with
 |none=>rfl|some u=>show(show False from r).elim
def GG{v:V}{u:Value}(r:WX v u):PySem.W.handedIn u=true:=by
 cases v with
 |XQ=>cases(show u=Value.none from r);rfl
 |bl b=>cases(show u=Value.bool b from r);rfl
 |int i=>let(t,e):=(show ∃t,u=Value.int i t from r);cases e;rfl
 |str x=>let(t,e):=(show ∃t,u=Value.str x t from r);cases e;rfl
 |ref a=>cases(show u=Value.ref a from r);rfl
def Ug{P:Program}{w:World}{H:Hp}{h:Heap}{a C Y:Addr}{fs:List (Str×V)}(G:Vj P w H h)(e:H a\(.YW C Y fs)):∃Z,eM h a Y C Z/\(∀f,Tv (fs/f) (Z f))/\PySem.Within Z (fs%(·.1))/\-fs<=1000/\H Y\(._W a):=by let(d,z,J,T,Z,n,r,q):=(show Dy P w H h a (.YW C Y fs)from G a _ e);show(Z,(T,n,J),r,q,z,d)
structure bE(K:Fg)(C:Addr):Prop where
 pg:PySem.W.plainGet K C Str.empty=true
 hd:PySem.W.hasDictIn K C=true
 po:PySem.W.plainOver K C=true
 sa:PySem.W.findIn K ↥C "__setattr__"\↑(.builtin "object.__setattr__")
def bE.get{K:Fg}{C:Addr}(c:bE K C)(f:Str):PySem.W.plainGet K C f=true:=c.pg
def Og(K:Fg)(C:Addr)(f:Str):Prop:=PySem.W.findIn K ↥C f\()
def Og.taker{K:Fg}{C:Addr}{f:Str}(n:Og K C f):PySem.W.takerIn K C f\():=by unfold PySem.W.takerIn;rw[show PySem.W.findIn K ↥C f\() from n];rfl
structure Meth(K:Fg)(C:Addr)(m:Str)(f:Addr):Prop where
 at_:PySem.W.findIn K ↥C m\↑↥f
 fn:PySem.W.isFn K ↥f=true
 kp:PySem.W.keepIn K ↥f=true
def GH{X:Cx}{Y:Zp}{T:St}{H:Hp}{s:Shared}{a C J:Addr}{fs:List (Str×V)}{f:Str}{v:V}{A:Around}{E:Y1}{b:Bool}{Q:Y1}(I:WM X Y T H s)(e:H a\(.YW C J fs))(c:bE X.K C)(n:Og X.K C f)(l:(fs/f)\v)
 (h:∀u Z,WM X Y T H Z->WX v u->Q u Z):wq X.prog X.w A (getAttr ↥a f b) Q E s:=by
 let(N,O,r,_,_,_):=Ug I.Dk e;let(u,B,G):=Tv.some_of (v:=v) (o:=N f) (by rw[<-l];show r f);show get_map I.aP O (c.get f) c.hd n B (GG G) (h u _ (I.tok _) G)
def GI{X:Cx}{Y:Zp}{T:St}{H:Hp}{s:Shared}{a C J:Addr}{fs:List (Str×V)}{A:Around}{E:Y1}{m:Str}{g:Addr}{B:Sem Bool}{Q:Value×List Value->Shared->Prop}(I:WM X Y T H s)(e:H a\(.YW C J fs))(c:bE X.K C)(k:Meth X.K C m g)(l:fs/m=())
 (h:Q (↥g,[↥a]) s):wq X.prog X.w A (getMethod ↥a m B) Q E s:=by
 let(N,O,r,_,_,_):=Ug I.Dk e;let G:N m=():=Tv.none_of (by rw[<-l];show r m);show GC I.aP O (c.get m) k.at_ k.fn G h
def GJ{X:Cx}{Y:Zp}{J:St}{H:Hp}{s:Shared}{a C T:Addr}{fs:List (Str×V)}{f:Str}{A:Around}{E:Y1}{y:V}{u:Value}{Q:Unit->Shared->Prop}(I:WM X Y J H s)(e:H a\(.YW C T fs))(c:bE X.K C)(n:Og X.K C f)(L:-fs<1000)(R:WX y u)
 (h:∀Z,WM X Y J (XD H a (.YW C T (Mq f y fs))) Z->Q Unit.unit Z):wq X.prog X.w A (setAttr ↥a f u) Q E s:=by
 let(N,O,r,B,_,P):=Ug I.Dk e;let F:-(fs%(·.1))<=sizeLine:=by rw[dh,vo];show e_ (b_ L ⋯)
 show GD I.aP O c.sa c.po n.taker c.hd B F λM G j=>h _ ?_
 let S:∃o,M^T\o:=let (o,_,_,e',_):=G.ns;(o,e');show I._G (x:=a) (e:=T) (by rw[e];show True.intro) (.inr P) (λb q W z=>j.2 b W>>z) S ?_;show(by rw[qp O.ne];show P,?_,O.ne,G.XR,_,G.ns,λg=>?_,λg D=>?_)
 .let:=Zq f y fs;show a_ this L
 .change Tv (Mq f y fs/g) (if g=f then ↑u else N g)
  rw[Zo]
  by_cases q:g=f
  .rw[dm q,dm q];show R
  .rw[cz q,cz q];show r g
 .by_cases q:g=f
  .rw[q];show(Yy f y fs).1
  .refine(Yy f y fs).2 g (B g λz=>D ?_)
   change(if g=f then ↑u else N g)=();rw[cz q];show z
def WM.made{X:Cx}{Y:Zp}{J:St}{H:Hp}{s:Shared}{C:Addr}(I:WM X Y J H s):WM X Y J (XD (XD H s⁻¹ (._W (s⁻¹+1))) (s⁻¹+1) (.YW C s⁻¹ []))
 (s<&>(s.1.push PySem.W.emptyDict).push (PySem.W.instObj C s⁻¹)):=by
 let G:(s.1.push PySem.W.emptyDict)^s⁻¹\PySem.W.emptyDict:=cu s.1 rfl;let O:((s.1.push PySem.W.emptyDict).push (PySem.W.instObj C s⁻¹))^(s⁻¹+1)\(PySem.W.instObj C s⁻¹):=by
  let:=cu (s.1.push PySem.W.emptyDict) (o:=PySem.W.instObj C s⁻¹) rfl
  rwa [jh]at this
 let L:(s.1.push PySem.W.emptyDict).Ns s⁻¹ (λ_=>()):={3,PySem.W.emptyDict,#[],_,G,rfl,(λe N=>absurd N 'b'),λ_=>rfl};let I1:=I.laid (a:=s⁻¹) (o:=._W (s⁻¹+1)) (h':=s.1.push PySem.W.emptyDict) (t':=s.toks) (λb u q=>aq _ q) (bz _) (_,G);show I1.laid (a:=s⁻¹+1) (o:=.YW C s⁻¹ []) (t':=s.toks) (λb u q=>aq _ q) (Nat.le_of_eq (jh _ _)) ?_;let T:s⁻¹≠s⁻¹+1:=gq (mz _);show(by rw[qp T,z8],iw _,T,O,λ_=>(),(Heap.Ns1.of_empty L).at λo q=>aq _ q,λ_=>True.intro,λy B=>absurd rfl B)
def GK{A:Around}{E:Y1}{prog:Program}{w:World}{Y:Env}{e:Expr}{f:Str}{pos:Pos}{s:Shared}{Q:Y1}(T:attributeBase e f Y (eval e Y)=eval e Y)
 (h:'p' (eval e Y) (λo Z=>'p' (getAttr o f true) Q E Z) E s):'p' (eval (.Attribute e f pos) Y) Q E s:=
 Attribute_any_ h (by rw[arm_eval_Attribute,T])
def GL(K:Fg)(J:TE)(f:Str):TE:=λG H Q=>J G H λx Y=>∃a C T fs v,x=↥a/\Y a\(.YW C T fs)/\bE K C/\Og K C f/\(fs/f)\v/\Q v Y
def GN(K:Fg)(B O:TE)(f:Str):TS:=λD Y H=>O Y H λy J=>B Y J λx G=>∃a C T fs,x=↥a/\G a\(.YW C T fs)/\bE K C/\Og K C f/\-fs<1000 /\
 D.nx Y (XD G a (.YW C T (Mq f y fs)))
def GO{X:Cx}{e:Expr}{f:Str}{pos:Pos}{T:TE}(L:PE X e T)(E:attributeBase e f X.env (eval e X.env)=eval e X.env):PE X (.Attribute e f pos) (GL X.K T f):=by intro Y s G H Q I h;show GK E (Uw (L Y s G H _ I h) λu S x J I1 N z_=>?_);let(a,C,V,fs,v,B,P,c,n,l,q):=z_;subst B;obtain rfl:u=Value.ref a:=N;show GH I1 P c n l λR W I2 O=>(v,J,I2,O,q)
def GP{X:Cx}{o Y:Expr}{f:Str}{pos T:Pos}{O B:TE}(V:PE X o O)(Q:PE X Y B)(N:swapsWith Y ↑(.Attribute o f T) pos.line X.env=pure false):PS X (.Assign [.Attribute o f T] Y pos) (GN X.K O B f):=by intro G s J H D I h;show plainObj_wpAny_Assign_Attribute (Uw (Q G s J H _ I h) λu F y P I1 W q=>Uw (V G F J P _ I1 q) λE z x j I2 L z_=>?_) N;let(a,C,A,fs,R,S,c,n,l,M):=z_;subst R;obtain rfl:E=Value.ref a:=L;show GJ I2 S c n l W λg I3=>(J,_,I3,M)
structure Dd(k:Nat)(A:Around):Prop where
 hd:A.handled=()
 dp:A.depth+3*k+5<recursionLimit
 un:A.units+16*k+200<cLine
def Dd.mono{j k:Nat}{A:Around}(r:Dd k A)(h:j<=k):Dd j A:=(r.hd,by let:=r.dp;lia,by let:=r.un;lia)
theorem Dd.deeper{k:Nat}{A:Around}(r:Dd (k+1) A)(Y:Env):Dd k (A.deeper Y):=
 (r.hd,by let:=r.dp;change A.depth+1+3*k+5<_;lia,by let:=r.un;change A.units+3+16*k+200<_;lia)
theorem Dd.in1{k:Nat}{A:Around}(r:Dd (k+1) A):Dd k A.in1:=
 (r.hd,by let:=r.dp;change A.depth+3*k+5<_;lia,by let:=r.un;change A.units+1+16*k+200<_;lia)
def GQ{A:Around}{C:Addr}{T:Zl}{Y:List (Str×Value)}:(A.under (.builtin "type.__call__" (↥C::T,Y))).depth=A.depth+1:=by first|rfl|simp[Around.under,Code.weight,Code.isCreation,Code.isGuard,Code.isCaller,Code.frames,Code.isFrame,guardIds]
def GR{A:Around}{C:Addr}{T:Zl}{Y:List (Str×Value)}:(A.under (.builtin "type.__call__" (↥C::T,Y))).units=A.units+1:=by first|rfl|simp[Around.under,Code.cUnits,Code.frames,Code.isFrame]
def Dd._Q{k:Nat}{A:Around}(r:Dd (k+1) A)(C:Addr)(T:Zl)(Y:List (Str×Value)):Dd k (A.under (.builtin "type.__call__" (↥C::T,Y))):=
 (r.hd,by let:=r.dp;rw[GQ];lia,by let:=r.un;rw[GR];lia)
theorem Dd.depth{k:Nat}{A:Around}(r:Dd k A):A.depth<recursionLimit:=by let:=r.dp;lia
theorem Dd.units{k:Nat}{A:Around}(r:Dd k A):A.units+64<cLine:=by let:=r.un;lia
def Dd.gQ{k:Nat}{A:Around}(r:Dd k A):A.units<cLine:=by let:=r.un;lia
def sW:TA:=λ_ H Q=>Q [] H
def GS(G:TE)(tr:TA):TA:=λY H Q=>G Y H λx T=>tr Y T λJ B=>Q (x::J) B
def GU{X:Cx}:PA X [] sW:=λ_ _ _ _ H Q I h=>ur ([],H,I,.nil,h)
def GV{X:Cx}{e:Expr}{T:Y3}{J:TE}{t:TA}(V:PE X e J)(O:PA X T t)(N:autoParam (starEach (e::T) X.env=(false,eval e X.env)::starEach T X.env) aJ._auto_1):PA X (e::T) (GS J t):=by intro pos Y s G H Q I h;rw[N];change 'A' (spliced ((false,eval e X.env)::backTo pos (starEach T X.env))) _ _ s;show m7 (Uw (V Y s G H _ I h) λu B x C I1 L S=>?_);show eL (O pos Y B G C _ I1 S) λF K R P I2 E W=>{2,x::R,P,I2,.cons L E,W}
def GW(t:TA):TE:=λG H Q=>t G H λT Y=>-T<=sizeLine/\∀p,Y p=()->Q ↥p (XD Y p (.WL T))
def GX(t:TA):TE:=λG H Q=>t G H λT Y=>-T<=sizeLine/\∀p,Y p=()->Q ↥p (XD Y p (.WK T))
def GY{X:Cx}{G:Y3}{t:TA}{pos:Pos}{N}(h:PA X G t):PE X (.Tuple G N pos) (GW t):=by intro Y s J H Q I O;show wpAny_Tuple_spliced (Kd (h pos Y s J H _ I O) λB T (xs,H1,I1,r,z,q)=>(by rw[<--r];show z,?_));let C:H1 T⁻¹=():=I1.Dk.fresh (bz _);show(.ref T⁻¹,XD H1 T⁻¹ (.WL xs),I1.laid (t':=T.toks) (λb u e=>aq _ e) (bz _) ?_,rfl,q _ C);show(z,B,r,cB.new _ _)
def sX{X:Cx}{G:Y3}{t:TA}{pos:Pos}(h:PA X G t):PE X (.List G pos) (GX t):=by intro Y s J H Q I O;show wpAny_List_spliced (Kd (h pos Y s J H _ I O) λB T (xs,H1,I1,r,z,q)=>(by rw[<--r];show z,?_));let C:H1 T⁻¹=():=I1.Dk.fresh (bz _);show(.ref T⁻¹,XD H1 T⁻¹ (.WK xs),I1.laid (t':=T.toks) (λb u e=>aq _ e) (bz _) ?_,rfl,q _ C);show(z,B,0,r,cu _ rfl)
abbrev Sp:=List V->Hp->VK->XK->Prop
abbrev bH:=List Env->Hp->Shared->XK->Value->Shared->Prop
structure eN(P:Program)(w:World)(K:Fg)(mg:Zs)(base:Heap)(A:Around)(YK:List Env)(s:Shared)(H:Hp):Prop where
 frames:A.frames\YK
 _l:Mod K mg base
 bs:∀b o,base^b\o->s.1^b\o/\H b=()
 cc:base.objs.size<=s⁻¹
 bU:s.1.FunFrames base YK
 eJ:∀b∈frs YK,H b=()
 Dk:Vj P w H s.1
 _c:AllBare s.gens
def CE(Y:List Env)(P:Program)(w:World)(H:Hp)(s:Shared)(Q:VK)(u:Value)(T:Shared):Prop:=
 ∃v G,T.os=s.os/\AllBare T.gens/\Un (frs Y) [] H G s.1 T.1/\Vj P w G T.1/\WX v u/\Q v G
def CR(G:bH)(Y:List Env)(P:Program)(w:World)(H:Hp)(s:Shared)(Q:VK)(E:XK)(r:Result)(T:Shared):Prop:=
 match r with
 |.ok (.ret u)=>CE Y P w H s Q u T|.ok _=>False|.error e=>G Y H s E e T
structure J8(P:Program)(w:World)(K:Fg)(mg:Zs)(base:Heap)(CX:bH)(k:Nat)(f:Addr)(fd:FuncData)(ps:Ya)(sp:Sp):Prop where
 len:∀vs H Q E,sp vs H Q E->-vs=-ps
 XM:∀(A:Around)(YK:List Env)(s:Shared)(H:Hp)(args:Args)(us:Zl)(vs:List V)(Q:VK)(E:XK),Dd k A->eN P w K mg base A YK s H->BindsTo s fd args (ps.zip us)->WT vs us->sp vs H Q E ->
  codeAny (model P w) A (.call ↥f args) (CR CX YK P w H s Q E) s
def J8.imp{P:Program}{w:World}{K:Fg}{mg:Zs}{Y:Heap}{C:bH}{k:Nat}{f:Addr}{J:FuncData}{O:Ya}{B sY:Sp}(F:J8 P w K mg Y C k f J O B)
 (h:∀Z H Q E,sY Z H Q E->B Z H Q E):J8 P w K mg Y C k f J O sY:=
 (λZ H Q E q=>F.len Z H Q E (h _ _ _ _ q),λA T s H G R Z Q E L V W N S=>F.XM A T s H G R Z Q E L V W N (h _ _ _ _ S))
def eN._Q{P:Program}{w:World}{K:Fg}{mg:Zs}{T:Heap}{A:Around}{Y:List Env}{s:Shared}{H:Hp}(e:eN P w K mg T A Y s H)(C:Addr)(J:Zl)(G:List (Str×Value)) :
 eN P w K mg T (A.under (.builtin "type.__call__" (↥C::J,G))) Y s H:=(by first|show e.frames|(simpa[Around.under,Code.envs,Code.isFrame,pushEnvs]using e.frames),e._l,e.bs,e.cc,e.bU,e.eJ,e.Dk,e._c)
def WM.env0{X:Cx}{Y:Zp}{T:St}{H:Hp}{s:Shared}(I:WM X Y T H s):eN X.prog X.w X.K X.mg X.base X.A X.YH s H:=
 (I.ok.frames,I.ok._l,I.bs,gh I.ok.cc I.sz,I.YH,I.sG,I.Dk,I._c)
def WM.after{X:Cx}{Y:Zp}{J:St}{H:Hp}{s s':Shared}{Q:VK}{u:Value}(I:WM X Y J H s)(h:CE X.YH X.prog X.w H s Q u s'):EP X Y J Q u s':=by let(v,O,os,T,un,B,r,q):=h;let(C,g,d,t,G):=s';obtain rfl:G=s.os:=os;show{2,v,O,I.call (h':=C) (g':=g) (d':=d) (t':=t) (ch:=[]) un B T (λb z=>absurd z 'b'),r,q}
def GZ(J:Sp)(Y:List V)(E:XK)(t:TA):TE:=λT H Q=>t T H λB G=>J (B++Y) G Q E
def HA(C:Addr)(m:Str)(O:Sp)(Y:List V)(E:XK)(J:TE)(t:TA):TE:=λT H Q=>J T H λx G=>∃a B fs,x=↥a/\G a\(.YW C B fs)/\fs/m=() /\
 t T G λN L=>O (x::(N++Y)) L Q E
def HB(C:Addr)(B:Sp)(G:List V)(E:XK)(t:TA):TE:=λJ H Q=>t J H λO T=>∀x Y,T x=()->T Y=()->Y≠x ->
 B (↥x::(O++G)) (XD (XD T Y (._W x)) x (.YW C Y [])) (λv N=>v=.XQ/\Q ↥x N) E
def YT(K:Fg)(J:FuncData)(G:Ya)(T:Zl):Prop:=
 ∀(s:Shared)(Y:Zl),K.In s.1->-(Y++T)=-G->BindsTo s J (Y,[]) (G.zip (Y++T))
def YT.all{K:Fg}{T:FuncData}{Y:Ya}(h:∀Z:List Value,-Z=-Y->bindArgs T (Z,[])=pure (Y.zip Z)):YT K T Y []:=λs Z _ G=>by rw[De]at G⊢;show .of_eq (h Z G)
def _E(J:bH)(X:Cx)(E:XK):Prop:=∀(Y:Zp)(G:St)(H:Hp)(s:Shared)(e:Value)(T:Shared),WM X Y G H s->J X.YH H s E e T->X.xe e T
def sZ{X:Cx}{P:bH}{k:Nat}{f:Addr}{C:FuncData}{O:Ya}{N:Sp}{T:List V}{G:Zl}{E:XK}{Y:Zp}{B:St}{H:Hp}{s:Shared}{Q:VK}{us:Zl}{vs:List V}(F:J8 X.prog X.w X.K X.mg X.base P k f C O N)(W:Dd k X.A)(R:YT X.K C O G)(S:WT T G)(U:_E P X E)
 (I:WM X Y B H s) (r:WT vs us) (h:N (vs++T) H Q E):'q' (call ↥f us) (EP X Y B Q) X.xe s:=by
 let L:WT (vs++T) (us++G):=r.append S;let Z:-(us++G)=-O:=by rw[<--L];show F.len _ _ _ _ h
 show wpAny_call (zg (F.XM X.A X.YH s H (us,[]) (us++G) (vs++T) Q E W I.env0 (R s us I.aP Z) L h) λr M J=>?_);cases r with
 |error e=>show U Y B H s e M I J
 |ok D =>
  cases D with
  |ret u=>show I.after J|next=>show False.elim J|brk=>show False.elim J|cont=>show False.elim J
def HC{X:Cx}{N:bH}{k:Nat}{f:Addr}{J:FuncData}{B:Ya}{O:Sp}{G:List V}{C:Zl}{E:XK}{x:Str}{p pos:Pos}{e:Expr}{Y:Y3}{t:TA}(F:J8 X.prog X.w X.K X.mg X.base N k f J B O)(D:Dd k X.A)(P:Gl X x)(g:X.mg x\↥f)(R:PySem.W.keepIn X.K ↥f=true)(j:YT X.K J B C)(L:WT G C)(l:_E N X E)
 (z:PA X (e::Y) t) (u:autoParam ((x==("__debug__": Str))=false) bL._auto_1) (S:autoParam (starEach (e::Y) X.env=(false,eval e X.env)::starEach Y X.env) aJ._auto_1) (y:autoParam ((backTo pos (starEach Y X.env)).any (·.1)=false) aJ._auto_1) :
 PE X (.Call (.Name x p) (e::Y) [] pos) (GZ O G E t):=by
 intro T s M H Q I h;show jx (mE I P g ?_ u);show PySem.W.callWith_K (h₀:=X.base) I.ok._l.ij R (eL (z pos T s M H _ I h) λv m c d I1 r q=>(I1.aP,?_)) S y;show sZ F D j L l I1 r q
def HD{X:Cx}{R:bH}{k:Nat}{f C:Addr}{J:FuncData}{B:Ya}{O:Sp}{G:List V}{N:Zl}{E:XK}{m:Str}{pos Y:Pos}{o:Expr}{P:TE}{pl:Sem Bool}(z:PE X o P)(c:bE X.K C)(L:Meth X.K C m f)(F:J8 X.prog X.w X.K X.mg X.base R k f J B O)(j:Dd k X.A)(r:YT X.K J B N)(S:WT G N)(v:_E R X E)
 (d:autoParam (eval (.Call (.Attribute o m Y) [] [] pos) X.env=(do
  let Z<-eval o X.env
  standAt Y.atName
  let (f,first) <-holding [Z] (getMethod Z m pl)
  callWith pos f first (backTo pos (starEach [] X.env)) (backToKw pos (keywordEach [] X.env)))) aJ._auto_1) :
 PE X (.Call (.Attribute o m Y) [] [] pos) (HA C m O G E P sW):=by
 intro T s g H Q I h;show PySem.W.methodCall_KW (pl:=pl) (Uw (z T s g H _ I h) λu i x p I1 M z_=>?_) d;let(a,t,fs,D,y,l,q):=z_;subst D;obtain rfl:u=Value.ref a:=M;show GI I1 y c L l ?_;show PySem.W.callWith_K0 (first:=[↥a]) I1.aP L.kp (sZ (us:=[↥a]) (vs:=[↥a]) F j r S v I1 (.cons rfl .nil) q)
structure Mk(K:Fg)(C f:Addr):Prop where
 makes:PySem.W.makesIn K C=true
 init:PySem.W.findIn K ↥C "__init__"\↑↥f
 fn:PySem.W.isFn K ↥f=true
 kp:PySem.W.keepIn K ↥C=true
def HE{X:Cx}{D:bH}{k:Nat}{f C:Addr}{P:FuncData}{N:Ya}{R:Sp}{J:List V}{B:Zl}{E:XK}{Y:Zp}{L:St}{H:Hp}{s:Shared}{Q:VK}{G:Zl}{O:List V}(M:Mk X.K C f)(F:J8 X.prog X.w X.K X.mg X.base D k f P N R)(hr:Dd (k+1) X.A)(hb:YT X.K P N B)(U:WT J B)
 (hx:_E D X E) (I:WM X Y L H s) (r:WT O G)
 (h:∀x Z,H x=()->H Z=()->Z≠x->R (↥x::(O++J)) (XD (XD H Z (._W x)) x (.YW C Z [])) (λv H2=>v=.XQ/\Q ↥x H2) E) :
 'q' (call ↥C G) (EP X Y L Q) X.xe s:=by
 let S:=h (s⁻¹+1) s⁻¹ (I.Dk.fresh (xf _)) (I.Dk.fresh (bz _)) (gq (mz _));let I2:=WM.made (C:=C) I;let W:WT (V.ref (s⁻¹+1)::(O++J)) (Value.ref (s⁻¹+1)::(G++B)):=.cons rfl (r.append U);let hl:-(Value.ref (s⁻¹+1)::G++B)=-N:=by let e:=-W;rw[F.len _ _ _ _ S]at e;show e.symm
 show wpAny_call (GF (f:=f) I.aP M.makes M.init (Ef<*M.fn) (zg (F.XM _ X.YH _ _ (Value.ref (s⁻¹+1)::G,[]) (Value.ref (s⁻¹+1)::(G++B)) _ _ E (hr._Q C G [])
  (I2.env0._Q C G []) (hb _ (Value.ref (s⁻¹+1)::G) I2.aP hl) W S) λr s' T=>?_))
 cases r with
 |error e=>show hx Y L _ _ e s' I2 T
 |ok fl =>
  cases fl with
  |ret u =>
   let(v,H',I3,rv,ev,q3):=I2.after T;subst ev;show(rv,{2,V.ref (s⁻¹+1),H',I3,rfl,q3})
  |next=>show False.elim T|brk=>show False.elim T|cont=>show False.elim T
def HF{X:Cx}{L:bH}{k:Nat}{f C:Addr}{J:FuncData}{B:Ya}{O:Sp}{G:List V}{N:Zl}{E:XK}{x:Str}{p pos:Pos}{e:Expr}{Y:Y3}{t:TA}(M:Mk X.K C f)(F:J8 X.prog X.w X.K X.mg X.base L k f J B O)(z:Dd (k+1) X.A)(R:Gl X x)(j:X.mg x\↥C)(l:YT X.K J B N)(P:WT G N)(c:_E L X E)
 (y:PA X (e::Y) t) (g:autoParam ((x==("__debug__": Str))=false) bL._auto_1) (S:autoParam (starEach (e::Y) X.env=(false,eval e X.env)::starEach Y X.env) aJ._auto_1) (u:autoParam ((backTo pos (starEach Y X.env)).any (·.1)=false) aJ._auto_1) :
 PE X (.Call (.Name x p) (e::Y) [] pos) (HB C O G E t):=by
 intro T s D H Q I h;show jx (mE I R j ?_ g);show PySem.W.callWith_K (h₀:=X.base) I.ok._l.ij M.kp (eL (y pos T s D H _ I h) λm o d v I1 r q=>(I1.aP,?_)) S u;show HE M F z l P c I1 r q
structure jH(N P:Ya)(sc:Scope):Prop where
 kind:sc.kind=.function
 co:sc.isCoroutine=false
 gen:sc.isGenerator=false
 nd:N.Nodup
 pre:N.take (-P)=P
 par:∀x∈P,(sc.names/x)\.local\/(sc.names/x)\.cell
 HG:∀y∈sc.names,y.2≠.free
theorem se{Y:Str->Option NameKind}{x:Str}:∀{_U:List (Str×Value)}{m:Zs},(∀v,(x,v)∉_U)->bindL Y _U m x=m x
 |[],_,_=>rfl
 |(n,v)::r,m,h=>by
  unfold bindL;rw[se λw T=>h w (bw _ T)];split
  .let:x≠n:=by rintro rfl;show h v dw
   simp[this]
  .rfl
theorem sf{Y:Str->Option NameKind}{x:Str}:∀{_U:List (Str×Value)}{m:Zs},(∀v,(x,v)∉_U)->bindC Y _U m x=m x
 |[],_,_=>rfl
 |(n,v)::r,m,h=>by
  unfold bindC;rw[sf λw T=>h w (bw _ T)];split
  .rfl
  .let:x≠n:=by rintro rfl;show h v dw
   simp[this]
theorem sg{Y:Str->Option NameKind}{x:Str}{v:Value}:∀{P:Ya}{T:Zl}{i:Nat}{m:Zs},P.Nodup->P[i]?\x->T[i]?\v->Y x\.local ->
 bindL Y (P.zip T) m x\v
 |[],_,_,_,_,h,_,_=>by simp at h|_::_,[],_,_,_,_,h,_=>by simp at h
 |p::P,w::T,0,m,nd,h1,h2,hk=>by
  simp at h1 h2;subst h1;subst h2;change bindL Y ((p,w)::P.zip T) m p=_;unfold bindL;rw[se λv G=>(vy<*nd).1 (Df G).1,dm hk];simp
 |p::P,w::T,i+1,m,nd,h1,h2,hk=>by
  change bindL Y ((p,w)::P.zip T) m x=_;unfold bindL;show sg (i:=i) (vy<*nd).2 ('s' h1) ('s' h2) hk
theorem sh{Y:Str->Option NameKind}{x:Str}{v:Value}:∀{P:Ya}{T:Zl}{i:Nat}{m:Zs},P.Nodup->P[i]?\x->T[i]?\v->Y x≠↑.local ->
 bindC Y (P.zip T) m x\v
 |[],_,_,_,_,h,_,_=>by simp at h|_::_,[],_,_,_,_,h,_=>by simp at h
 |p::P,w::T,0,m,nd,h1,h2,hk=>by
  simp at h1 h2;subst h1;subst h2;change bindC Y ((p,w)::P.zip T) m p=_;unfold bindC;rw[sf λv G=>(vy<*nd).1 (Df G).1,cz hk];simp
 |p::P,w::T,i+1,m,nd,h1,h2,hk=>by
  change bindC Y ((p,w)::P.zip T) m x=_;unfold bindC;show sh (i:=i) (vy<*nd).2 ('s' h1) ('s' h2) hk
def ZM(N:Ya)(Y:List V):St:=Y%some++'R' (-N- -Y) ()
def eO(B:bH)(P:Program)(w:World)(K:Fg)(mg:Zs)(base:Heap)(N:Ya)(T:Str)(Y:Scope)(f:Addr)(J:Value)(A:Around)(YK:List Env)(s:Shared)(H:Hp)(E:XK):Cx where
 prog:=P
 w:=w
 K:=K
 mg:=mg
 base:=base
 A:=A.deeper (envOfC T Y s⁻¹ f J)
 N:=N
 s₀:=s
 H₀:=H
 env:=envOfC T Y s⁻¹ f J
 YK:=YK
 YH:=envOfC T Y s⁻¹ f J::YK
 ex:=[]
 YB:=true
 fn:=λ_=>true
 pn:=[]
 xe:=λe C=>wq P w (A.deeper (envOfC T Y s⁻¹ f J)) (leaving (envOfC T Y s⁻¹ f J) e) (λ_ G=>B YK H s E e G) (λO G=>B YK H s E O G) C
def si{Y:Scope}{n:Nat}{x:Str}(h:(Y.names/x)\.cell):∃c,(cellsFrom n Y.names []/x)\c:=by let q:=PySem.W.cellsFrom_some Y.names n [] (.inl h);show qz<*q
def HH{CX:bH}{P:Program}{w:World}{K:Fg}{mg:Zs}{B:Heap}{N R:Ya}{G:Str}{Y:Scope}{f:Addr}{D:Value}{A:Around}{T:List Env}{s s1:Shared}{H:Hp}{E:XK}{X:Zl}{L:List V}
 (S:jH N R Y) (hd:A.handled=()) (O:eN P w K mg B A T s H) (hl:-L=-R) (r:WT L X)
 (x:InCallC s s⁻¹ (bindL (envOfC G Y s⁻¹ f D).kindOf (R.zip X) λ_=>()) (cellsFrom (s⁻¹+1) Y.names []) (bindC (envOfC G Y s⁻¹ f D).kindOf (R.zip X) λ_=>()) s1) :
 WM (eO CX P w K mg B N G Y f D A T s H E) [] (ZM N L) H s1:=by
 let Kv:-R<=-N:=by let:=rm List.length S.pre;rw[Ca]at this;lia
 let(I,tk,rfl,U):=x.done;let C:∀b:Addr,b∉(eO CX P w K mg B N G Y f D A T s H E).ex:=λb z=>absurd (show b∈([]:X0)from z) 'b'
 show((O._l,S.kind,rfl,rfl,bz _,λy z c I J=>?_,λy Q=>?_,λy c _ h=>?_,λ_=>hd,Around.frames_deeper O.frames,.inr (rfl,rfl),λb z=>absurd z (C b),O.bs,O.cc,λb _ _=>C b,λb z=>absurd z (C b),O.bU,O.eJ),
  rfl,O._c,Un.YM U,{1,_,x.toInCall.ns,λi y v I J h3=>?_},λy c h=>(_,x.cell y c h),O.Dk.fresh (bz _),λy c h=>?_,λp W=>absurd (show p∈([]:Zp)from W) 'b',O.Dk.YM U,?_)
 .exact name_of_addr x.apart (Bs I) (Bs J)
 .let Q:(Y.names/y)\.cell\/(Y.names/y)\.free:=Q
  rcases Q with Q|Q
  .exact si Q
  .exact absurd rfl (S.HG _ (Bs Q))
 .exact Aj (x.above y c (Bs h))
 .let F:i< -L:=by
   unfold ZM at J
   by_cases F:i< -L
   .exact F
   .rw[jf ('s' F)]at J
    rw[Bq]at J;split at J<;>cases J
  let ha:L[i]?\v:=by
   unfold ZM at J;rw[gf ('s' F),ie]at J;cases e:L[i]? with
   |none=>rw[e]at J;cases J|some a=>rw[e]at J;cases J;rfl
  let(u,Z,rv):=r.get ha;let W:R[i]?\y:=by rw[<-S.pre,List.getElem?_take_of_lt (b_ F (f_ hl))];show I
  let M:R.Nodup:=by rw[<-S.pre];show S.nd.sublist (List.take_sublist _ _)
  show{1,u,rv,?_};rcases S.par y (az W)with k|k
  .exact .inl (k,sg M W Z k)
  .let(c,e):=si (n:=s⁻¹+1) k
   show .inr (.inl k,c,e,?_);let q:=x.cell y c e;rw[sh M W Z (by change Y.names/y≠_;rw[k];decide)]at q;show q
 .exact O.Dk.fresh (Aj (x.above y c (Bs h)))
 .unfold ZM
  change _=-N;rw[m5,dh,List.length_replicate]
  lia
def HI{CX:bH}{P:Program}{w:World}{K:Fg}{mg:Zs}{B:Heap}{k:Nat}{f:Addr}{R T:Str}{O:Arguments}{C:List Stmt}{Y:Scope}{dV kV M pm G ct oc:Value}{an od:Option Addr}
 {qq:Array (Option Value)} {N ps:Ya} {sp:Sp} (lk:(K/f)\(oc,od,.func (PySem.W.fnOf R T O C Y dV kV M pm an G ct),qq)) (qv:PySem.W.codeIn K G T=true) (S:jH N ps Y)
 (len:∀U H Q E,sp U H Q E->-U=-ps)
 (qk:∀(A:Around)(Z:List Env)(s:Shared)(H:Hp)(U:List V)(Q:VK)(E:XK),Dd k (A.deeper (envOfC T Y s⁻¹ f G))->sp U H Q E ->
  ∃t,Uv (eO CX P w K mg B N T Y f G A Z s H E) C t/\t { nx:=λ_ H'=>Q .XQ H',rt:=Q } (ZM N U) H) :
 J8 P w K mg B CX (k+1) f (PySem.W.fnOf R T O C Y dV kV M pm an G ct) ps sp:=by
 show(len,λA Z s H q2 us U Q E hr D hb r X=>?_);let hl:=len _ _ _ _ X;let KX:K.In s.1:=D._l.ij.keeps λb o e=>(D.bs b o e).1
 let q0:s.1.NoLimit:=D._l.nolimit.keeps λb o e=>(D.bs b o e).1
 let q1:∀y∈ps.zip us,(Y.names/y.1)\.local\/((Y.names/y.1)\.cell/\(cellsFrom (s⁻¹+1) Y.names []/y.1).isSome=true):=λ(n,v) hy=>by
  rcases S.par n (Df hy).1 with q|q
  .exact .inl q
  .exact .inr (q,PySem.W.cellsFrom_some _ _ _ (.inl q))
 show codeAny_call_function hr.depth (KX _ _ lk) rfl S.co S.gen rfl (PySem.W.codeRec_of KX qv) (hb _ _ _ _ ?_);show wpAny_newFunctionEnv_cells S.kind q1 λq3 he s1 x=>?_
 subst he;show(q0.keeps x.toInCall.keep,codeAny_func ?_);let(t,ht,hq):=qk A Z s H U Q E (hr.deeper _) X;let I:WM (eO CX P w K mg B N T Y f G A Z s H E) [] (ZM N U) H s1:=HH S hr.hd D hl r x;show mj (ht [] s1 (ZM N U) H _ I hq) (λfl s' F=>?_) λe s' F=>F
 let fin:∀{L:St}{H':Hp}{v:V}{u:Value},WM (eO CX P w K mg B N T Y f G A Z s H E) [] L H' s'->WX v u->Q v H'->CE Z P w H s Q u s':=
  fun{L H' v u} J rv q=>{2,v,H',J.os,J._c,J.base,J.Dk,rv,q}
 cases fl with
 |ret u =>
  let(v,L,H',J,rv,q):=F;show fin J rv q
 |next =>
  let(L,H',J,q):=F;show fin (v:=V.XQ) (u:=Value.none) J rfl q
 |brk =>
  let(_,_,_,q):=F;show False.elim q
 |cont =>
  let(_,_,_,q):=F;show False.elim q
def mS(r:List V->Hp->VK->Prop)(t:TA):TE:=λG H Q=>t G H λT Y=>r T Y Q
def HJ{X:Cx}{x:Str}{p pos:Pos}{e:Expr}{T:Y3}{t:TA}{id:String}{r:List V->Hp->VK->Prop}(E:Ff X (.builtin id) r)(F:Gl X x)(L:X.mg x=())(J:bootBuiltins x\(.builtin id))(M:PA X (e::T) t)(R:autoParam (x≠"__name__") bL._auto_1)(B:autoParam ((x==("__debug__": Str))=false) bL._auto_1)
 (W:autoParam (starEach (e::T) X.env=(false,eval e X.env)::starEach T X.env) aJ._auto_1) (A:autoParam ((backTo pos (starEach T X.env)).any (·.1)=false) aJ._auto_1):PE X (.Call (.Name x p) (e::T) [] pos) (mS r t):=by
 intro Y s G H Q I h;show jx (Fe I F L J ?_ R B);show za (eL (M pos Y s G H _ I h) λN O S C I1 P K=>E Y O G C S N Q I1 P K) W A
def HK{X:Cx}{x:Str}{p pos:Pos}{e:Expr}{G:Y3}{t:TA}{T:String}{r:List V->Hp->VK->Prop}(P:Ff X (.type T) r)(K:Gl X x)(E:X.mg x=())(B:bootBuiltins x\(.type T))(A:PA X (e::G) t)(S:autoParam (x≠"__name__") bL._auto_1)(O:autoParam ((x==("__debug__": Str))=false) bL._auto_1)
 (F:autoParam (starEach (e::G) X.env=(false,eval e X.env)::starEach G X.env) aJ._auto_1) (D:autoParam ((backTo pos (starEach G X.env)).any (·.1)=false) aJ._auto_1):PE X (.Call (.Name x p) (e::G) [] pos) (mS r t):=by
 intro Y s J H Q I h;show jx (Fe I K E B ?_ S O);show jq (eL (A pos Y s J H _ I h) λL C W N I1 R M=>P Y C J N W L Q I1 R M) F D
section
variable{κ:Type}[DecidableEq κ]
def Ux(Y:List (κ×V))(k:κ):Option V:=(Y.find? λT=>decide (T.1=k))%(·.2)
def ZW(T:List (κ×V))(k:κ)(v:V):List (κ×V):=
 if(T.any λY=>decide (Y.1=k))=true then T%(λY=>if Y.1=k then(Y.1,v)else Y)else T++[(k,v)]
def Xb{p:κ×V}(e:p.1=k):Ux (p::r) k\p.2:=by simp[Ux,vq,e]
def Xc{p:κ×V}(e:¬p.1=k):Ux (p::r) k=Ux r k:=by simp[Ux,vq,e]
theorem sk(k:κ):∀Z:List (κ×V),(Z.any λU=>decide (U.1=k))=(Ux Z k).isSome
 |[]=>rfl
 |p::r=>by
  rw[List.any_cons]
  by_cases e:p.1=k
  .erw[Xb e,uw e,Bool.true_or,Option.isSome_some]
  .rw[Xc e,t8 e,Bool.false_or];show sk k r
def Zr(Y:List (κ×V))(k:κ)(v:V):-(ZW Y k v)<=-Y+1:=by
 unfold ZW;split
 .rw[dh];show x_
 .rw[m5,ik,List.length_nil];show bz _
def Tv.Pg(r:Tv o u):o.isSome=u.isSome:=by
 cases o with
 |none=>cases u with
  |none=>rfl|some _=>show(show False from r).elim
 |some _=>cases u with
  |none=>show(show False from r).elim
  |some _=>rfl
theorem Tv.getD(r:Tv o u)(Y:WX d Z):WX (o.getD d) (u.getD Z):=by
 cases o with
 |none=>cases u with
  |none=>show Y|some _=>show(show False from r).elim
 |some _=>cases u with
  |none=>show(show False from r).elim
  |some _=>show r
def KV.val(r:KV U Z)(k:κ):Tv (Ux U k) (valueAt Z k):=by
 unfold KV at r
 induction r with
 |nil=>show True.intro
 |@cons p q ps qs h t ih =>
  let(T,G):=h
  by_cases e:p.1=k
  .let Y:q.1=k:=T.symm>>e
   let b:valueAt (q::qs) k\q.2:=by simp[valueAt,vq,Y]
   rw[Xb e,b];show G
  .let Y:¬q.1=k:=λz=>e (T>>z)
   let b:valueAt (q::qs) k=valueAt qs k:=by simp[valueAt,vq,Y]
   rw[Xc e,b];show ih
theorem KV.any(r:KV U vs)(k:κ):(U.any λZ=>decide (Z.1=k))=vs.any λZ=>decide (Z.1=k):=by
 unfold KV at r
 induction r with
 |nil=>rfl|cons h t Y=>rw[List.any_cons,List.any_cons,Y,h.1]
def KV.Mf(r:KV jo U)(k:κ)(T:WX y u) :
 KV (jo%λZ=>if Z.1=k then(Z.1,y)else Z) (U%λZ=>if Z.1=k then(Z.1,u)else Z):=by
 unfold KV at r⊢
 induction r with
 |nil=>show .nil
 |@cons p q ps qs h t ih =>
  rw[gm,gm];show .cons ?_ ih;let(Y,G):=h
  by_cases e:p.1=k
  .rw[dm e,dm (Y.symm>>e)];show(Y,T)
  .rw[cz e,cz (λz=>e (Y>>z))];show(Y,G)
def KV.put(r:KV U Z)(k:κ)(Y:WX y u):KV (ZW U k y) (stored Z k u):=by
 unfold ZW stored;rw[r.any k]
 by_cases e:(Z.any λT=>decide (T.1=k))=true
 .rw[dm e,dm e];show r.Mf k Y
 .rw[cz e,cz e];show Paired.snoc r (rfl,Y)
theorem KV.length{Y:List (κ×V)}{T:List (κ×Value)}(r:KV Y T):-Y=-T:=Paired.length r
end
def fK(r:WX (kV k) u):(uc P w).is k u=true:=by
 cases k with
 |inl i=>let(t,e):=(show ∃t,u=Value.int i t from r);subst e;show DM P w i t
 |inr x=>let(t,e):=(show ∃t,u=Value.str x t from r);subst e;show DN P w x t
theorem sr{P:Program}{w:World}:∀{Y:List _j}{T:Zl},WT (Y%kV) T->ItemsAre (uc P w) Y T
 |[],_,r=>by rw[Ep]at r;cases r;show .nil
 |k::Y,_,r=>by
  rw[gm]at r;cases r with
  |cons h t=>show .cons (fK h) (sr t)
abbrev KT(H:Hp):List (List _j×V)->List (List _j×Addr×Value)->Prop:=Paired λp q=>p.1=q.1/\H q.2.1\(.WL (p.1%kV))/\WX p.2 q.2.2
def KT.val(r:KT H U Z)(k:List _j):Tv (Ux U k) (atKey Z k%(·.2)):=by
 induction r with
 |nil=>show True.intro
 |@cons p q ps qs h t ih =>
  let(T,_,G):=h
  by_cases e:p.1=k
  .let Y:q.1=k:=T.symm>>e
   let b:atKey (q::qs) k\q.2:=by simp[atKey,vq,Y]
   rw[Xb e,b];show G
  .let Y:¬q.1=k:=λz=>e (T>>z)
   let b:atKey (q::qs) k=atKey qs k:=by simp[atKey,vq,Y]
   rw[Xc e,b];show ih
def KT.Mf(r:KT H jo U)(k:List _j)(G:WX y u) :
 KT H (jo%λZ=>if Z.1=k then(Z.1,y)else Z) (U%(putAt k u)):=by
 induction r with
 |nil=>show .nil
 |@cons p q ps qs h t ih =>
  rw[gm,gm];show .cons ?_ ih;let(Y,T,J):=h;unfold putAt
  by_cases e:p.1=k
  .rw[dm e,dm (Y.symm>>e)];show(Y,T,G)
  .rw[cz e,cz (λz=>e (Y>>z))];show(Y,T,J)
def KT.put(r:KT H U Z)(k:List _j)(G:H b\(.WL (k%kV)))(Y:WX y u) :
 KT H (ZW U k y) (storedH Z k b u):=by
 let e:(U.any λT=>decide (T.1=k))=(atKey Z k).isSome:=by rw[sk,(r.val k).Pg,Option.isSome_map]
 unfold ZW storedH;rw[e]
 by_cases q:(atKey Z k).isSome=true
 .rw[dm q,dm q];show r.Mf k Y
 .rw[cz q,cz q];show Paired.snoc r (rfl,G,Y)
def KT.keeps(r:KT H U xs)(Y:∀b Z,H b\(.WL Z)->H' b\(.WL Z)):KT H' U xs:=
 Paired.sE r λ_ _ z=>(z.1,Y _ _ z.2.1,z.2.2)
def sv(ok:Vj P w H h)(e:Rd H a u):Dy P w H h a u:=e.ok ok
def fL(ok:Vj P w H h)(e:Rd H a (.dK Z)):-Z<=sizeLine/\(a==sysModules)=false/\∃vs,KV Z vs/\h.DictOf (uc P w) a vs:=
 show Dy P w H h a (.dK Z)from sv ok e
def HL(ok:Vj P w H h)(e:H a\(.dK Z)):-Z<=sizeLine/\(a==sysModules)=false/\∃vs,KV Z vs/\h.DictOf (uc P w) a vs:=fL ok (.inl e)
def T4(ok:Vj P w H h)(e:H a\(.WL (Z%kV))):(tupleKind (uc P w)).is h Z a:=by let(_,G,r,o,J,Y,n,T,_):=(show Dy P w H h a (.WL (Z%kV))from ok a _ e);show{3,o,G.toArray,n,J,Y,T,'s' (sr r)}
def fM(ok:Vj P w H h)(e:Rd H a (.dT Z)):-Z<=sizeLine/\(a==sysModules)=false /\
 ∃xs,KT H Z xs/\h.DictOfH (tupleKind (uc P w)) a xs:=by
 let(z,y,xs,r,o,T,J,C,G,O,N,B):=(show Dy P w H h a (.dT Z)from sv ok e);show(z,y,xs,r,o,T,J,C,G,O,N,λx Y=>?_,B);let all:∀{l:List (List _j×V)}{m:List (List _j×Addr×Value)},KT H l m->∀x∈m,(tupleKind (uc P w)).is h x.1 x.2.1:=by
  intro l m q
  induction q with
  |nil=>intro x Y;show nomatch Y
  |@cons p q ps qs hq t ih =>
   intro x Y;rcases dj<*Y with e|Y
   .subst e
    show T4 ok (by rw[<-hq.1];show hq.2.1)
   .exact ih x Y
 show all r x Y
def mT(ok:Vj P w H h)(e:H a\(.dT Z)):-Z<=sizeLine/\(a==sysModules)=false /\
 ∃xs,KT H Z xs/\h.DictOfH (tupleKind (uc P w)) a xs:=fM ok (.inl e)
def Rm(H:Hp)(a:Addr)(y:V)(r:Option V):Prop:=
 (∃Y k,Rd H a (.dK Y)/\y=kV k/\r=Ux Y k)\/∃Y k b,Rd H a (.dT Y)/\y=↥b/\H b\(.WL (k%kV))/\r=Ux Y k
def eP(H:Hp)(a:Addr)(y v:V)(T:Hp):Prop:=
 (∃Y k,H a\(.dK Y)/\y=kV k/\-Y<sizeLine/\T=XD H a (.dK (ZW Y k v))) \/
 ∃Y k b,H a\(.dT Y)/\y=↥b/\H b\(.WL (k%kV))/\-Y<sizeLine/\T=XD H a (.dT (ZW Y k v))
theorem Rm.k{k:_j}(e:H a\(.dK Z)):Rm H a (kV k) (Ux Z k):=.inl {2,Z,k,.inl e,rfl,rfl}
def Rm.t{k:List _j}(e:H a\(.dT Z))(Y:H b\(.WL (k%kV))):Rm H a ↥b (Ux Z k):=.inr {3,Z,k,b,.inl e,rfl,Y,rfl}
theorem eP.k{k:_j}(e:H a\(.dK Z))(Y:-Z<sizeLine):eP H a (kV k) v (XD H a (.dK (ZW Z k v))):=.inl {2,Z,k,e,rfl,Y,rfl}
def eP.t{k:List _j}(e:H a\(.dT Z))(T:H b\(.WL (k%kV)))(Y:-Z<sizeLine) :
 eP H a ↥b v (XD H a (.dT (ZW Z k v))):=.inr {3,Z,k,b,e,rfl,T,Y,rfl}
def WM.big(I:'i'):sysModules<s⁻¹:=by
 let h:mainGlobals<s⁻¹:=(I._l.glob.keeps I.bk).lt
 show Nat.lt_trans ⋯ h
def HM(R:A.units+1<cLine)(I:'i')(g:Rm H a y ↑v)(C:WX y u)(h:∀Z U,WM X pins σ H U->WX v Z->Q Z U) :
 wq X.prog X.w A (getItem ↥a u) Q E s:=by
 rcases g with⟨V,k,e,B,l⟩|⟨V,k,b,e,B,W,l⟩
 .subst B
  let(z,N,S,T,J):=fL I.Dk e;let(Z,G,Y):=Tv.some_of (v:=v) (o:=valueAt S k) (by rw[l];show T.val k);show wpAny_getItem_of (fK C) J.mapOf G (h Z _ (I.tok _) Y)
 .subst B
  cases(show u=Value.ref b from C);let(z,N,P,T,J):=fM I.Dk e;let(Z,G,Y):=Tv.some_of (v:=v) (o:=atKey P k%(·.2)) (by rw[l];show T.val k);let(p,L,O):=dg<*G;show wpAny_getItem_heap (zy R) (T4 I.Dk W) J L ?_;rw[O];show h Z _ (I.tok _) Y
def sy(O:A.units+1<cLine)(I:'i')(g:Rm H a y o)(B:WX y u)(h:∀Z,WM X pins σ H Z->Q (.bool o.isSome) Z) :
 wq X.prog X.w A (compareOp .In u ↥a) Q E s:=by
 rcases g with⟨C,k,e,J,l⟩|⟨C,k,b,e,J,N,l⟩
 .subst J
  let(z,T,P,Y,G):=fL I.Dk e;show wpAny_in_of (fK B) T G.mapOf ?_;rw[<-(Y.val k).Pg,<-l];show h _ (I.tok _)
 .subst J
  cases(show u=Value.ref b from B);let(z,T,L,Y,G):=fM I.Dk e;show wpAny_in_heap (zy O) (T4 I.Dk N) T G ?_;let q:=(Y.val k).Pg;rw[Option.isSome_map]at q;rw[<-q,<-l];show h _ (I.tok _)
def tD(O:A.units+1<cLine)(I:'i')(g:Rm H a y o)(B:WX y u)(h:∀Z,WM X pins σ H Z->Q (.bool (!o.isSome)) Z) :
 wq X.prog X.w A (compareOp .NotIn u ↥a) Q E s:=by
 rcases g with⟨C,k,e,J,l⟩|⟨C,k,b,e,J,N,l⟩
 .subst J
  let(z,T,P,Y,G):=fL I.Dk e;show wpAny_notIn_of (fK B) T G.mapOf ?_;rw[<-(Y.val k).Pg,<-l];show h _ (I.tok _)
 .subst J
  cases(show u=Value.ref b from B);let(z,T,L,Y,G):=fM I.Dk e;show wpAny_notIn_heap (zy O) (T4 I.Dk N) T G ?_;let q:=(Y.val k).Pg;rw[Option.isSome_map]at q;rw[<-q,<-l];show h _ (I.tok _)
def tF(I:'i')(J:dH (H a))(Y:Heap.SameBut a s.1 Z)(T:∃q,Z^a\q)(new:Dy X.prog X.w (XD H a U) Z a U) :
 WM X pins σ (XD H a U) { s with heap:=Z,toks:=t' }:=
 I._G (x:=a) (e:=a) J (.inl rfl) (λb q G z=>Y.2 b G>>z) T new
def HN(z:-U<=sizeLine)(T:(a==sysModules)=false)(Y:KV U Z)(G:h'.DictOf (uc P w) a Z) :
 Dy P w H' h' a (.dK U):=(z,T,Z,Y,G)
def tG(M:A.units+1<cLine)(I:'i')(g:eP H a y v H')(K:WX y u)(W:WX v r)(h:∀Z,WM X pins σ H' Z->Q Unit.unit Z) :
 wq X.prog X.w A (setItem ↥a u r) Q E s:=by
 rcases g with⟨G,k,e,P,l,C⟩|⟨G,k,b,e,P,F,l,C⟩
 .subst P C
  let(z,B,D,Y,R):=HL I.Dk e;let L:-D<=sizeLine:=by rw[<--Y];show z
  let N:-(ZW G k v)<=sizeLine:=by let:=Zr G k v;show a_ this l
  show wpAny_setItem_pairs (hsz:=L) (fK K) R λS T O=>h _ ?_
  let he:∃q,S^a\q:=let (q,_,_,J,_):=T;(q,J);show tF I (by rw[e];show True.intro) O he (HN N B (Y.put k W) T)
 .subst P C
  cases(show u=Value.ref b from K);let(z,B,U,Y,R):=mT I.Dk e;let L:-U<=sizeLine:=by rw[<-Paired.length Y];show z
  let N:-(ZW G k v)<=sizeLine:=by let:=Zr G k v;show a_ this l
  show wpAny_setItem_heap (hsz:=L) (zy M) (T4 I.Dk F) R λS T O=>h _ ?_
  let(q,es,ep,J,h2,h3,h4,_,h5):=T;show tF I (by rw[e];show True.intro) O (q,J) (N,B,_,(Y.put k F W).keeps λc ys V=>?_,q,es,ep,J,h2,h3,h4,h5);rw[qp (mB V e (λz=>nomatch z))];show V
def HP(I:'i')(g:Rm H a y o):s.TypeIs ↥a "dict":= by
 rcases g with⟨T,k,e,_,_⟩|⟨T,k,b,e,_,_,_⟩
 .let(_,_,J,_,Y):=fL I.Dk e
  show Y.typeIs
 .let(_,_,G,_,Y):=fM I.Dk e
  show Y.typeIs
def HQ(h:Heap)(Y:sysModules<h.objs.size):Dy P w H (h.push { cls:=.type "dict",data:=.dict #[] }) h.objs.size (.dK []):=
 (iw _,xg.mpr (j4 (gq Y)),[],.nil,Heap.DictOf.new h)
def HR(h:Heap)(Y:sysModules<h.objs.size):Dy P w H (h.push { cls:=.type "dict",data:=.dict #[] }) h.objs.size (.dT []):=
 (iw _,xg.mpr (j4 (gq Y)),[],.nil,_,#[],0,cu _ rfl,(rfl,rfl,rfl),rfl,rfl,Dw)
def HS:TE:=λ_ H Q=>∀p,H p=()->Q ↥p (XD H p (.dK []))
def HU:TE:=λ_ H Q=>∀p,H p=()->Q ↥p (XD H p (.dT []))
def HV:PE X (.Dict [] [] pos) HS:=λY s T H Q I h =>
 wpAny_Dict_empty (.ref s⁻¹,_,I.laid (a:=s⁻¹) (o:=.dK []) (t':=s.toks) (λ_ _ q=>aq _ q) (bz _) (HQ s.1 I.big),rfl,h _ (I.Dk.fresh (bz _)))
def HW:PE X (.Dict [] [] pos) HU:=λY s T H Q I h =>
 wpAny_Dict_empty (.ref s⁻¹,_,I.laid (a:=s⁻¹) (o:=.dT []) (t':=s.toks) (λ_ _ q=>aq _ q) (bz _) (HR s.1 I.big),rfl,h _ (I.Dk.fresh (bz _)))
def tH(N:A.units+1<cLine)(I:'i')(g:Rm H a y o)(B:WX y u)(O:WX d r)(h:∀U Z,WM X pins σ H Z->WX (o.getD d) U->Q U Z) :
 wq X.prog X.w A (call (.builtin "dict.get") [↥a,u,r]) Q E s:=by
 rcases g with⟨L,k,e,J,l⟩|⟨L,k,b,e,J,P,l⟩
 .subst J
  let(z,G,R,Y,T):=fL I.Dk e;show call_meetsIn PySem.F.slot_dict_get T.typeIs PySem.F.entry_dict_get (PySem.F.args_dict_get_3 _ _ _) (meets_dict_get_default (uc X.prog X.w) a (fK B) G r) {1,_,T.mapOf,h _ _ (I.tok _) ?_};rw[l];show(Y.val k).getD O
 .subst J
  cases(show u=Value.ref b from B);let(z,G,C,Y,T):=fM I.Dk e;show call_meetsIn PySem.F.slot_dict_get T.typeIs PySem.F.entry_dict_get (PySem.F.args_dict_get_3 _ _ _) (meetsH_dict_get_default (tupleKind (uc X.prog X.w)) a b G r) (zy N,k,C,T4 I.Dk P,T,h _ _ (I.tok _) ?_);rw[l];show(Y.val k).getD O
end L2
namespace HT
open PySem PyProof.Rows
def HX(I:IsTup s.1 t Z.toArray)(q:IsTup s.1 b U.toArray)(X:Z=[]->Q ↥b s)(M:U=[]->Q ↥t s)(D:Z≠[]->U≠[]->Q (.ref s⁻¹) (s<&>s.1.push { cls:='U',data:=.seq (Z++U).toArray }))(P:-Z+-U<=sizeLine):'p' (binaryOp .Add ↥t ↥b) Q E s:=by
 let((qk,S,qq,H),J,W,n,V):=id I;let((K,T,R,G),Y,B,L,C):=id q;simp only at W V B C;subst W V B C;let e:Z.toArray++U.toArray=(Z++U).toArray:='b'
 by_cases O:Z=[]
 .exact concat_meets (_,J,rfl) (_,Y,rfl) noFill_tuple_add seq_tuple_add PySem.F.slot_tuple_add PySem.F.entry_tuple_add (PySem.F.args_tuple_add_2 _ _)
   (tuple_addW0 t b Z.toArray U.toArray n L S T H G (by simp[O])) (J,Y,X O)
 by_cases N:U=[]
 .exact concat_meets (_,J,rfl) (_,Y,rfl) noFill_tuple_add seq_tuple_add PySem.F.slot_tuple_add PySem.F.entry_tuple_add (PySem.F.args_tuple_add_2 _ _)
   (tuple_addW1 t b Z.toArray U.toArray n L S T H G ('s' O) (by simp[N])) (J,Y,M N)
 .refine concat_meets (_,J,rfl) (_,Y,rfl) noFill_tuple_add seq_tuple_add PySem.F.slot_tuple_add PySem.F.entry_tuple_add (PySem.F.args_tuple_add_2 _ _)
   (tuple_addW2 t b Z.toArray U.toArray n L S T H G ('s' O) ('s' N) (by rw[gn,gn];show P)) (J,Y,?_)
  rw[e];show D O N
def Jq(n d:Nat):Option Int->Nat
 |none=>d|some v=>if v<0 then(v+(n:Int)).toNat else min v.toNat n
def HY(n d:Nat)(T:d<=n)(o:Option Int):Jq n d o<=n:=by
 cases o with
 |none=>show T
 |some v =>
  change(if v<0 then(v+(n:Int)).toNat else min v.toNat n)<=n
  by_cases Y:v<0
  .rw[dm Y];lia
  .rw[cz Y];show Nat.min_le_right _ _
def tJ(v:Int)(n d:Nat):(if v<0 then max (v+(n:Int)) 0 else min v (n:Int))=((Jq n d ↑v:Nat):Int):=by
 change(if v<0 then max (v+(n:Int)) 0 else min v (n:Int))=(((if v<0 then(v+(n:Int)).toNat else min v.toNat n):Nat):Int)
 by_cases Y:v<0
 .erw[dm Y];lia
 .erw[cz Y];lia
def HZ(Y T:Option Int)(n:Nat):Builtin.Slice.sliceAdjust Y T 1 (n:Int)=(((Jq n 0 Y:Nat):Int),((Jq n n T:Nat):Int)):=by
 let G:¬((1:Int)<0):='a'
 unfold Builtin.Slice.sliceAdjust;erw[G,jt];show Prod.ext ?_ ?_
 .cases Y with
  |none=>rfl|some v=>show tJ v n 0
 .cases T with
  |none=>rfl|some v=>show tJ v n n
def He(i j:Nat):Builtin.Slice.slicePlaces (i:Int) (j:Int) 1=j-i:=by unfold Builtin.Slice.slicePlaces;let Y:(1:Int) > 0:=m_ ⋯;erw[Y,my,Int.ediv_one];split<;>lia
def tK(p:IsPart v o)(h:Q o s):'p' (Builtin.Slice.slicePartIndex v) Q E s:=by
 cases p with
 |none=>show slicePart_none h|int i t=>show slicePart_int h
def Yz{Y:Option Int}{n:Nat}(B:s.1.IsSliceOf sl vl U .none)(O:IsPart vl Y)(J:IsPart U Z)(h:Q (((Jq n 0 Y:Nat):Int),1,Jq n n Z-Jq n 0 Y) s):'p' (Builtin.Slice.sliceApplied ↥sl (pure (n:Int))) Q E s:=by let(N,T,C,G):=id B;unfold Builtin.Slice.sliceApplied Builtin.Slice.sliceFields;show aa (aa (jm T G (x:=vl) rfl (aa (jm T G (x:=U) rfl (aa (jm T G (x:=.none) rfl (aj ?_)))))));show aa (slicePart_none ?_);change 'A' (if((1:Int)==0)=true then _ else _) _ _ s;rw[cz ⋯];show aa (tK O (aa (tK J (aa (aj ?_)))));change 'A' (match Builtin.Slice.sliceAdjust Y Z 1 (n:Int)with|(Y,Z)=>pure (Prod.mk Y (Prod.mk (1:Int) (Builtin.Slice.slicePlaces Y Z 1)))) _ _ s;rw[HZ Y Z n];change 'A' (pure (Prod.mk ((Jq n 0 Y:Nat):Int) (Prod.mk (1:Int) (Builtin.Slice.slicePlaces ((Jq n 0 Y:Nat):Int) ((Jq n n Z:Nat):Int) 1)))) _ _ s;rw[He];show aj h
def IA(Y:U1)(i k:Nat):(('r' k).filterMap λ(m:Nat)=>Y[((i:Int)+(m:Int)*1).toNat]?).toArray=((Y.toList.drop i).take k).toArray:=by
 let e:(λ(m:Nat)=>Y[((i:Int)+(m:Int)*1).toNat]?)=λm=>Y[i+m]?:=by
  funext m
  let:((i:Int)+(m:Int)*1).toNat=i+m:='a'
  rw[this]
 rw[e];let:=pick_run Y i k;rw[List.filterMap_map]at this;let T:((λx=>Y[x]?) ∘ λx=>i+x)=λm=>Y[i+m]?:=rfl
 rw[T]at this;rw[this]
def Xd{Y:Option Int}(J:IsTup s.1 t items)(N:s.1.IsSliceOf U vl vu .none)(W:IsPart vl Y)(V:IsPart vu Z)(R:Jq items.size 0 Y=0->Jq items.size items.size Z=items.size->Q ↥t s)(h:Q (.ref s⁻¹) (s<&>s.1.push { cls:='U',data:=.seq ((items.toList.drop (Jq items.size 0 Y)).take (Jq items.size items.size Z-Jq items.size 0 Y)).toArray }))(L:items.size<=sizeLine):'p' (getItem ↥t ↥U) Q E s:=by
 let G:sizeOk (.seq ((items.toList.drop (Jq items.size 0 Y)).take (Jq items.size items.size Z-Jq items.size 0 Y)).toArray):=by
  change((items.toList.drop (Jq items.size 0 Y)).take (Jq items.size items.size Z-Jq items.size 0 Y)).toArray.size<=sizeLine
  rw[gn,Ca,List.length_drop,vd];omega
 let F:Jq items.size items.size Z<=items.size:=HY _ _ (bz _) Z
 let(H,O,B,S):=id N;let C:s.TypeIs ↥U "slice":= (H,O,B);unfold getItem
 try with_reducible show je ?_
 first|show aa (aj ?_)|skip
 show aa (wpAny_sequenceKey J.typeIs ⋯ ?_);show aa (ji (name:=Str.ofString "__getitem__") J.typeIs Az
  (iz Az J.typeIs entry_tuple_getitem ?_ (args_tuple_getitem _ _)))
 change 'A' (Builtin.Tuple.tupleItemsOf ↥t>>=_) _ _ s;show aa (tupleItemsOf_ J ?_);show aa (ux C ?_);rw[dm ⋯];show aa (Yz N W V ?_);change 'A' (if(((Jq items.size 0 Y:Nat):Int)==0&&(1:Int)==1&&(Jq items.size items.size Z-Jq items.size 0 Y)==items.size)=true then _ else _) _ _ s
 by_cases T:(((Jq items.size 0 Y:Nat):Int)==0&&(1:Int)==1&&(Jq items.size items.size Z-Jq items.size 0 Y)==items.size)=true
 .rw[dm T]
  rw[bf,bf]at T;let K:((Jq items.size 0 Y:Nat):Int)=0:=eq_of_beq T.1.1;let M:Jq items.size items.size Z-Jq items.size 0 Y=items.size:=eq_of_beq T.2;let P:=R 'a' 'a';show aa (m:=Builtin.Tuple.tupleIsExact ↥t) (aa (ux J.typeIs (aj ?_)));rw[dm ⋯];show aa (o5 (aj {1,_,rfl,aj P}))
 rw[cz T,IA]
 first
  |show aa (m:=Builtin.Tuple.tupleExact _) (m8 (aj {1,_,rfl,aj h}) G)
  |show aa (m:=Builtin.Tuple.tupleExact _) (m8 (aa (aj (aj (_,rfl,aj h)))) G)
  |show aa (aa (m:=Builtin.Tuple.tupleExact _) (m8 (aj (aj (_,rfl,aj h))) G))
  |show aa (aa (m:=Builtin.Tuple.tupleExact _) (m8 (aj (_,rfl,aj h)) G))
end HT
namespace L2
open PySem PySem.Spec PyProof.Rows
abbrev TO:=St->Hp->(Option Int->Hp->Prop)->Prop
def PO(X:Cx)(e:Option Expr)(t:TO):Prop:=
 ∀(Y:Zp)(s:Shared)(T:St)(H:Hp)(Q:Option Int->Hp->Prop),WM X Y T H s->t T H Q ->
  'q' (evalPart e X.env) (λu J=>∃o G,WM X Y T G J/\IsPart u o/\Q o G) X.xe s
def IB:TO:=λ_ H Q=>Q () H
def IC(t:TE):TO:=λT H Q=>t T H λx Y=>∃i,x=⇑i/\Q ↑i Y
def ID:PO X () IB:=by intro Y s T H Q I h;rw[evalPart_none];show aj ((),H,I,.none,h)
def tL(h:PE X e Z):PO X ↑e (IC Z):=by
 intro Y s T H Q I G;rw[evalPart_some];show Uw (h Y s T H _ I G) λu C x J I1 B O=>?_
 let(i,rfl,q):=O;let(t,rfl):=B;show(↑i,J,I1,.int i t,q)
def dJ(X:Cx)(r:V->Option Int->Option Int->Hp->VK->Prop):Prop:=
 ∀(Y:Zp)(s:Shared)(G:St)(H:Hp)(x:V)(v J C:Value)(N B:Option Int)(O:Addr)(Q:VK),WM X Y G H s->WX x v->s.1.IsSliceOf O J C .none->IsPart J N->IsPart C B->r x N B H Q ->
  ∃T id,typeLookup (.type T) "__getitem__"= pure ↑(.builtin id)/\s.TypeIs v T/\'q' (getItem v ↥O) (EP X Y G Q) X.xe s
def dJ.or(h:dJ X r)(E:dJ X r'):dJ X (λx U Z H Q=>r x U Z H Q\/r' x U Z H Q):=by
 intro Y s G H x v T L U Z C Q I N B O J q;rcases q with q|q
 .exact h Y s G H x v T L U Z C Q I N B O J q
 .exact E Y s G H x v T L U Z C Q I N B O J q
def IE(r:V->Option Int->Option Int->Hp->VK->Prop)(B:TE)(O T:TO):TE:=λY H Q=>B Y H λx G=>O Y G λl C=>T Y C λu J=>r x l u J Q
def IF{C:Option Expr}(M:dJ X r)(W:PE X e te)(V:PO X C tl)(L:PO X Z U):PE X (.Subscript e (.Slice C Z () p2) pos) (IE r te tl U):=by
 intro Y s J H Q I h;show Subscript_ (Uw (W Y s J H _ I h) λv g x S I1 y F=>?_);show wpAny_Slice (Kd (V Y g J S _ I1 F) λB D (l,H2,I2,pl,q2)=>Kd (L Y D J H2 _ I2 q2) λO G z_=>?_);let(u,N,I3,j,R):=z_;rw[evalPart_none];show aj ?_;let P:WM X Y J N (G<&>G.1.push { cls:=.type "slice",data:=.fields #[B,O,.none] }):=I3.YM (t':=G.toks) λb c q=>aq _ q
 let(T,id,K,z,E):=M Y (G<&>G.1.push { cls:=.type "slice",data:=.fields #[B,O,.none] }) J N x v B O l u G⁻¹ Q P y (Heap.IsSliceOf.new ..) pl j R;change 'q' (subscriptTail e (.Slice C Z () p2) v (.ref G⁻¹)) (EP X Y J Q) X.xe (G<&>G.1.push { cls:=.type "slice",data:=.fields #[B,O,.none] });show tail_any (ops:=[.ref G⁻¹,v]) z K E (by with_unfolding_all rfl)
def bV(Y:List V)(T G:Option Int):List V:=(Y.drop (HT.Jq (-Y) 0 T)).take (HT.Jq (-Y) (-Y) G-HT.Jq (-Y) 0 T)
def Zt(Y:List V)(G T:Option Int):-(bV Y G T)<=-Y:=by
 unfold bV;rw[Ca,List.length_drop]
 lia
def IG(K:Fg):V->Option Int->Option Int->Hp->VK->Prop:=λx T G H Q=>∃a Y,x=↥a/\Oe K H a Y /\
 (HT.Jq (-Y) 0 T=0->HT.Jq (-Y) (-Y) G=-Y->Q ↥a H)/\∀p,H p=()->Q ↥p (XD H p (.WL (bV Y T G)))
def IH:dJ X (IG X.K):=by
 intro B s Z H x v A D G J U Q I L N V S h;let(a,T,rfl,F,R,q):=h;cases L;let(P,r,C,O):=I.tuple F;let Y:P.toArray.size=-T:=by rw[gn];show r.length.symm
 show{2,"tuple",_,Az.lookup,C.typeIs,?_};show HT.Xd C N V S (by rw[Y];show λE W=>(↥a,H,I,rfl,R E W)) ?_ (by rw[Y];show O);rw[Y];show(.ref s⁻¹,_,I.laid (t':=s.toks) (o:=.WL (bV T G J)) (λb M q=>aq _ q) (bz _) ?_,rfl,q _ (I.Dk.fresh (bz _)));show(gh (Zt T G J) O,_,(r.drop (HT.Jq (-T) 0 G)).take (HT.Jq (-T) (-T) J-HT.Jq (-T) 0 G),cB.new _ _)
def II(K:Fg):R2:=λx y H Q=>∃a b T Y,x=↥a/\y=↥b/\Oe K H a T/\Oe K H b Y/\-T+-Y<=sizeLine /\
 (T=[]->Q ↥b H)/\(Y=[]->Q ↥a H)/\(∀p,H p=()->Q ↥p (XD H p (.WL (T++Y))))
def WT.tN(r:WT Z U):U=[]↔Z=[]:=by
 cases r with
 |nil=>simp|cons _ _=>simp
def IJ:Gx X (binaryOp .Add) (II X.K):=by intro G s D H x y v u Q I B R h;let(a,b,O,W,rfl,rfl,P,S,J,N,C,F):=h;cases B;cases R;let(A,Y,V,_):=I.tuple P;let(E,T,L,_):=I.tuple S;show HT.HX V L (λz=>(↥b,H,I,rfl,N (Y.tN<*z))) (λz=>(↥a,H,I,rfl,C (T.tN<*z))) (λ_ _=>?_) (by rw[<--Y,<--T];show J);show{2,.ref s⁻¹,_,I.laid (t':=s.toks) (o:=.WL (O++W)) (λb M q=>aq _ q) (bz _) ?_,rfl,F _ (I.Dk.fresh (bz _))};show(by rw[m5];show J,_,Y.append T,cB.new _ _)
def fO(n:Nat)(i:Int):Option Nat:=if 0<=i then(if i<n then ↑i.toNat else ())else if Neg.neg (n:Int)<=i then ↑(i+n).toNat else ()
def dD{α:Type}(Y:List α)(i:Int):Option α:=fO (-Y) i*>λj=>Y[j]?
def tP(h:fO n i\j):seqIndex? i n\j/\j<n/\Neg.neg (n:Int)<=i/\i<n:=by
 unfold fO at h
 by_cases T:0<=i
 .rw[dm T]at h
  by_cases Y:i<n
  .rw[dm Y]at h
   let e:i.toNat=j:=j6 h;show(by rw[seqIndex_of T Y,e],'a','a',Y)
  .rw[cz Y]at h;cases h
 .rw[cz T]at h
  by_cases Y:Neg.neg (n:Int)<=i
  .rw[dm Y]at h
   let e:(i+n).toNat=j:=j6 h;show(by rw[seqIndex_neg 'a' Y,e],'a',Y,'a')
  .rw[cz Y]at h;cases h
def tR(h:dD Z i\v):∃j,seqIndex? i (-Z)\j/\Z[j]?\v/\j< -Z/\Neg.neg (-Z:Int)<=i/\i< -Z:=by
 unfold dD at h;cases e:fO (-Z) i with
 |none=>rw[e]at h;cases h
 |some j =>
  rw[e]at h;let(G,Y,T,J):=tP e;show(j,G,h,Y,T,J)
def mU(b:Expr):Prop:=∀o i,subscripted b false o i=operate [o,i] (getItem o i)
def gR(X:Cx)(r:R2):Prop:=
 ∀(G Y:Expr)(T:Zp)(s:Shared)(J:St)(H:Hp)(x y:V)(v u:Value)(Q:VK),WM X T J H s->WX x v->WX y u->r x y H Q ->
  subscripted Y false v u=operate [v,u] (getItem v u)->'q' (subscriptTail G Y v u) (EP X T J Q) X.xe s
def dM(X:Cx)(id:String)(r:V->List V->Hp->VK->Prop):Prop:=
 ∀(Y:Zp)(s:Shared)(G:St)(H:Hp)(x:V)(T:List V)(v:Value)(J:Zl)(Q:VK),WM X Y G H s->WX x v->WT T J->r x T H Q ->
  'q' (call (.builtin id) (v::J)) (EP X Y G Q) X.xe s
def IK(J:gR X r)(E:PE X a Z)(L:PE X b tb)(B:mU b):PE X (.Subscript a b pos) (fJ r Z tb):=by intro Y s T H Q I h;show Subscript_ (mP E L I h λv u O x y C I2 N G q=>J a b Y O T C x y v u Q I2 N G q (B _ _))
def IL(K:Fg):R2:=λx y H Q=>∃p Y i v,x=↥p/\y=⇑i/\Kp K H p Y/\dD Y i\v/\Q v H
def IM(K:Fg):R2:=λx y H Q=>∃p Y i v,x=↥p/\y=⇑i/\Oe K H p Y/\dD Y i\v/\Q v H
def Et:gR X (IL X.K):=by
 intro J B Y s L H x y v u Q I S Z h N;let(p,xs,i,z,rfl,rfl,A,F,q):=h;cases S;let(t,rfl):=Z;let(V,r,C,hz):=I.list A;let(j,T,M,h3,D,U):=tR F;let(w,E,O):=r.get M;let W:=-r;let hn:=jG;let fin:EP X Y L Q w s:=(z,H,I,O,q)
 by_cases P:0<=i
 .let G:i.toNat=j:=by
   rw[seqIndex_of P U]at T;show j6 T
  show item_listR C.isList P 'a' (by rw[G];simpa using E) fin N
 .let G:(i+(V.toArray.size:Int)).toNat=j:=by
   rw[seqIndex_neg 'a' D]at T;rw[gn,<-W];show j6 T
  show subscriptTail_builtinR (x:=w) C.isList.typeIs slot_list_getitem.lookup
   (wpAny_getItem_list_neg (Q:=λr R=>r=w/\EP X Y L Q r R) C.isList 'a' (by rw[gn]<;>lia) 'a' (by rw[G];simpa using E) (rfl,fin)) N
def Ik:gR X (IM X.K):=by
 intro T G Y s B H x y v u Q I L F h N;let(p,M,i,z,rfl,rfl,W,R,q):=h;cases L;let(t,rfl):=F;let(A,r,O,Z):=I.tuple W;let(j,E,V,D,U,h5):=tR R;let(w,S,J):=r.get V;let P:=-r;let hn:=jG;let fin:EP X Y B Q w s:=(z,H,I,J,q);show subscriptTail_builtinR (x:=w) O.typeIs slot_tuple_getitem.lookup
  (getItem_tuple (j:=j) (Q:=λr C=>r=w/\EP X Y B Q r C) O 'a' 'a' (by rw[gn,<-P];show E) ('s' S) (rfl,fin)) N
def IP(Y:Zl)(n j:Nat)(u:Value):Obj.mapSeq (·.setIfInBounds j u) ('l' Y.toArray n)=('l' (Y.set j u).toArray n):=by simp[Obj.mapSeq]
theorem WM.WK{X:Cx}{Y:Zp}{J:St}{H:Hp}{s:Shared}{p:Addr}{G:List V}(I:WM X Y J H s)(h:H p\(.WK G)) :
 ∃(T:Zl)(n:Nat),WT G T/\s.1^p=some ('l' T.toArray n)/\-G<=sizeLine:=by
 let(z,T,n,r,e):=I.Dk p _ h;show{2,T,n,r,e,z}
def WM.IQ{T:Zl}(I:'i')(h:H p\(.WK xs))(B:s.1^p=some ('l' T.toArray n))(Y:f ('l' T.toArray n)=('l' its'.toArray Z))(r:WT U its')(G:-U<=sizeLine)(t:Nat) :
 WM X pins σ (XD H p (.WK U)) { s with heap:=s.1.update p f,toks:=t }:=by
 let e:(s.1.update p f)^p=some ('l' its'.toArray Z):=by rw[qy f B (by rw[Y]<;>rfl),Y]
 show I._G (x:=p) (e:=p) (by rw[h];trivial) (.inl rfl) (λb u J q=>yc _ _ (j4 J)>>q) (_,e) ?_;show(G,its',Z,r,e)
def IS:V->V->V->Hp->(Hp->Prop)->Prop:=λo i v H Q=>∃p Y k j,o=↥p/\i=⇑k/\H p\(.WK Y)/\fO (-Y) k\j/\Q (XD H p (.WK (Y.set j v)))
def set_list:mH X IS:=by
 intro Y s M H o i v D Z u Q I R K F h;let(p,S,k,j,rfl,rfl,O,V,q):=h;cases R;let(t,rfl):=K;let(N,n,r,G,A):=I.WK O;let(T,U,L,E):=tP V;let B:=-r;let hn:=jG;let C:WM X Y M (XD H p (.WK (S.set j v))) (s<&>s.1.update p (Obj.mapSeq (·.setIfInBounds j u))):=
  I.IQ O G (IP N n j u) (r.set F j) (by rw[uh];show A) s.toks
 by_cases P:0<=k
 .let J:k.toNat=j:=by
   rw[seqIndex_of P E]at T;show j6 T
  show PySem.W.ki_setAt G P 'a' (by rw[gn,<-B];show E) (by rw[J];show(_,C,q))
 .let J:(k+(N.toArray.size:Int)).toNat=j:=by
   rw[seqIndex_neg 'a' L]at T;rw[gn,<-B];show j6 T
  show PySem.W.ki_setBack G 'a' (by rw[gn,<-B];show L) 'a' (by rw[J];show(_,C,q))
def IT(Y T:Option Int)(n:Nat):(sliceBounds Y T () n).1=((HT.Jq n 0 Y:Nat):Int)/\(sliceBounds Y T () n).2.1=((HT.Jq n n T:Nat):Int)/\(sliceBounds Y T () n).2.2=1:=by
 show(?_,?_,rfl)
 .cases Y with
  |none=>simp[sliceBounds,HT.Jq]
  |some i =>
   erw[sliceBounds,HT.Jq,Option.getD_none,show(1:Int) > 0 by decide,my]
   by_cases h:i<0
   .erw[h,my]<;>lia
   .erw[h,jt]<;>lia
 .cases T with
  |none=>simp[sliceBounds,HT.Jq]
  |some i =>
   erw[sliceBounds,HT.Jq,Option.getD_none,show(1:Int) > 0 by decide,my]
   by_cases h:i<0
   .erw[h,my]<;>lia
   .erw[h,jt]<;>lia
def IU(Y:Zl)(T G:Option Int):slicePick Y.toArray T G ()=((Y.drop (HT.Jq (-Y) 0 T)).take (HT.Jq (-Y) (-Y) G-HT.Jq (-Y) 0 T)).toArray:=by let(O,J,B):=IT T G Y.toArray.size;unfold slicePick;rw[O,J,B];erw[sliceRange_one,pick_run,gn]<;>rfl
def tT(K:Fg):V->Option Int->Option Int->Hp->VK->Prop:=λx T G H Q=>∃a Y,x=↥a/\Kp K H a Y/\∀p,H p=()->Q ↥p (XD H p (.WK (bV Y T G)))
def IV:dJ X (tT X.K):=by intro O s W H x v V M G J F Q I P L E N h;let(a,T,rfl,R,q):=h;cases P;let(A,r,C,B):=I.list R;let Y:=-r;show{2,"list",_,slot_list_getitem.lookup,C.isList.typeIs,?_};show wpAny_getItem_list_slice C.isList L E N .none 'b' ?_ (by rw[gn]<;>show a_ (g_ Y) B);rw[IU,<-Y];show(.ref s⁻¹,_,I.laid (t':=s.toks) (o:=.WK (bV T G J)) (λb S q=>aq _ q) (bz _) ?_,rfl,q _ (I.Dk.fresh (bz _)));show(gh (Zt T G J) B,_,0,(r.drop (HT.Jq (-T) 0 G)).take (HT.Jq (-T) (-T) J-HT.Jq (-T) 0 G),cu _ rfl)
def IW:Ff X (.builtin "len") (λU H Q=>∃p Z,U=[↥p]/\(Kp X.K H p Z\/Oe X.K H p Z)/\Q ⇑(-Z) H):=by
 intro B s L H U E Q I r h;let(p,Z,rfl,T,q):=h;let(u,rfl,C):=vals1 r;cases C;let P:=jG;rcases T with T|T
 .let(N,G,J,O):=I.list T
  let Y:=-G;show Calls.call_len_list J.isList (by erw[gn]<;>lia) {2,⇑(-Z),H,I.tok _,{1,s.toks+1,by rw[gn,Y]},q}
 .let(N,G,J,O):=I.tuple T
  let Y:=-G;show len_tuple J (by erw[gn]<;>lia) {2,⇑(-Z),H,I.tok _,{1,s.toks+1,by rw[gn,Y]},q}
def IX:Ff X (.type "list") (λU H Q=>∃p Z,U=[↥p]/\(Kp X.K H p Z\/Oe X.K H p Z)/\∀l,H l=()->Q ↥l (XD H l (.WK Z))):=by
 intro N s F H U M Q I r h;let(p,Z,rfl,L,q):=h;let(u,rfl,W):=vals1 r;cases W;let fin:∀(G:Zl),WT Z G->-Z<=sizeLine->∀(T:Heap)(B:Nat),(∀b V,s.1^b\V->T^b\V) ->
  T^s⁻¹=some { cls:=.type "list",dict:=(),data:=.seq G.toArray B,slots:=#[] }->EP X N F Q (.ref s⁻¹) (s<&>T):=λG J O T B C e =>
  (.ref s⁻¹,_,I.laid (t':=s.toks) C (bz _) (show Dy X.prog X.w _ T _ (.WK Z)from(O,G,B,J,e)),rfl,q _ (I.Dk.fresh (bz _)))
 rcases L with L|L
 .let(G,J,S,O):=I.list L
  let Y:=-J;let(o,P,R,n,E):=S.isList;show call_list_seq p (.inl rfl) P R E (λT B C e=>fin G J O T B C e) (by erw[gn]<;>show a_ (g_ Y) O)
 .let(G,J,S,O):=I.tuple L
  let Y:=-J;let(o,P,R,n,E):=S;show call_list_seq p (.inr rfl) P R E (λT B C e=>fin G J O T B C e) (by erw[gn]<;>show a_ (g_ Y) O)
def IY:Ff X 'U' (λU H Q=>∃p Z,U=[↥p]/\((Kp X.K H p Z/\∀l,H l=()->Q ↥l (XD H l (.WL Z)))\/(Oe X.K H p Z/\Q ↥p H))):=by
 intro Y s L H U R Q I r h;let(p,Z,rfl,h):=h;let(u,rfl,P):=vals1 r;cases P;rcases h with⟨C,q⟩|⟨C,q⟩
 .let(N,B,O,J):=I.list C
  let T:=-B;show call_tuple_list O.isList (λG E=>?_) (by erw[gn]<;>show a_ (g_ T) J);let I1:WM X Y L H (s<&>G):=I.YM (t':=s.toks) E;let I2:WM X Y L (XD H G.objs.size (.WL Z)) (s<&>G.push { cls:='U',data:=.seq N.toArray }):=
   I1.laid (t':=s.toks) (λb o e=>aq _ e) (bz _) (show Dy X.prog X.w _ _ _ (.WL Z)from(J,N,B,cB.new _ _))
  show(↥G.objs.size,_,I2,rfl,q _ (I1.Dk.fresh (bz _)))
 .let(N,B,O,J):=I.tuple C
  show call_tuple_same O (↥p,H,I,rfl,q)
def gT(K:Fg)(T:String)(x:V)(H:Hp):Prop:=match x with
 |.str _=>T ="str"|⇑_=>T ="int"
 |↥p=>(T ="list"/\∃G,Kp K H p G)\/(T ="tuple"/\∃o,(K/p)\o/\o.cls='U'/\o.dict=()) \/
  (T ="dict"/\((∃Y,H p\(.dK Y))\/∃Y,H p\(.dT Y)))
 |_=>False
def IZ(I:'i')(r:WX x v)(J:gT X.K T x H) :
 s.TypeIs v T/\∀a,v=↥a->∃Z,s.1^a\Z/\Z.dict=():=by
 cases x with
 |str z =>
  let(t,rfl):=r;cases(show T ="str" from J);show(typeIs_str s z t,λ_ e=>nomatch e)
 |int i =>
  let(t,rfl):=r;cases(show T ="int" from J);show(typeIs_int s i t,λ_ e=>nomatch e)
 |ref p =>
  cases r;rcases J with⟨rfl,P,C⟩|⟨rfl,o,Y,N,B⟩|⟨rfl,Y⟩
  .let(R,_,O,_):=I.list C
   show(O.isList.typeIs,λa e=>?_);cases e;let(o,n,e,c,B,_):=O;show(o,e,B)
  .refine((o,I.aP p o Y,N),λa e=>?_)
   cases e;show(o,I.aP _ o Y,B)
  .let z:∃o,s.1^p\o/\o.ExactDict:=by
    rcases Y with⟨E,Y⟩|⟨E,Y⟩
    .let(_,_,_,_,o,_,_,e,G,_):=I.Dk p _ Y
     show(o,e,G)
    .let(_,_,_,_,o,_,_,e,G,_):=I.Dk p _ Y
     show(o,e,G)
   let(o,e,G):=z;show((o,e,G.1),λa L=>?_);cases L;show(o,e,G.2.1)
 |_=>show False.elim J
def I_(K:Fg)(T:String)(r:V->List V->Hp->VK->Prop)(O:TE)(t:TA):TE:=λY H Q=>O Y H λx G=>gT K T x G/\t Y G λJ B=>r x J B Q
theorem Ic{id:String}(V:PlainAttrs T)(G:Slot T name id)(J:typeOf (.builtin id)=pure (.type "method_descriptor"))(j:dM X id r)(W:PE X o to)(u:PA X (e::Z) t)(N:autoParam (attributeBase o name X.env (eval o X.env)=eval o X.env) aJ._auto_1)(C:autoParam (((backTo U (starEach (e::Z) X.env)).all (λx=>!x.1)&&(backToKw U (keywordEach [] X.env)).all (λx=>x.1.isSome)
&&decide (-(e::Z)+-([]:List Keyword)+(if([]:List Keyword).isEmpty then 0 else 1)<30))=true) aJ._auto_1)(L:autoParam ((apos.endLine==U.line)=true) aJ._auto_1)(R:autoParam (starEach (e::Z) X.env=(false,eval e X.env)::starEach Z X.env) aJ._auto_1)(B:autoParam ((backTo U (starEach Z X.env)).any (·.1)=false) aJ._auto_1) :
 PE X (.Call (.Attribute o name apos) (e::Z) [] U) (I_ X.K T r to t):=by
 intro Y s O H Q I h;show wpAny_Call_method_late N C L rfl (Uw (W Y s O H _ I h) λv g x A I1 P z_=>?_);let(M,D):=z_;let(F,z):=IZ I1 P M;show{2,T,id,V,G,J,F,z,?_};let E:=u U Y g O A _ I1 D;rw[R]at E⊢;show Calls.callWith_builtin (by change(false||(backTo U (starEach Z X.env)).any (·.1))=false;rw[B]<;>rfl) (Calls.evalArgs_plain ?_);show eL E λy q S c I2 l d=>j Y q O c x S v y Q I2 P l d
def tU(X:Cx)(id:String)(r:V->List V->Hp->VK->Prop):Prop:=
 ∀(Y:Zp)(s:Shared)(G:St)(H:Hp)(x:V)(T:List V)(v:Value)(J:Zl)(Q:VK),WM X Y G H s->WX x v->WT T J->r x T H Q ->
  'q' (call (.builtin id) (v::J)) (EP X Y G Q) X.xe s
def WT.one{x:V}{Y:Zl}(h:WT [x] Y):∃u,Y=[u]/\WX x u:=by cases h with|cons r t=>cases t;show(_,rfl,r)
def WM.tV{Y:Zl}(I:'i')(B:H l\(.WK U))(e:s.1^l=some ('l' Y.toArray n))(C:f Y.toArray=its'.toArray)(T:WT Z its')(G:-Z<=sizeLine) :
 WM X pins σ (XD H l (.WK Z)) { s with heap:=s.1.update l (Obj.mapSeq f),toks:=t' }:=by
 let q:=PySem.IsL.update e f;rw[C]at q;show I._G (x:=l) (e:=l) (by rw[B];show trivial) (.inl rfl) (λN u O J=>yc s.1 (Obj.mapSeq f) (j4 O)>>J) (_,q) ?_;show(G,its',_,T,q)
def WM.Iq(I:'i')(Y:WT U Z)(T:-U<=sizeLine) :
 WM X pins σ (XD H s⁻¹ (.WK U)) { s with heap:=s.1.push ('l' Z.toArray),toks:=t' }:=
 I.laid (λ_ _ q=>aq _ q) (bz _) (T,Z,0,Y,cu _ rfl)
theorem WM.fresh(I:'i'):H s⁻¹=():=I.Dk.fresh (bz _)
def WM.fP(I:'i')(T:H l\(.WK Z)):-Z<=sizeLine/\∃(Y:Zl)(n:Nat),WT Z Y/\-Z=-Y/\s.1^l=some ('l' Y.toArray n):=by let(z,Y,n,r,e):=I.Dk l _ T;show(z,Y,n,r,-r,e)
def Iy(h:n<=sizeLine):Builtin.List.listTooLong n=false:=by unfold Builtin.List.listTooLong;show t8 (j_ h)
def JA:V->List V->Hp->VK->Prop:=λx T H Q=>∃l Y y,x=↥l/\T=[y]/\H l\(.WK Y)/\-Y<sizeLine/\Q .XQ (XD H l (.WK (Y++[y])))
def tW:tU X "list.append" JA:=by intro T s L H x P v E Q I C B h;let(l,R,y,rfl,rfl,G,Y,q):=h;cases C;let(u,rfl,O):=B.one;let(z,J,n,r,N,e):=I.fP G;show call_meets F.slot_list_append (_,e,rfl) F.entry_list_append (F.args_list_append_2 _ _) (PySem.list_append l J.toArray n u (by rw[gn];show e_ (c_ (g_ N) Y))) (e,?_);show{2,.XQ,_,I.tV (its':=J++[u]) G e 'b' (r.append (.cons O .nil)) ?_,rfl,q};rw[m5,List.length_singleton];show Y
def JB:V->List V->Hp->VK->Prop:=λx G H Q=>∃l b T Y,x=↥l/\G=[↥b]/\H l\(.WK T)/\H b\(.WK Y)/\-T+-Y<=sizeLine/\Q .XQ (XD H l (.WK (T++Y)))
def JC:tU X "list.extend" JB:=by
 intro O s D H x M v U Q I E R h;let(l,b,A,Z,rfl,rfl,B,N,V,q):=h;cases E;let(u,rfl,W):=R.one;cases W;let(z,G,n,r,S,e):=I.fP B;let(z2,Y,C,K,P,L):=I.fP N;let T:G.toArray.size+Y.toArray.size<=sizeLine:=by rw[gn,gn];lia
 let J:¬(!G.toArray.isEmpty&&Builtin.List.listTooLong (G.toArray.size+Y.toArray.size))=true:=by rw[Iy T,Bool.and_false];show Av
 show call_meets F.slot_list_extend (_,e,rfl) F.entry_list_extend (F.args_list_extend_2 _ _)
  (AutoSeq1.list_extend_list_list_0 l G.toArray n b Y.toArray C J (by rw[gn];show a_ (g_ S) z) (a_ T x_)) (e,L,?_)
 show{2,.XQ,_,I.tV (its':=G++Y) B e 'b' (r.append K) ?_,rfl,q};rw[m5];show V
def tX:R2:=λx y H Q=>∃l b T Y,x=↥l/\y=↥b/\H l\(.WK T)/\H b\(.WK Y)/\-T+-Y<=sizeLine/\∀p,H p=()->Q ↥p (XD H p (.WK (T++Y)))
def JD:Gx X (binaryOp .Add) tX:=by
 intro T s V H x y v u Q I R B h;let(l,b,K,F,rfl,rfl,E,O,C,q):=h;cases R;cases B;let(z,G,n,r,M,e):=I.fP E;let(A,Y,W,S,L,N):=I.fP O;show PySem.P.add_list e N ?_ (by rw[gn,gn];lia);let J:G.toArray++Y.toArray=(G++Y).toArray:='b'
 rw[J];show(↥_,_,I.Iq (t':=s.toks) (r.append S) (by rw[m5];show C),rfl,q _ I.fresh)
end L2
namespace tY
open PySem PySem.W PySem.Calls PyProof.Rows
def JE:∀(ns:X9)(Y:Zl),WellAll P h Y (ns%WData.int)->IntsAre Y ns:=by
 intro ns
 induction ns with
 |nil =>
  intro Y w;rw[Ep]at w;cases w;show .nil
 |cons n ns T =>
  intro Y w;rw[gm]at w;cases w with
  |cons a b =>
   cases a;show .cons _ _ (T _ b)
def JF{l:OpenLaw}(V:l.most\n)(Y:l.row.toRowW.claim.pre args=true)(O:WellAll P h vals args) :
 ∃a U Z,vals=[Value.ref a]/\args=[WData.list (Z%WData.int)]/\h^a=some ('l' U.toArray)/\IntsAre U Z/\-Z<=n:=by
 let B:WShape.hasAll [] args [.list .int]=true:=(pre_splitW Y).1;let C:l.pre.holds [] { args:=args }=true:=(pre_splitW Y).2;let(d,r,rfl,R,H):=hasAllW_cons B;obtain rfl:=hasAllW_nil H;let(F,rfl,S):=hasW_list R;let(Z,rfl):=items_int S;let T:-Z<=n:=by
  unfold OpenLaw.pre at C;let G:(WTm.not (.lt (.lit ⇑(n:Int)) (.len (.arg 0)))).holds [] { args:=[.list (Z% .int)] }=true:=by let G:=(holds_andW C).1;rw[V]at G;show G
  let J:=condW_of G (w_not (w_lt w_lit (w_len_list (w_arg rfl))));rw[dh]at J;show Nat.le_of_not_lt λq=>?_
  let E:(n:Int)<((-Z:Nat):Int):=m_ q
  first
   |(rw[uw E]at J;show absurd J ⋯)
   |(simp at J;omega)
 cases O with
 |cons W Q =>
  cases Q;cases W with
  |list L N=>show{3,_,_,Z,rfl,rfl,L,JE Z _ N,T}
def JG(l:OpenLaw)(Y:List WData):l.row.toRowW.claim.post Y (.bool true) Y=true:=
 postW_of (r:=l.row.toRowW) (X:=(true==true))
  (show WShape.has [] (.bool true) .bool=true by first|rfl|decide|simp[WShape.has,WShape.arms,WShape.armsAll])
  (show(WTm.eq .res (.lit (.bool true))).value [] { args:=Y,res:=↑(.bool true),after:=Y }\(.bool (true==true))from w_eq_bool (w_res rfl) w_lit) rfl
def JH{l:OpenLaw}(hn:l.most\n)(C:d.params.defaults=[])(call:∀(w:World) (U Z:Shared) (mg mb:Zs) (fa:Addr) (o:Obj) (pm cd qq:Value) (a:Addr) (vs:Zl) (ns:X9),
 Ground q loose [] XP w U mg mb Z.1->YP w Z.1 ->
 Z.1^fa\o->o.data=.func (docDef d.name d.params d.body d.scope pm cd qq)->Z.1.CodeRec cd d.name->mg d.name\↥fa ->
 Z.1^a=some ('l' vs.toArray)->IntsAre vs ns->-ns<=n->Z.gens=#[] ->
 codeAny (model l.prog w) callerA (.call ↥fa ([↥a],[])) (λr s'=>r=.ok (.ret (.bool true))/\OldK Z.1 s'.1/\s'.os=Z.os/\AllBare s'.gens) Z) :
 WalkO q loose XP YP l.row.toRowW d [] (λf vs=>PySem.call f vs):=by
 intro w U Z mg mb G Y fa o pm cd qq H kV W Q L P N V S R as B K M E F;obtain rfl:H=.none:=Dflts.none P C;obtain rfl:kV=.none:=Dflts.noKw P;let(a,vs,ns,rfl,rfl,O,T,J):=JF hn B E;show enter_call (zg (call w U Z mg mb fa o pm cd qq a vs ns G Y W (fd_plain Q) L N O T J V) λr s' D=>?_);let(rfl,I,A,X):=D;show(.inl {3,.bool true,.bool true,[],rfl,λ_=>rfl,.bool true,JG l _,λ_=>(List.Pairwise.nil,λ_ hm=>(nomatch hm))},I,A,X)
end tY
namespace L2
open PySem PySem.Spec PyProof.Rows
theorem tZ:∀{T:Zl}{Y:X9},IntsAre T Y->WT (Y%V.int) T
 |_,_,.nil=>.nil|_,_,.cons n t h=>.cons (t,rfl) (tZ h)
def Only(H:Hp):Prop:=∀b,H b=()\/∃o Y,H b\(.Wg o (.WK Y))
def JI{K:Fg}(KX:K.In s₁.1)(N:s₁.1.Ns mainGlobals mg)(Y:s₁.1.Ns builtinsNs mb)(S:∀x:Str,x≠"__name__"-> mb x=bootBuiltins x)(I:s₁.1.NoLimit)(hg:s₁.gens=#[])(E:s₁.1^a=some ('l' vs.toArray))(hi:IntsAre vs ns)(hl:-ns<=sizeLine)(hr:Dd k callerA)(F:∀Z:Heap,K.In Z->Z.Ns mainGlobals mg->J8 P w K mg Z CX k fa fd [x] sp)(A:∀(s:Shared) (u:Value),BindsTo s fd ([u],[]) [(x,u)])(D:∀H:Hp,Only H->Kp K H a (ns%V.int)->sp [↥a] H (λv _=>v=.bl true) λ_ _ _=>False)(M:∀H e U,CX [] H s₁ (λ_ _ _=>False) e U->False) :
 codeAny (model P w) callerA (.call ↥fa ([↥a],[])) (λr U=>r=.ok (.ret (.bool true))/\OldK s₁.1 U.1/\U.os=s₁.os/\AllBare U.gens) s₁:=by
 let rv:=tZ hi;let B:=-hi;let G:∀H:Hp,Only H->Kp K H a (ns%V.int)->Vj P w H s₁.1->(∀b,H b≠()->b=a)->(H a≠()->K/a=()) ->
  codeAny (model P w) callerA (.call ↥fa ([↥a],[])) (λr U=>r=.ok (.ret (.bool true))/\OldK s₁.1 U.1/\U.os=s₁.os/\AllBare U.gens) s₁:=by
  intro H hO hS Dk hA hK;let Jl:∀{b:Addr}{o:Obj},s₁.1^b\o->H b=()->cb s₁.1 H^b\o:=λe n=>DP e n
  let R:∀{b:Addr}{o:Obj}{O:Array DictEntry}{ep:Nat},s₁.1^b\o->o.data=.dict O ep->H b=():=fun{b o O ep} e d=>by
   cases q:H b with
   |none=>rfl
   |some u =>
    let Q:b=a:=hA b (by rw[q];simp);subst Q;rw[E]at e;cases e;let d':Data.seq vs.toArray _=Data.dict O ep:=d;cases d'
  let T:∀{b:Addr}{m:Zs},s₁.1.Ns b m->(cb s₁.1 H).Ns b m:=fun{b m} (o,O,ep,e,d,r)=>{3,o,O,ep,Jl e (R e d),d,r}
  let C:K.In (cb s₁.1 H):=λb o e=>Jl (KX b o e) (by
   cases q:H b with
   |none=>rfl
   |some u =>
    let Q:b=a:=hA b (by rw[q];simp);subst Q;rw[hK (by rw[q];simp)]at e;cases e)
  let hM:Mod K mg (cb s₁.1 H):=(C,T N,(mb,T Y,S),let (mc,h1,h2):=I;(mc,T h1,h2));let e0:eN P w K mg (cb s₁.1 H) callerA [] s₁ H:=(rfl,hM,λb o e=>DQ e,Nat.le_of_eq (DO _ _),trivial,λb Y=>absurd (show b∈([]:X0)from Y) 'b',Dk,.of_eq hg);show zg ((F _ C (T N)).XM callerA [] s₁ H ([↥a],[]) [↥a] [↥a] _ _ hr e0 (A s₁ ↥a) (.cons rfl .nil) (D H hO hS)) λr U h=>?_
  cases r with
  |error e=>show(M H e U h).elim
  |ok fl =>
   cases fl with
   |next=>show False.elim h|brk=>show False.elim h|cont=>show False.elim h
   |ret u =>
    let(v,H',os,J,un,W,r',q):=h;let q':v=.bl true:=q;subst q';obtain rfl:u=Value.bool true:=r';show(rfl,OldK.of_keep λb o e=>?_,os,J);cases q:H b with
    |none=>show un.keep b o e q (by intro z;show absurd (show b∈([]:X0)from z) 'b') 'b'
    |some u =>
     rcases hO b with z|⟨ob,xs,z⟩
     .rw[q]at z;cases z
     .let z2:=un.eI b ob _ z
      let(X,_):=Dk b _ z;let(e2,_):=W b _ z2;rw[e]at X;cases X;show e2
 cases hk:K/a with
 |some o =>
  let e:=KX a o hk;rw[E]at e;cases e;show G (λ_=>()) (λ_=>.inl rfl) (.inr {3,_,vs.toArray,_,hk,rfl,rfl,rfl,by rw[gn,B];show hl,by simpa using rv}) (λb u z=>by let L:(():Option HO)\u:=z;cases L) (λb z=>absurd rfl z) λz=>absurd rfl z
 |none =>
  show G (λb=>if b=a then ↑(.Wg ('l' vs.toArray) (.WK (ns%V.int)))else ()) (λb=>?_) (.inl (.inr {1,('l' vs.toArray),dm rfl})) (λb u z=>?_) (λb z=>?_) λ_=>hk
  .by_cases Y:b=a
   .exact .inr {2,_,_,dm Y}
   .exact .inl (cz Y)
  .by_cases Y:b=a
   .let L:=(dm Y).symm>>z
    cases L;subst Y;show(E,by rw[dh];show hl,vs,_,rv,E)
   .let L:=(cz Y).symm>>z
    cases L
  .by_cases Y:b=a
   .exact Y
   .exact absurd (cz Y) z
def JJ{l:PySem.W.OpenLaw}{K:Params->Fg}{CX:World->bH}{sp:World->Sp}(c:l.most\n)(N:n<=sizeLine)(E:d.params.defaults=[])(X:Dd k callerA)(D:∀(w:World) (h:Heap),YP w h->(K w.params).In h)(F:∀(w:World) (mg:Zs) (U:Addr) (h:Heap),(K w.params).In h->h.Ns mainGlobals mg->mg d.name\↥U ->
 ∃fd:FuncData,(∀(s:Shared) (u:Value),BindsTo s fd ([u],[]) [(x,u)]) /\
  ∀Z:Heap,(K w.params).In Z->Z.Ns mainGlobals mg->J8 l.prog w (K w.params) mg Z (CX w) k U fd [x] (sp w))(R:∀(w:World) (H:Hp) (a:Addr) (ns:X9),-ns<=n->Only H->Kp (K w.params) H a (ns%V.int)->sp w [↥a] H (λv _=>v=.bl true) λ_ _ _=>False)(L:∀(w:World) (H:Hp) (s:Shared) (e:Value) (s':Shared),CX w [] H s (λ_ _ _=>False) e s'->False) :
 PySem.W.WalkO q loose XP YP l.row.toRowW d [] (λf vs=>PySem.call f vs):=by
 show tY.JH c E λw Q O mg m U o pm i I a vs ns G Y t p y P C B J M=>?_
 let S:=D w _ Y;let(fd,r,j):=F w mg U _ S G.T.g P;show JI S G.T.g G.T.b G.T.builtins G.T.nolimit M C B (gh J N) X j r (λH z A=>R w H a ns J z A) λH e s'=>L w H O e s'
def inClass(s:Stmt)(j:Nat):Stmt:=match s with
 |.ClassDef _ _ _ body _ _ _ _ _ _ _=>body.getD j (.Pass (0,0,0,0))|_=>.Pass (0,0,0,0)
def Kq(s:Stmt):Arguments:=match s with
 |.FunctionDef _ a _ _ _ _ _ _ _ _=>a|_=>{ posonlyargs:=[],args:=[],vararg:=(),kwonlyargs:=[],kw_defaults:=[],kwarg:=(),defaults:=[] }
def Hs(s:Stmt):List Stmt:=match s with
 |.FunctionDef _ _ b _ _ _ _ _ _ _=>b|_=>[]
def Dr(s:Stmt):Scope:=match s with
 |.FunctionDef _ _ _ _ _ _ sc _ _ _=>sc|_=>{ kind:=.function,names:=[],isGenerator:=false,isCoroutine:=false }
abbrev ai:bH:=λ_ _ _ _ _ _=>False
abbrev E0:XK:=λ_ _ _=>False
def mV:_E ai X E0:=λ_ _ _ _ _ _ _ h=>h.elim
structure cM(K:Fg)(x qual:Str)(st:Stmt)(f:Addr)(fd:FuncData):Prop where
 ex:∃(oc:Value)(od:Option Addr)(kV doc pm:Value)(an:Option Addr)(cdv ct:Value)(osl:Array (Option Value)),
  fd=PySem.W.fnOf x qual (Kq st) (Hs st) (Dr st) .none kV doc pm an cdv ct/\(K/f)\(oc,od,.func fd,osl)/\PySem.W.codeIn K cdv qual=true
 kp:PySem.W.keepIn K ↥f=true
def cM.ok{K:Fg}{st:Stmt}(F:cM K x qual st f fd)(S:jH N ps (Dr st))(len:∀vs H Q E,sp vs H Q E->-vs=-ps)(T:∀(U:Value) (A:Around) (Z:List Env) (s:Shared) (H:Hp) (vs:List V) (Q:VK) (E:XK),Dd k (A.deeper (envOfC qual (Dr st) s⁻¹ f U))->sp vs H Q E ->
 ∃t,Uv (eO ai P w K mg base N qual (Dr st) f U A Z s H E).gL (Hs st) t/\t { nx:=λ_ H'=>Q .XQ H',rt:=Q } (ZM N vs) H):J8 P w K mg base ai (k+1) f fd ps sp:=by
 let(L,R,kV,C,M,W,U,I,O,rfl,J,G):=F.ex;show HI J G S len λA Z s H vs Q E B Y=>?_
 let(t,h,q):=T U A Z s H vs Q E B Y;show{1,t,h.gL,q}
def cM._U{K:Fg}{st:Stmt}(F:cM K x qual st f fd)(h:∀(kV U pm:Value) (an:Option Addr) (Z ct:Value) (us:Zl),-us=-ps->bindArgs (PySem.W.fnOf x qual (Kq st) (Hs st) (Dr st) .none kV U pm an Z ct) (us,[])=pure (ps.zip us)):YT K fd ps []:=by let(J,B,kV,U,pm,an,Z,ct,Y,rfl,G,T):=F.ex;show .all (h kV U pm an Z ct)
def tf{K:Fg}{st:Stmt}{f:Addr}{C:Value}{N B:Option Addr}{G:Array (Option Value)}{kV T J Y O:Value}(l:(K/f)\(C,N,.func (PySem.W.fnOf x qual (Kq st) (Hs st) (Dr st) .none kV T J B Y O),G))(c:PySem.W.codeIn K Y qual=true)(k:PySem.W.keepIn K ↥f=true):cM K x qual st f (PySem.W.fnOf x qual (Kq st) (Hs st) (Dr st) .none kV T J B Y O):=((C,N,kV,T,J,B,Y,O,G,rfl,l,c),k)
def Zu{A:Around}{k:Nat}(Y:Dd k A):A.units+1<cLine:=El (Ec (by decide:1<=64) _) Y.units
def Hf(cells:Xs):List (Str×NameKind)->List (Str×Addr)->List (Str×Addr)
 |[],cs=>cs|(n,k)::r,cs=>Hf cells r (if k==.free then(n,(cells/n).getD 0)::cs else cs)
theorem Zv{T Y:Type}{f:T->Y->Sem (ForInStep Y)}{g:T->Y->Y}:∀{l:List T}(c:Y),(∀x∈l,∀c,f x c=pure (.yield (g x c)))->forIn l c f=pure (l.foldl (λc x=>g x c) c)
 |[],c,_=>rfl
 |x::l,c,h=>by
  rw[List.forIn_cons,h x dw,pure_bind];show Zv (g x c) λy G=>h y (bw _ G)
theorem Zw(cells:Xs):∀(l:Yf)(Y:Xs),Hf cells l Y=l.foldl (λc x=>if x.2==.free then(x.1,(cells/x.1).getD 0)::c else c) Y
 |[],_=>rfl|(n,k)::r,Y=>Zw cells r _
def JL(h:∀y∈scope.names,y.2=.free->∃c,(env.cells/y.1)\c):closureFor scope env=pure (Hf env.cells scope.names []):=by
 erw[closureFor];rw[Zv (g:=λx c=>if x.2==.free then(x.1,(env.cells/x.1).getD 0)::c else c) [] (λx J c=>by
  let(n,k):=x
  by_cases T:k=.free
  .subst T
   let(c',Y):=h (n,.free) J rfl;let Y:(env.cells/n)\c':=Y;simp[cellOf,Y]
  .let G:(k==NameKind.free)=false:='s' T
   simp[G]),Zw]
 rfl
theorem tj(cells:Xs):∀(l:Yf)(Y:Xs)(x:Str)(c:Addr),(∀y∈l,y.2=.free->∃c,(cells/y.1)\c)->(Hf cells l Y/x)\c ->
 (Y/x)\c\/(cells/x)\c
 |[],Y,x,c,_,h=>.inl h
 |(n,k)::r,Y,x,c,hy,h=>by
  rcases tj cells r _ x c (λz J=>hy z (bw _ J)) h with q|q
  .by_cases G:k=.free
   .subst G
    erw[Ci,my,ud]at q;cases e:x==n with
    |true =>
     rw[e]at q;let(c',T):=hy (n,.free) dw rfl;let T:(cells/n)\c':=T;erw[T,Ar,Bj]at q;subst q;rw[eq_of_beq e];show .inr T
    |false=>rw[e]at q;show .inl q
   .let B:(k==NameKind.free)=false:='s' G
    erw[B,dq,jt]at q;show .inl q
  .exact .inr q
theorem tm(cells:Xs):∀(l:Yf)(Y:Xs)(x:Str),(∃c,(Y/x)\c)->∃c,(Hf cells l Y/x)\c
 |[],Y,x,h=>h
 |(n,k)::r,Y,x,h=>by
  show tm cells r _ x ?_
  by_cases T:(k==NameKind.free)=true
  .rw[dm T,ud]
   cases e:x==n with
   |true=>show{1,_,rfl}|false=>show h
  .rw[cz T];show h
theorem Y0(cells:Xs):∀(l:Yf)(Y:Xs)(x:Str),(x,NameKind.free)∈l->∃c,(Hf cells l Y/x)\c
 |(n,k)::r,Y,x,h=>by
  rcases dj<*h with q|q
  .let(rfl,rfl):=Prod.mk.inj q
   show tm cells r _ x {1,(cells/x).getD 0,?_};rw[dm 'b',ud,Ci]
  .exact Y0 cells r _ x q
theorem T5{Y:Env}:∀{T:Yf}{x:Str},
 (T%λ(y:Str×NameKind)=>if(y.2==NameKind.free&&Y.scope.kind==.function&&Y.kindOf y.1==↑.cell)then(y.1,NameKind.cell)else(y.1,y.2))/x
  = (T/x)%λk=>if(k==NameKind.free&&Y.scope.kind==.function&&Y.kindOf x==↑.cell)then NameKind.cell else k
 |[],_=>rfl
 |(n,k)::r,x=>by
  let J:=@T5 Y r x;rw[gm];cases hx:x==n with
  |true =>
   let e:=eq_of_beq hx;subst e;clear hx
   by_cases G:(k==NameKind.free&&Y.scope.kind==.function&&Y.kindOf x==↑.cell)=true
   .erw[G,my,ud,Ci,xq]
   .let B:(k==NameKind.free&&Y.scope.kind==.function&&Y.kindOf x==↑.cell)=false:='s' G
    erw[B,dq,jt,ud,Ci,xq]
  |false =>
   by_cases G:(k==NameKind.free&&Y.scope.kind==.function&&Y.kindOf n==↑.cell)=true
   .erw[G,my,ud,hx];show J
   .erw[G,ud,hx];simpa[ud,hx]using J
theorem mem_of_lookup{Y T:Type}[BEq Y][LawfulBEq Y]:∀{l:List (Y×T)}{x:Y}{y:T},(l/x)\y->(x,y)∈l
 |(a,b)::r,x,y,h=>by
  rw[ud]at h;cases e:x==a with
  |true=>rw[e]at h;cases h;rw[eq_of_beq e];show dw|false=>rw[e]at h;show bw _ (mem_of_lookup h)
def Hg{Y:Type}{v:Y}{r:List (Str×Y)}:((k,v)::r)/x=if x=k then ↑v else r/x:=by
 rw[ud]
 by_cases h:x=k
 .rw[dm h,show(x==k)=true from Ef.mpr h]
 .rw[cz h,show(x==k)=false from xg.mpr h]
set_option tactic.hygienic true in
theorem jI:∀(l:Yf)(n:Nat)(T:Xs)(x:Str)(c:Addr),(cellsFrom n l T/x)\c->((x,NameKind.cell)∈l/\n<=c)\/(T/x)\c
 |[],_,_,_,_,h=>.inr h
 |(k,kd)::r,n,T,x,c,h=>by
  unfold cellsFrom at h;split at h
  .rename_i e
   rcases jI r _ _ x c h with⟨q,l⟩|q
   .exact .inl (bw _ q,by omega)
   .rw[Hg]at q
    split at q
    .rename_i z
     cases q;show .inl (by rw[z,eq_of_beq e];show dw,bz _)
    .exact .inr q
  .rcases jI r _ _ x c h with⟨q,l⟩|q
   .exact .inl (bw _ q,l)
   .exact .inr q
set_option tactic.hygienic true in
theorem jJ:∀(l:Yf)(n:Nat)(T:Xs)(x:Str),((x,NameKind.cell)∈l\/∃c,(T/x)\c)->∃c,(cellsFrom n l T/x)\c
 |[],_,_,_,h=>by rcases h with q|q;cases q;show q
 |(k,kd)::r,n,T,x,h=>by
  unfold cellsFrom;split
  .refine jJ r _ _ x ?_
   by_cases z:x=k
   .exact .inr (n,by rw[Hg,dm z])
   .rcases h with q|q
    .rcases dj.mp q with q|q
     .cases q;show absurd rfl z
     .exact .inl q
    .exact .inr (by rw[Hg,cz z];show q)
  .rename_i e
   show jJ r _ _ x ?_;rcases h with q|q
   .rcases dj.mp q with q|q
    .cases q;show absurd rfl e
    .exact .inl q
   .exact .inr q
set_option tactic.hygienic true in
theorem mW:∀(l:Yf)(n:Nat)(T:Xs)(x:Str),(x,NameKind.cell)∉l->cellsFrom n l T/x=T/x
 |[],_,_,_,_=>rfl
 |(k,kd)::r,n,T,x,h=>by
  let B:(x,NameKind.cell)∉r:=λq=>h (bw _ q)
  unfold cellsFrom;split
  .rename_i e
   rw[mW r _ _ x B,Hg,cz];intro z;show h (by rw[z,eq_of_beq e];show dw)
  .exact mW r _ _ x B
set_option tactic.hygienic true in
theorem mX:∀(l:Yf)(n:Nat)(T:Xs),(∀x c,(T/x)\c->c<n)->(∀x y c,(T/x)\c->(T/y)\c->x=y)->∀x y c,(cellsFrom n l T/x)\c->(cellsFrom n l T/y)\c->x=y
 |[],_,_,_,h=>h
 |(k,kd)::r,n,T,lt,h=>by
  unfold cellsFrom;split
  .refine mX r _ _ (λx c q=>?_) (λx y c B O=>?_)
   .rw[Hg]at q
    split at q
    .cases q;show mz n
    .exact lz (lt x c q)
   .rw[Hg]at B O
    split at B<;>split at O
    .rename_i a b;rw[a,b]
    .cases B;show absurd (lt y _ O) (ph _)
    .cases O;show absurd (lt x _ B) (ph _)
    .exact h x y c B O
  .exact mX r _ _ lt h
set_option tactic.hygienic true in
theorem mY:∀(l:Yf)(h:Heap)(T:Xs),(∀x c,(T/x)\c->∃v,h.IsCell c v)->∀x c,(cellsFrom h.objs.size l T/x)\c->∃v,(pushCells h l).IsCell c v
 |[],_,_,k,x,c,q=>k x c q
 |(n,kd)::r,h,T,k,x,c,q=>by
  unfold cellsFrom at q;unfold pushCells;split at q
  .rename_i e
   rw[dm e];let sz:(h.push { cls:=.type "cell",data:=.cell () }).objs.size=h.objs.size+1:=jh _ _;rw[<-sz]at q;show mY r _ _ (λx c q=>?_) x c q;rw[Hg]at q;split at q
   .cases q;show((),_,cu _ rfl,rfl)
   .let(v,B):=k x c q
    show(v,B.keeps λb o e=>aq _ e)
  .rename_i e
   rw[cz e];show mY r _ _ k x c q
set_option tactic.hygienic true in
theorem tq(cells:Xs):∀(l:Yf)(T:Xs)(x:Str)(c:Addr),(Hf cells l T/x)\c->(x,NameKind.free)∈l\/(T/x)\c
 |[],_,_,_,h=>.inr h
 |(k,kd)::r,T,x,c,h=>by
  unfold Hf at h;rcases tq cells r _ x c h with q|q
  .exact .inl (bw _ q)
  .split at q
   .rename_i e
    rw[Hg]at q;split at q
    .rename_i z
     show .inl (by rw[z,eq_of_beq e];show dw)
    .exact .inr q
   .exact .inr q
def JM(h:Q { scope:=scope,locals:=s⁻¹,globals:=globals,cells:=cellsFrom (s⁻¹+1) scope.names cl,qual:=qual,func:=(),code:=around.code,frame:=around.frame,builtins:=around.builtins } (s<&>pushCells (s.1.push { cls:=.type "dict",data:=.dict #[] }) scope.names)) :
 wpAny M A (newFunctionEnv scope globals cl [] qual () .none ↑around) Q E s:=by
 erw[newFunctionEnv,Option.isSome_some,my];show aa (wpAny_alloc ?_);show aa (wpAny_layCells _ (λT Y cells=>by cases hkc:Y==NameKind.cell<;>simp[hkc]) _ _ _ _ ?_);rw[show((s<&>s.1.push { cls:=.type "dict",data:=.dict #[] }):Shared).1.objs.size=s⁻¹+1 from jh ..];show aa (aj (aj h))
def Rq(X:Cx)(N:Ya)(Y:Scope)(C:Addr)(T:X0)(s:Shared)(H:Hp):Cx where
 prog:=X.prog
 w:=X.w
 K:=X.K
 mg:=X.mg
 base:=X.base
 A:=X.A
 N:=N
 s₀:=s
 H₀:=H
 env:=compEnvC Y (cellsFrom (C+1) Y.names (Hf X.env.cells Y.names [])) C X.env
 YK:=X.YH
 YH:=X.YH
 ex:=T
 fn:=λx=>Y.names/x==↑.cell
 YB:=X.YB
 pn:=[]
 xe:=λ_ _=>False
structure Ie(X:Cx)(N:Ya)(scope:Scope):Prop where
 kind:scope.kind=.function
 locs:∀y∈scope.names,y.2=.local->(scope.names/y.1)\.local
 frees:∀y∈scope.names,y.2=.free->X.env.kindOf y.1\.cell\/X.env.kindOf y.1\.free
 uniq:∀x k,(x,k)∈scope.names->(scope.names/x)\k
 long:-X.N<=-N
 JN:∀i x,i< -X.N->N[i]?\x->dI (relabel scope X.env) x->X.N[i]?\x/\(scope.names/x)\.free
theorem Ie.cells(B:Ie X N scope)(ok:X.Ok):∀y∈scope.names,y.2=.free->∃c,(X.env.cells/y.1)\c:=λy Y T=>ok.has y.1 (B.frees y Y T)
def Ie.clos(B:Ie X N scope)(ok:X.Ok):closureFor scope X.env=pure (Hf X.env.cells scope.names []):=JL (B.cells ok)
def Ie._i(B:Ie X N scope)(ok:X.Ok)(h:(Hf X.env.cells scope.names []/x)\c):(X.env.cells/x)\c:=by
 rcases tj _ _ _ _ _ (B.cells ok) h with q|q
 .simp at q
 .exact q
def tx{X:Cx}(x:Str):(compEnvC scope cl C X.env).kindOf x=(scope.names/x)%λk=>if(k==NameKind.free&&X.env.scope.kind==.function&&X.env.kindOf x==↑.cell)then NameKind.cell else k:=by change(relabel scope X.env).names/x=_;show T5
def Ie.mZ(B:Ie X N scope)(ok:X.Ok)(h:(cellsFrom (C+1) scope.names (Hf X.env.cells scope.names [])/x)\c):((scope.names/x)\.cell/\C+1<=c)\/(X.env.cells/x)\c:=by
 rcases jI _ _ _ _ _ h with⟨q,l⟩|q
 .exact .inl (B.uniq _ _ q,l)
 .exact .inr (B._i ok q)
def JO(B:Ie X N scope)(I:'i')(V:∀b∈U,Yv X pins H b)(F:∀b∈U,∃o,s.1^b\o)(S:Z.Ns (s⁻¹+1) λ_=>())(R:∀b o,s.1^b\o->Z^b\o)(Ii:Z^s⁻¹=some ('l' ([]:Zl).toArray))(Q:∀x c,(cellsFrom (s⁻¹+1+1) scope.names (Hf X.env.cells scope.names [])/x)\c->∃v,Z.IsCell c v) :
 WM (Rq X N scope (s⁻¹+1) U s H) [] (σ++'R' (-N- -X.N) ()) (XD H s⁻¹ (.WK [])) { s with heap:=Z,toks:=t }:=by
 let ok:=I.ok;let D:H s⁻¹=():=I.Dk.fresh (bz _);let hC:H (s⁻¹+1)=():=I.Dk.fresh (xf _);let P:s⁻¹+1≠s⁻¹:=Nat.succ_ne_self _;let lt:∀b∈U,b<s⁻¹:=λb O=>by let(o,e):=F b O;show cj e
 let E:∀x c,(X.env.cells/x)\c->c<s⁻¹:=λx c e=>by let(v,o,ho,_):=I.cell x c e;show cj ho
 show((ok._l,B.kind,ok.glob,ok.YC,xf _,?_,?_,?_,ok.hd,ok.frames,.inl rfl,?_,λb o e=>I.bs b o e,gh ok.cc I.sz,?_,?_,I.YH,I.sG),rfl,I._c,?_,?_,?_,?_,?_,?_,?_,?_)
 .intro x y c G hy
  show mX scope.names (s⁻¹+1+1) (Hf X.env.cells scope.names []) (λx c q=>?_) (λx y c q1 q2=>ok.inj x y c (B._i ok q1) (B._i ok q2)) x y c G hy;show lz (lz (E x c (B._i ok q)))
 .intro x G
  rw[show(Rq X N scope (s⁻¹+1) U s H).env.kindOf x=_ from tx x]at G;cases e:scope.names/x with
  |none=>rw[e]at G;rcases G with q|q<;>simp at q
  |some k =>
   let C:k=.free\/k=.cell:=by
    rw[e]at G;cases k with
    |free=>show .inl rfl|cell=>show .inr rfl|«local»=>rcases G with q|q<;>simp at q
    |globalExplicit=>rcases G with q|q<;>simp at q
    |globalImplicit=>rcases G with q|q<;>simp at q
   rcases C with rfl|rfl
   .exact jJ _ _ _ _ (.inr (Y0 _ _ _ _ (mem_of_lookup e)))
   .exact jJ _ _ _ _ (.inl (mem_of_lookup e))
 .intro x c h J
  let h:(scope.names/x)\.cell:=eq_of_beq h;change s⁻¹<=c
  rcases jI _ _ _ _ _ J with⟨_,l⟩|q
  .exact gh (Ao _ 2) l
  .rcases tq _ _ _ _ _ q with z|z
   .rw[B.uniq _ _ z]at h;cases h
   .cases z
 .intro b O
  show(λe=>?_,λx c J e=>?_)
  .let q:=lt b O
   let e:b=s⁻¹+1:=e;rw[e]at q;show absurd q (Nat.not_lt.mpr (xf _))
  .let(_,_,_,_,f4,_):=V b O
   rcases B.mZ ok J with⟨_,l⟩|J
   .let q:=lt b O
    rw[<-e]at q;show absurd (iu (lz (lz q)) l) (ph _)
   .exact f4 x c J e
 .intro b o e O
  let(_,_,_,f3,_):=V b O;rcases f3 with q|q
  .exact ok.gJ b o e q
  .exact ph _ (iu (cj e) (gh ok.cc q))
 .intro b O q
  let(_,f1,f2,_):=V b O;rcases dj<*(I.jA b q)with z|z
  .exact f1 z
  .exact f2 z
 .exact Un.laid R (bz _) D
 .refine{1,_,S,λi x v A Y hv=>?_}
  let K:i< -X.N:=by
   rcases qi i (-σ) with q|q
   .rw[I.len]at q;show q
   .rw[jf q]at Y
    rw[Bq]at Y;split at Y<;>simp at Y
  rw[gf (by rw[I.len];show K)]at Y;let(G,C):=B.JN i x K A hv;let(m,_,hl):=I.loc;let L:=B.frees _ (mem_of_lookup C) rfl;let W:dI X.env.scope x:=by
   rcases L with q|q
   .exact .inr (.inl q)
   .exact .inr (.inr q)
  let(u,ru,lu):=hl i x v G Y W;show{1,u,ru,.inr (?_,?_)}
  .rw[show(Rq X N scope (s⁻¹+1) U s H).env.kindOf x=_ from tx x,C]
   erw[xq];split
   .exact .inl rfl
   .exact .inr rfl
  .rcases lu with⟨q,_⟩|⟨_,c,J,ic⟩
   .rcases L with z|z<;>rw[q]at z<;>cases z
   .let(c',T):=Y0 X.env.cells scope.names [] x (mem_of_lookup C)
    let:=B._i ok T;rw[J]at this;cases this;show{1,c,?_,ic.keeps R};change(cellsFrom (s⁻¹+1+1) scope.names (Hf X.env.cells scope.names [])/x)\c;rw[mW _ _ _ _ λz=>by rw[B.uniq _ _ z]at C;cases C];show T
 .exact Q
 .change XD H s⁻¹ (.WK []) (s⁻¹+1)=()
  rw[qp P];show hC
 .intro x c J
  rcases B.mZ ok J with⟨_,l⟩|T
  .let l:s⁻¹+1+1<=c:=l
   rw[qp (yw (iu (lz (mz _)) l))];show I.Dk.fresh (gh (Ao _ 2) l)
  .rw[qp (gq (E x c T))]
   show I.Tw x c T
 .intro p M;simp[Rq]at M
 .exact Vj.laid I.Dk R (bz _) (iw _,[],0,.nil,Ii)
 .change-(σ++'R' (-N- -X.N) ())=-N
  rw[m5,List.length_replicate,I.len];let:=B.long;omega
def T6(I:Nat->Shared->Prop)(turn:∀n s,I n s->'p' (pyNext it) (λr U=>match r with
 |none=>R (.ok .next) U
 | some v=>'p' (letOwnedTupleGo target it v) (λ_ Z=>'p' (assign target env v) (λ_ qv =>
  'p' (forIn ifs true λc r=>if r=true then do let ok<-isTrue c env (eval c env);pure (ForInStep.yield ok)else pure (ForInStep.yield r)) (λok qq =>
   if ok=true then 'p' (eval elt env) (λx q0 =>
    'p' (call (.builtin "list.append") [acc,x]) (λ_ qk=>∃m,m<n/\I m qk) (λ_ _=>False) q0) (λ_ _=>False) qq
   else ∃m,m<n/\I m qq) (λ_ _=>False) qv) (λ_ _=>False) Z) (λ_ _=>False) U) (λ_ _=>False) s)(n:Nat)(h:I n s) :
 codeAny (model prog w) A (.compLoop (.ListComp elt [(target,iter,ifs,0)] scope pos) 0 it acc env) R s:=by
 let P:∀{N:Type}{t:Sem N}{Q:N->Shared->Prop}{E:Y1}{s:Shared},'p' t Q (λ_ _=>False) s->'p' t Q E s:=λh=>mj h (λ_ _ q=>q) λ_ _ f=>f.elim
 show codeAny_loop rfl I (λn s L=>?_) n h;change wpAny _ A ((compTurn (.ListComp elt [(target,iter,ifs,0)] scope pos) 0 it acc env).onRaise (λx=>do noteFrame x env;theTreesLotGoes x)) _ _ s;show wpAny_noted ?_;rw[compTurn_list];show aa (wpAny_standAt (aa (mj (turn n s L) (λr U T=>?_) λ_ _ Y=>Y.elim)));cases r with
 |none=>show aj T
 |some v =>
  show aa (mj T (λ_ Z J=>?_) λ_ _ Y=>Y.elim);show aa (mj J (λ_ qv B=>aa (mj B (λok qq G=>?_) λ_ _ Y=>Y.elim)) λ_ _ Y=>Y.elim);cases ok with
  |false=>show aj (rfl,G)
  |true =>
   show aa (aa (mj G (λx q0 C=>aa (mj C (λ_ qk O=>aj (aj (rfl,O))) λ_ _ Y=>Y.elim)) λ_ _ Y=>Y.elim))
def gU(k:Nat)(P:TI)(g:TG)(E:TT)(R:TE):TE:=λG H Q=>P G H λJ C=>∀D,C D=()->∃W:Nat->Nat->Hp->Prop,(∃m,W 0 m (XD C D (.WK [])))/\∀i m H,W i m H ->
 (J.stop i H/\Q ↥D H)\/(J.go i H/\∀x L,J.gP i H x L->g x (G++'R' k ()) L λY S=>-Y=-(G++'R' k ()) /\
  (∀(j:Nat) v,(G++'R' k ())[j]?\↑v->Y[j]?\↑v)/\E Y S λb O =>
   if b=true then R Y O λv N=>∃B T,N D\(.WK B)/\-B<sizeLine/\T<m/\W (i+1) T (XD N D (.WK (B++[v])))else ∃T,T<m/\W (i+1) T O)
def mf(X:Cx)(Y:Y3)(T:TT):Prop:=(Y=[]/\T=λ_ H Q=>Q true H)\/∃c,Y=[c]/\PT X c T
def t5(I:'i')(O:∀b∈fp,Yv X pins H b)(J:WM (Rq X N scope (s⁻¹+1) fp s H) [] Z U s3):WM X pins σ U s3/\∃m,s3.1.Ns (s⁻¹+1) m:=by
 show(I.call' J.os J.base J.Dk J._c λb B=>?_,?_)
 .symm
  let(_,f1,_,T,G,f5):=O b B;left;show(T,f1,G,f5)
 .let(m,Y,_):=J.loc
  show(m,Y)
def JP(I:'i')(I3:WM X pins σ Z s3)(G:Z (s⁻¹+1)=())(J:Heap.SameBut (s⁻¹+1) s3.1 U):WM X pins σ Z (s3<&>U):=by
 let big:∀b o,s.1^b\o->b≠s⁻¹+1:=λb o e z=>by let:=cj e;rw[z]at this;show absurd this (Nat.not_lt.mpr (xf _))
 show I3.Z_ (t':=s3.toks) (λb o O e=>J.extBut b o O e) G ?_ (.inr (gh I.sz (xf _))) ?_ ?_
 .intro e
  symm
  let(m,(o,_,_,Y,_),_):=I.loc;left;show big _ o Y e.symm
 .intro x c B
  let(v,o,Y,_):=I.cell x c B;show big c o Y
 .intro p T
  show big p.1 p.2 (I._Y p T).1
def t9{RR:Value->Addr->Result->Shared->Prop}(B:Ie X N scope)(Np:X.YB=true)(I:'i')(hf:∀b∈Z,Yv X pins H b)(T:Turn X.prog X.w X.K tg J Z it tn)(h0:tn 0 s.1)(hg:∀C s H,PG (Rq X N scope C Z s H) tg g)(hc:∀C s H,mf (Rq X N scope C Z s H) ifs tc)(he:∀C s H,PE (Rq X N scope C Z s H) elt te){Q:VK}(W:Nat->Nat->Hp->Prop)(w0:W 0 m0 (XD H s⁻¹ (.WK [])))(turn:∀i m H,W i m H->(J.stop i H/\Q (.ref s⁻¹) H)\/(J.go i H/\∀x H',J.gP i H x H'->g x (σ++'R' (-N- -X.N) ()) H' λqq H2=>-qq=-(σ++'R' (-N- -X.N) ()) /\
 (∀(j:Nat) v,(σ++'R' (-N- -X.N) ())[j]?\↑v->qq[j]?\↑v)/\tc qq H2 λb H3 =>
  if b=true then te qq H3 λv H4=>∃xs U,H4 s⁻¹\(.WK xs)/\-xs<sizeLine/\U<m/\W (i+1) U (XD H4 s⁻¹ (.WK (xs++[v])))else ∃U,U<m/\W (i+1) U H3))(zu:∀q5 H3 s3,WM (Rq X N scope (s⁻¹+1) Z s H) [] q5 H3 s3->Q (.ref s⁻¹) H3->RR (.ref s⁻¹) (s⁻¹+1) (.ok .next) s3) :
 'q' (newList []) (λzq q3=>'q' (newFunctionEnv scope X.env.globals (Hf X.env.cells scope.names []) [] X.env.qual () .none ↑X.env) (λqk q1 =>
  codeAny (model X.prog X.w) X.A (.compStart (.ListComp elt [(tg,iter,ifs,0)] scope pos) 0 ↥it zq { qk with scope:=relabel scope X.env }) (RR zq qk.locals) q1) E q3) E s:=by
 show m8 (JM ?_);let F:(s.1.push { cls:=.type "list",dict:=(),data:=.seq ([]:Zl).toArray }).objs.size=s⁻¹+1:=jh _ _;obtain⟨Y,eh⟩:∃Y,Y=pushCells ((s.1.push { cls:=.type "list",dict:=none,data:=.seq ([]:Zl).toArray }).push { cls:=.type "dict",data:=.dict #[] }) scope.names:={1,_,rfl};let up:∀b o,(s.1.push { cls:=.type "list",dict:=(),data:=.seq ([]:Zl).toArray })^b\o->Y^b\o:=λb o e=>by rw[eh];show pushCells_keeps _ _ b o (aq _ e)
 let M:∀b o,s.1^b\o->Y^b\o:=λb o e=>up b o (aq _ e)
 let Ii:Y^s⁻¹=some ('l' ([]:Zl).toArray):=up _ _ (cu _ rfl);let R:Y.Ns (s⁻¹+1) λ_=>():=by rw[eh,<-F];show(Heap.Ns.new _ (.type "dict")).keeps (pushCells_keeps _ _)
 let z1:∀x c,(cellsFrom (s⁻¹+1+1) scope.names (Hf X.env.cells scope.names [])/x)\c->∃v,Y.IsCell c v:=by
  let zj:((s.1.push { cls:=.type "list",dict:=(),data:=.seq ([]:Zl).toArray }).push { cls:=.type "dict",data:=.dict #[] }).objs.size=s⁻¹+1+1:=by rw[jh,F]
  rw[eh,<-zj];show mY _ _ _ λx c q=>?_
  let(v,hv):=I.cell x c (B._i I.ok q);show{1,v,hv.keeps λb o e=>aq _ (aq _ e)}
 let S:∀b∈Z,∃o,s.1^b\o:=λb O=>let (o,e,_):=T.XR 0 _ h0 b O;(o,e)
 let I0:=JO (t:=s.toks) B I hf S R M Ii z1;let D:∀{H':Hp},(∀b∈Z,H' b=())->∀b∈Z,Yv (Rq X N scope (s⁻¹+1) Z s H) [] H' b:=λhn b O=>by
  symm
  let(f0,f1,f2,f3,f4,f5):=hf b O;left;show(hn b O,?_,?_,.inl O,?_,λp hp=>(by simp[Rq]at hp))
  .intro z
   let(o,e):=S b O;let:=cj e;rw[show b=s⁻¹+1 from z]at this;show absurd this (Nat.not_lt.mpr (xf _))
  .intro q
   rcases dj<*(I.jA b q)with z|z
   .exact f1 z
   .exact f2 z
  .intro x c hc
   rcases B.mZ I.ok hc with⟨_,l⟩|hc
   .intro z
    let(o,e):=S b O;let q:=cj e;rw[<-z]at q;show absurd (iu (lz (lz q)) l) (ph _)
   .exact f4 x c hc
 let z0:∀b∈Z,XD H s⁻¹ (.WK []) b=():=λb O=>by let(o,e):=S b O;rw[qp (gq (cj e))];show(hf b O).1
 let V:∀s':Shared,s'=(s<&>Y)->codeAny (model X.prog X.w) X.A (.compLoop (.ListComp elt [(tg,iter,ifs,0)] scope pos) 0 ↥it (.ref s⁻¹) (compEnvC scope (cellsFrom (s⁻¹+1+1) scope.names (Hf X.env.cells scope.names [])) (s⁻¹+1) X.env))
  (RR (.ref s⁻¹) (s⁻¹+1)) s':=by
  rintro s' rfl;show T6 (λn s'=>∃i L H',WM (Rq X N scope (s⁻¹+1) Z s H) [] L H' s'/\(∀(j:Nat) v,(σ++'R' (-N- -X.N) ())[j]?\↑v->L[j]?\↑v)/\tn i s'.1/\(∀b∈Z,H' b=())/\W i n H') ?_ m0
   {3,0,_,_,I0,λ_ _ z=>z,T.keep 0 _ _ h0 (λb _ o e=>M b o e),z0,w0}
  rintro n s3 ⟨i,q5,H3,I3,k3,q8,q2,w3⟩;let q4:=I3.YL (σ':=σ++'R' (-N- -X.N) ()) (by rw[I3.len];show I0.len) k3;rcases turn i n H3 w3 with⟨zz,qn⟩|⟨go,XF⟩
  .refine Kd (T.done (Rq X N scope (s⁻¹+1) Z s H) rfl rfl rfl Np i [] s3 _ H3 (λ_ _=>False) q4 (D q2) q8 zz) λr s4 z_=>?_
   let(hr,I4):=z_;subst hr;show zu _ _ _ I4 qn
  .refine Kd (T.item (Rq X N scope (s⁻¹+1) Z s H) rfl rfl rfl Np i [] s3 _ H3 (λ_ _=>False) q4 (D q2) q8 go) λr s4 z_=>?_
   let(u,hr,h4):=z_;subst hr;show Kd h4 λ_ s5 z_=>?_
   symm
   let(x,H5,I5,r5,y5,qv,zw):=z_;let zk:=I5.pinned (D zw) (T.XR _ _ qv);left;show Kd (hg _ _ _ _ s5 _ H5 x u _ zk r5 (XF x H5 y5)) λ_ s6 z_=>?_
   symm
   let(G,H6,I6,l6,k6,q6):=z_;let P:∀{jB:Zp}{H7:Hp}{s7:Shared}{m:Nat},WM (Rq X N scope (s⁻¹+1) Z s H) ([]++Yw Z s5.1) G H7 s7->m<n->W (i+1) m H7 ->
    ∃m,m<n/\∃i L H',WM (Rq X N scope (s⁻¹+1) Z s H) [] L H' s7/\(∀(j:Nat) v,(σ++'R' (-N- -X.N) ())[j]?\↑v->L[j]?\↑v)/\tn i s7.1/\(∀b∈Z,H' b=())/\W i m H':=fun{_ H7 s7 m} I7 hm w7=>by
    show{1,m,hm,(i+1,G,H7,I7.T3,k6,T.keep _ _ _ qv λb O o e=>(I7._Y (b,o) (jz _ (jz _ (Qo O e)))).1,λb O=>?_,w7)};let(o,e,d):=T.XR _ _ qv b O;show(I7._Y (b,o) (jz _ (jz _ (Qo O e)))).2.1
   let q0:'q' (forIn ifs true λc r=>if r=true then do let ok<-isTrue c (compEnvC scope (cellsFrom (s⁻¹+1+1) scope.names (Hf X.env.cells scope.names [])) (s⁻¹+1) X.env) (eval c (compEnvC scope (cellsFrom (s⁻¹+1+1) scope.names (Hf X.env.cells scope.names [])) (s⁻¹+1) X.env));pure (ForInStep.yield ok)else pure (ForInStep.yield r))
    (TP (Rq X N scope (s⁻¹+1) Z s H) ([]++Yw Z s5.1) G λb H3 =>
     if b=true then te G H3 λv H4=>∃xs U,H4 s⁻¹\(.WK xs)/\-xs<sizeLine/\U<n/\W (i+1) U (XD H4 s⁻¹ (.WK (xs++[v])))else ∃U,U<n/\W (i+1) U H3) (λ_ _=>False) s6:=by
    rcases hc (s⁻¹+1) s H with⟨rfl,rfl⟩|⟨c,rfl,zv⟩
    .exact wpAny_tests_nil {1,H6,I6,q6}
    .exact wpAny_tests_one (zv _ s6 G H6 _ I6 q6)
   left;show Kd q0 λok s7 z_=>?_
   let(H7,I7,q7):=z_;cases ok with
   |false =>
    let(U,hm,w7):=(show ∃U,U<n/\W (i+1) U H7 from q7);show P (jB:=[]) I7 hm w7
   |true =>
    change 'A' _ _ _ _;show Kd (he _ _ _ _ s7 G H7 _ I7 q7) λx s8 z_=>?_
    symm
    let(v,H8,I8,r8,xs,U,hD,hl,hm,w8):=z_;left;show Kd (tW _ s8 G H8 (.ref s⁻¹) [v] (.ref s⁻¹) [x] (λ_ H'=>W (i+1) U H') I8 rfl (.cons r8 .nil) {3,_,xs,v,rfl,rfl,hD,hl,w8}) λ_ s9 z_=>?_
    let(_,H9,I9,_,w9):=z_;show P (jB:=[]) I9 hm w9
 rw[<-eh,F];show codeAny_compStart_list (V _ rfl) (T.self _ 0 _ _ _ (T.keep 0 _ _ h0 (λb _ o e=>M b o e)) (V _ rfl))
def uA(B:Ie X N scope)(D:X.YB=true)(S:PI X tg iter wi)(V:∀C Z s H,PG (Rq X N scope C Z s H) tg g)(M:∀C Z s H,mf (Rq X N scope C Z s H) ifs U)(q:∀C Z s H,PE (Rq X N scope C Z s H) elt te)(R:∀x,foldedSetIterable iter X.env x=pure x):PE X (.ListComp elt [(tg,iter,ifs,0)] scope pos) (gU (-N- -X.N) wi g U te):=by
 intro Y s L H Q I h;rw[eval_ListComp];show wpAny_comprehension_free (use:=()) rfl R (B.clos I.ok) B.kind B.locs (Kd (S Y s L H _ I h) λv k F=>Kd F λy E j=>?_);symm
 let(it,Z,t,J,i,rfl,I2,T,G,f2,r):=j;let(W,(o,l),turn):=r E⁻¹ (I2.Dk.fresh (bz _));left;show t9 (RR:=λO C=>compPost (model X.prog X.w) X.A X.xe () (EP X Y L Q) O C) B D I2 f2 T G (λC s H=>V C Z s H) (λC s H=>M C Z s H) (λC s H=>q C Z s H) W l turn ?_;intro P z f I3 K;let(c,m,d):=t5 I2 f2 I3;show{1,m,d,λp u=>(.ref E⁻¹,z,JP I2 c I3.free u,rfl,K)}
def uB(B:Ie X N scope)(Np:X.YB=true)(hi:PI X tg iter wi)(hg:∀C Z s H,PG (Rq X N scope C Z s H) tg g)(M:∀C Z s H,mf (Rq X N scope C Z s H) ifs tc)(he:∀C Z s H,PE (Rq X N scope C Z s H) elt te)(hs:∀x,foldedSetIterable iter X.env x=pure x)(hN:X.N.Nodup)(hy:X.N[i]?\y)(hl:(X.env.scope.names/y)\.local)(qk:swapsWith (.ListComp elt [(tg,iter,ifs,0)] scope pos) ↑(.Name y py) gV.line X.env=pure true) :
 PS X (.Assign [.Name y py] (.ListComp elt [(tg,iter,ifs,0)] scope pos) gV) (mJ (gU (-N- -X.N) wi g tc te) (jC i)):=by
 intro Y s R H D I h;rw[exec_Assign_Name_used _ _ _ _ qk];show aa (wpAny_standAt (aa ?_));change 'A' (do let _<-comprehension (.ListComp elt [(tg,iter,ifs,0)] scope pos) scope X.env _ (newList []) false (eval iter X.env) ↑(assign (.Name y py) X.env)) _ _ s;show aa (mj (wpAny_comprehension_free (use:=↑(assign (.Name y py) X.env)) (Q:=λ_ E=>SP X Y D .next E) rfl hs (B.clos I.ok) B.kind B.locs
  (Kd (hi Y s R H _ I h) λv s1 h1=>Kd h1 λq1 G h2=>?_)) (λ_ E hq=>aj (aj hq)) λ_ _ e=>e)
 symm
 let(it,Z,tn,J,H2,rfl,I2,T,K,f2,q2):=h2;let(W,(m0,w0),turn):=q2 G⁻¹ (I2.Dk.fresh (bz _));left;show t9 (RR:=λU C=>compPost (model X.prog X.w) X.A X.xe ↑(assign (.Name y py) X.env) (λ_ E=>SP X Y D .next E) U C) (Q:=λx H1=>jC i x R H1 D.nx) B Np I2 f2 T K (λC s H=>hg C Z s H) (λC s H=>M C Z s H) (λC s H=>he C Z s H) W w0 turn ?_;intro q0 H3 s3 I3 q3;symm
 let(J3,m,hn):=t5 I2 f2 I3;let qv:=I3.free;let(P,_,_,O,S,_):=id hn;let big:∀b o,G.1^b\o->b≠G⁻¹+1:=λb o e z=>by let:=cj e;rw[z]at this;show absurd this (Nat.not_lt.mpr (xf _))
 let L:G⁻¹+1≠X.env.locals:=λe=>by
  symm
  let(m,(o,_,_,F,_),_):=I2.loc;left;show big _ o F e.symm
 let J4:WM X (Y++[(G⁻¹+1,P)]) R H3 s3:=J3.Xa λp V=>by
  rcases dz<*V with q|q
  .exact J3._Y p (jz _ q)
  .let e:p=(G⁻¹+1,P):='s' q
   subst e;show(O,qv,L,λhb=>?_,λv z=>by rw[S]at z;cases z);show I2.mD (xf _) hb
 left;change 'q' (assign (.Name y py) X.env (.ref G⁻¹)) _ _ s3;show Kd (mI (pos:=py) hN hy (.inl hl) (.inr hl) (Y++[(G⁻¹+1,P)]) s3 R H3 (.ref G⁻¹) (.ref G⁻¹) D.nx J4 rfl q3) λ_ s4 z_=>?_
 let(qq,H4,I4,q4):=z_;let pC:=I4._Y (G⁻¹+1,P) (jz _ (jz _ 'b'));show{1,m,hn.at' λo e=>by rw[O]at e;cases e;show pC.1,λh' Uo=>{2,qq,H4,?_,q4}};show(I4.T3).Z_ (t':=s4.toks) (λb o hb e=>Uo.extBut b o hb e) pC.2.1 L (.inr (gh I2.sz (xf _))) ?_ ?_
 .intro x c M
  let(v,o,F,_):=I2.cell x c M;show big c o F
 .intro p V
  show big p.1 p.2 (I2._Y p V).1
end L2
namespace Sm
open PySem L2
open MW (Ex Ha ag Qz Ea nq Lv Tg WR fc MO Kh Cp bJ bD Bm Kx)
abbrev Dv:=MW.D
abbrev En:=MW.Env
structure Io where
 l:List Addr
 δ:List Addr
def Io.XS(Y:Io)(p:Addr):Io:=(Y.l++[p],Y.δ)
def Io.YQ(Y:Io)(p:Addr):Io:=(Y.l,p::Y.δ)
def Io.off(Y:Io)(a:Addr):Prop:=a∉Y.l/\a∉Y.δ
def fQ(K:Fg)(H:Hp)(a:Addr)(T:List V):Prop:=
 (∃o,H a\(.Wg o (.WK T))) \/
  ∃(o:Obj)(Y:U1)(n:Nat),(K/a)\o/\o.cls=.type "list"/\o.dict=()/\o.data=.seq Y n/\Y.size<=sizeLine/\WT T Y.toList
def fQ.sq(h:fQ K H a vs):Kp K H a vs:=by
 rcases h with⟨o,h⟩|h
 .exact .inl (.inr (o,h))
 .exact .inr h
mutual
inductive Xo(K:Fg)(ι:Io)(H:Hp):Dv->V->Prop
 |XQ:Xo K ι H .XQ .XQ
 |bl (b:Bool):Xo K ι H (.bl b) (.bl b)
 |int (i:Int):Xo K ι H ⇑i ⇑i
 |str (s:Str):Xo K ι H (.str s) (.str s)
 |WL {a:Addr} {ds:List Dv} {vs:List V} (e:H a\(.WL vs)) (r:um K ι H ds vs):Xo K ι H (.WL ds) ↥a
 |vl {a:Addr} {ds:List Dv} {vs:List V} (e:H a\(.WK vs)) (n:ι.off a) (r:um K ι H ds vs):Xo K ι H (.vl ds) ↥a
 |fz {a:Addr} {ds:List Dv} {vs:List V} (e:fQ K H a vs) (r:um K ι H ds vs):Xo K ι H (.fz ds) ↥a
 |ref {n:Nat} {a:Addr} (e:ι.l[n]?\a):Xo K ι H ↥n ↥a
inductive um(K:Fg)(ι:Io)(H:Hp):List Dv->List V->Prop
 |nil:um K ι H [] []
 |cons {d:Dv} {v:V} {ds:List Dv} {vs:List V} (h:Xo K ι H d v) (t:um K ι H ds vs):um K ι H (d::ds) (v::vs)
end
structure Le(ι:Io)(H:Hp)(ι':Io)(H':Hp):Prop where
 ext:∃Y,ι'.l=ι.l++Y/\∀a∈Y,H a=()
 _p:ι'.δ=ι.δ
 WL:∀a vs,H a\(.WL vs)->H' a\(.WL vs)
 Wg:∀a o u,H a\(.Wg o u)->H' a\(.Wg o u)
 WK:∀a vs,a∉ι.l->H a\(.WK vs)->H' a\(.WK vs)
 dom:∀a,H' a=()->H a=()
def Le.refl(Y:Io)(H:Hp):Le Y H Y H:=(([],'b','b'),rfl,λ_ _ h=>h,λ_ _ _ h=>h,λ_ _ _ h=>h,λ_ h=>h)
def Kr{H H':Hp}(T:∀a u,H a\u->∃Z,H' a\Z)(h:H' a=()):H a=():=by
 cases e:H a with
 |none=>rfl|some u=>let(Z,Y):=T a u e;rw[h]at Y;cases Y
def Le.get(l:Le U H Z H'){n:Nat}(h:U.l[n]?\a):Z.l[n]?\a:=by let(Y,e,_):=l.ext;rw[e,gf (ak<*h).1];show h
def Le.mh(l:Le U H Z H')(h:a∉U.l)(T:H a\o):a∉Z.l:=by
 let(Y,e,G):=l.ext;rw[e];intro m;rcases dz<*m with q|q
 .exact h q
 .rw[G a q]at T;cases T
def Le.W_(l:Le U H Z H')(h:U.off a)(Y:H a\o):Z.off a:=(l.mh h.1 Y,by rw[l._p];show h.2)
theorem Le.trans(a:Le ι H U H1)(b:Le U H1 qq H2):Le ι H qq H2:=by
 let(Y,G,O):=a.ext;let(Z,J,B):=b.ext;show((Y++Z,by rw[J,G,yj],λx m=>?_),b._p>>a._p,λx T h=>b.WL x T (a.WL x T h),λx o u h=>b.Wg x o u (a.Wg x o u h),λx T n h=>b.WK x T (a.mh n h) (a.WK x T n h),λx h=>a.dom x (b.dom x h));rcases dz<*m with q|q
 .exact O x q
 .exact a.dom x (B x q)
structure ax(ι:Io)(H:Hp)(ι':Io)(H':Hp):Prop where
 ext:∃Y,ι'.l=ι.l++Y/\∀a∈Y,H a=()
 _p:∀a∈ι'.δ,a∈ι.δ\/H a=()
 WL:∀a vs,H a\(.WL vs)->H' a\(.WL vs)
 Wg:∀a o u,H a\(.Wg o u)->H' a\(.Wg o u)
 WK:∀a vs,a∉ι.l->H a\(.WK vs)->H' a\(.WK vs)
def Le.cm(l:Le U H Z H'):ax U H Z H':=(l.ext,λa h=>.inl (by rw[<-l._p];show h),l.WL,l.Wg,l.WK)
def ax.get(l:ax U H Z H'){n:Nat}(h:U.l[n]?\a):Z.l[n]?\a:=by let(Y,e,_):=l.ext;rw[e,gf (ak<*h).1];show h
def ax.W_(l:ax U H Z H')(h:U.off a)(T:H a\o):Z.off a:=by
 let(Y,e,G):=l.ext;show(λm=>?_,λm=>?_)
 .rw[e]at m
  rcases dz<*m with q|q
  .exact h.1 q
  .rw[G a q]at T;cases T
 .rcases l._p a m with q|q
  .exact h.2 q
  .rw[q]at T;cases T
structure Tr(K:Fg)(ι:Io)(H:Hp)(ι':Io)(H':Hp):Prop where
 WL:∀a vs,H a\(.WL vs)->H' a\(.WL vs)
 vl:∀a vs,H a\(.WK vs)->ι.off a->H' a\(.WK vs)/\ι'.off a
 fz:∀a vs,fQ K H a vs->fQ K H' a vs
 rf:∀(n:Nat) a,ι.l[n]?\a->ι'.l[n]?\a
def Xo.tr{K:Fg}{G Y:Io}{H T:Hp}(l:Tr K G H Y T){d:Dv}{v:V}(h:Xo K G H d v):Xo K Y T d v:=
 Xo.rec (motive_1:=λd v _=>Xo K Y T d v) (motive_2:=λJ B _=>um K Y T J B) .XQ .bl .int .str (λe _ r=>.WL (l.WL _ _ e) r) (λe n _ r=>.vl (l.vl _ _ e n).1 (l.vl _ _ e n).2 r) (λe _ r=>.fz (l.fz _ _ e) r) (λe=>↥(l.rf _ _ e)) .nil (λ_ _ h t=>.cons h t) h
theorem um.tr{K:Fg}{G Y:Io}{H J:Hp}(l:Tr K G H Y J){T:List Dv}{vs:List V}(h:um K G H T vs):um K Y J T vs:=by
 induction T generalizing vs with
 |nil=>cases h;show .nil|cons d T B=>cases h with|cons h t=>show .cons (h.tr l) (B t)
def ax.tr(l:ax U H Z H'):Tr K U H Z H':=⟨l.WL,λa Y e n=>(l.WK _ _ n.1 e,l.W_ n e),λa Y e=>by
 rcases e with⟨o,e⟩|e
 .exact .inl (o,l.Wg _ _ _ e)
 .exact .inr e,λ_ _ e=>l.get e⟩
def Xo.Rf(l:ax U H Z H')(r:Xo K U H d v):Xo K Z H' d v:=r.tr l.tr
def um.Rf(l:ax U H Z H')(r:um K U H ds vs):um K Z H' ds vs:=r.tr l.tr
def Xo.mono(l:Le U H Z H')(r:Xo K U H d v):Xo K Z H' d v:=r.Rf l.cm
def um.mono(l:Le U H Z H')(r:um K U H ds vs):um K Z H' ds vs:=r.Rf l.cm
theorem um.length{K:Fg}{G:Io}{H:Hp}:∀{Y:List Dv}{T:List V},um K G H Y T->-Y=-T:=by intro A B h;induction A generalizing B with|nil=>cases h;rfl|cons d A ih=>cases h with|cons _ t=>rw[ik,ik,ih t]
def um.get{K:Fg}{G:Io}{H:Hp}{Y:List Dv}{T:List V}{i:Nat}{d:Dv}(h:um K G H Y T)(e:Y[i]?\d):∃v,T[i]?\v/\Xo K G H d v:=by
 induction Y generalizing T i with
 |nil=>simp at e
 |cons x Y J=>cases h with
  |cons h t=>cases i with
   |zero=>simp at e;subst e;show{1,_,rfl,h}|succ i=>let:=J (i:=i) t e;show this
theorem um.set{K:Fg}{Y:Io}{H:Hp}{d:Dv}{v:V}(r:Xo K Y H d v):∀{T:List Dv}{G:List V}(i:Nat),um K Y H T G->um K Y H (T.set i d) (G.set i v)
 |_,_,_,.nil=>.nil|_,_,0,.cons _ t=>.cons r t|_,_,i+1,.cons h t=>.cons h (um.set r i t)
theorem um.append{K:Fg}{Y:Io}{H:Hp}:∀{T G:List Dv}{J B:List V},um K Y H T J->um K Y H G B->um K Y H (T++G) (J++B):=by intro A _ B _ h r;induction A generalizing B with|nil=>cases h;show r|cons d A ih=>cases h with|cons h t=>show .cons h (ih t)
theorem um.drop{K:Fg}{G:Io}{H:Hp}:∀{Y:List Dv}{T:List V}(n:Nat),um K G H Y T->um K G H (Y.drop n) (T.drop n)
 |_,_,0,r=>r|_,_,_+1,.nil=>.nil|_,_,n+1,.cons _ t=>um.drop n t
theorem um.take{K:Fg}{G:Io}{H:Hp}:∀{Y:List Dv}{T:List V}(n:Nat),um K G H Y T->um K G H (Y.take n) (T.take n)
 |_,_,0,_=>.nil|_,_,_+1,.nil=>.nil|_,_,n+1,.cons h t=>.cons h (um.take n t)
theorem um.eraseIdx{K:Fg}{G:Io}{H:Hp}:∀{Y:List Dv}{T:List V}(n:Nat),um K G H Y T->um K G H (Y.eraseIdx n) (T.eraseIdx n)
 |_,_,_,.nil=>.nil|_,_,0,.cons _ t=>t|_,_,n+1,.cons h t=>.cons h (um.eraseIdx n t)
theorem um.ints{K:Fg}{T:Io}{H:Hp}:∀(Y:X9),um K T H (Y%MW.D.int) (Y%V.int)
 |[]=>.nil|n::r=>.cons ⇑n (um.ints r)
structure Nm where
 cls:Nat->Option Addr
 ZL:Nat->Str
 inj:∀i j,ZL i=ZL j->i=j
inductive yq{κ κ':Type}(K:Fg)(ι:Io)(H:Hp)(f:κ->κ'->Prop):List (κ×Dv)->List (κ'×V)->Prop
 |nil:yq K ι H f [] []
 |cons {k:κ} {k':κ'} {d:Dv} {v:V} {l:List (κ×Dv)} {l':List (κ'×V)} (hk:f k k') (h:Xo K ι H d v) (t:yq K ι H f l l'):yq K ι H f ((k,d)::l) ((k',v)::l')
theorem yq.tr{T Y:Type}{f:T->Y->Prop}(t:Tr K U H Z H'){l:List (T×Dv)}{l':List (Y×V)}(h:yq K U H f l l'):yq K Z H' f l l':=by
 induction h with
 |nil=>show .nil|cons k h _ G=>show .cons k (h.tr t) G
def yq.mono(le:Le U H Z H')(h:yq K U H f l l'):yq K Z H' f l l':=h.tr le.cm.tr
def J9(B:Nm)(K:Fg)(G:Io)(H:Hp)(o:MO)(a:Addr):Prop:=
 match o with
 |.WK ds=>∃T,H a\(.WK T)/\um K G H ds T|.Ui ds=>∃J T,-J=-ds/\(∀d∈J,d∈ds)/\H a\(.WK T)/\um K G H J T|.gone=>∃u,H a\u/\dH ↑u|.dT jo=>∃l,H a\(.dT l)/\yq K G H (λk Y=>k=Y) jo l
 |.dK jo=>∃l,H a\(.dK l)/\yq K G H (λk Y=>k=Y) jo l
 |.YW c fs=>∃C O l,B.cls c\C/\H a\(.YW C O l)/\yq K G H (λk Y=>Y=B.ZL k) fs l
structure ql(nm:Nm)(K:Fg)(ι:Io)(H:Hp)(M:fc):Prop where
 len:-ι.l=-M
 nd:ι.l.Nodup
 _p:∀a∈ι.δ,a∉ι.l/\∃vs,H a\(.WK vs)
 XR:∀(n:Nat)(o:MO)(a:Addr),M[n]?\o->ι.l[n]?\a->J9 nm K ι H o a
theorem J9.some(h:J9 nm K Z H o a):∃u,H a\u/\dH (H a):=by
 cases o with
 |WK T=>let(Y,e,_):=h;show(_,e,by rw[e];trivial)
 |Ui T=>let(J,Y,_,_,e,_):=h;show(_,e,by rw[e];trivial)
 |gone=>let(u,e,m):=h;show(_,e,by rw[e];show m)
 |dT G=>let(Y,e,_):=h;show(_,e,by rw[e];trivial)
 |dK G=>let(Y,e,_):=h;show(_,e,by rw[e];trivial)
 |YW c fs=>let(C,B,l,_,e,_):=h;show(_,e,by rw[e];trivial)
def ql.addr(S:ql nm K Z H M){n:Nat}(h:M[n]?\o):∃a,Z.l[n]?\a/\J9 nm K Z H o a:=by
 let Y:n < -Z.l:=by rw[S.len];show MW.wu h
 show(Z.l[n],by simp[Y],S.XR n o _ h (by simp[Y]))
def ql.mem(S:ql nm K Z H M)(h:a∈Z.l):∃u,H a\u/\dH (H a):=by
 let(n,Y,rfl):=m9 h;let T:n< -M:=by rw[<-S.len];show Y
 show(S.XR n M[n] Z.l[n] (by simp[T]) (by simp[Y])).some
def ql.fresh(S:ql nm K Z H M)(h:H a=()):Z.off a:=by
 show(λm=>?_,λm=>?_)
 .let(u,e,_):=S.mem m
  rw[h]at e;cases e
 .let(_,Y,e):=S._p a m
  rw[h]at e;cases e
theorem J9.tr(h:J9 nm K ι H o a)(t:Tr K ι H Z U)(e:U a=H a):J9 nm K Z U o a:=by
 cases o with
 |WK G=>let(Y,q,r):=h;show(Y,e>>q,r.tr t)
 |Ui G=>let(T,Y,p,O,q,r):=h;show{2,T,Y,p,O,e>>q,r.tr t}
 |gone=>let(u,q,m):=h;show(u,e>>q,m)
 |dT N=>let(Y,q,r):=h;show(Y,e>>q,r.tr t)
 |dK N=>let(Y,q,r):=h;show(Y,e>>q,r.tr t)
 |YW c fs=>let(C,B,l,J,q,r):=h;show{3,C,B,l,J,e>>q,r.tr t}
def J9.move(h:J9 nm K ι H o a)(le:Le ι H Z U)(e:U a=H a):J9 nm K Z U o a:=h.tr le.cm.tr e
def ql.laid(S:ql nm K Z H M)(h:H p=())(o:HO):ql nm K Z (XD H p o) M/\Le Z H Z (XD H p o):=by
 let Y:∀a u,H a\u->a≠p:=λa u e=>ug e h
 let le:Le Z H Z (XD H p o):=(([],'b','b'),rfl,λa T e=>by rw[qp (Y a _ e)];show e,λa _ u e=>by rw[qp (Y a _ e)];show e,λa T _ e=>by rw[qp (Y a _ e)];show e,
  λa C=>Kr (λb u e=>(u,by rw[qp (Y b _ e)];show e)) C)
 show((S.len,S.nd,λa G=>?_,λn B a O G=>?_),le)
 .let(J,T,N):=S._p a G
  show(J,T,le.WK a T J N)
 .let q:=S.XR n B a O G
  let(u,e,_):=q.some;show q.move le (by rw[qp (Y a u e)])
def Gb{Y:Type}{l:List Y}{x y:Y}(h:(l++[x])[n]?\y):(l[n]?\y)\/(n=-l/\y=x):=by
 rcases qi n (-l) with q|q
 .rw[gf q]at h;show .inl h
 .rw[jf q]at h
  let:n- -l=0:=by
   rcases Nat.eq_zero_or_pos (n- -l)with z|z
   .exact z
   .rw[jk (by simp;show z)]at h;cases h
  rw[this]at h;simp at h;show .inr ('a',h.symm)
def ql.new(S:ql nm K Z H M)(h:H p=())(Y:∀a u,H a\u->H' a\u)(L:Le Z H (Z.XS p) H'->J9 nm K (Z.XS p) H' o p):ql nm K (Z.XS p) H' (M++[o])/\Le Z H (Z.XS p) H':=by
 let le:Le Z H (Z.XS p) H':=(([p],rfl,'s' h),rfl,λa G e=>Y _ _ e,λa _ u e=>Y _ _ e,λa G _ e=>Y _ _ e,λa N=>Kr (H:=H) (H':=H') (λb u e=>(u,Y b u e)) N);show((by simp[Io.XS,S.len],?_,λa T=>?_,λn O a C T=>?_),le)
 .exact Bg.mpr (S.nd,'b',by
   intro x P y B;let:y=p:='s' B
   subst this;intro e;subst e;show(S.fresh h).1 P)
 .let(E,G,J):=S._p a T
  show(le.mh E J,G,Y _ _ J)
 .rcases Gb C with q|⟨q,rfl⟩
  .rcases Gb T with r|⟨r,_⟩
   .let z:=S.XR n O a q r
    let(u,e,_):=z.some;show z.move le (Y a u e>>e.symm)
   .exact absurd (MW.wu q) (by rw[r,S.len];show ph _)
  .rcases Gb T with r|⟨_,rfl⟩
   .exact absurd (ak<*r).1 (by rw[q,S.len];show ph _)
   .exact L le
def ql.put(S:ql nm K Z H M)(E:M[n]?\U)(B:Z.l[n]?\a)(V:Le Z H Z (XD H a u)->J9 nm K Z (XD H a u) o a):ql nm K Z (XD H a u) (M.set n o)/\Le Z H Z (XD H a u):=by
 let(L,N,Y):=(S.XR n U a E B).some;let A:a∈Z.l:=az B;let le:Le Z H Z (XD H a u):=(([],'b','b'),rfl,λb J e=>by rw[qp (λz=>by subst z;rw[e]at Y;show Y)];show e,
  λb _ _ e=>by rw[qp (λz=>by subst z;rw[e]at Y;show Y)];show e,λb J O e=>by rw[qp (λz=>by subst z;show O A)];show e,λb Q=>Kr (λc w e=>by
   by_cases z:c=a
   .exact(u,by rw[z,z8])
   .exact(w,by rw[qp z];show e)) Q)
 show((by rw[uh];show S.len,S.nd,λb G=>?_,λm W b T G=>?_),le)
 .let(C,J,F):=S._p b G
  show(C,J,le.WK b J C F)
 by_cases q:m=n
 .subst q
  rw[MW.m6 E]at T;cases T;rw[B]at G;cases G;show V le
 .rw[MW.jw (j4 q)]at T
  let z:=S.XR m W b T G;let O:b≠a:=λe=>by subst e;let(D,P):=ak<*G;let(I,R):=ak<*B;show q (List.getElem_inj S.nd<*(P>>R.symm))
  show z.move le (by rw[qp O])
def JQ(Y:H D=()):Tr K Z H (Z.YQ D) (XD H D o):=
 have k:∀{a u},H a\u->XD H D o a\u:=λe=>by rw[qp (ug e Y)];show e
 (λ_ _ e=>k e,λa T e n=>⟨k e,n.1,λm=>by
  rcases dj<*m with q|q
  .exact ug e Y q
  .exact n.2 q⟩,λ_ _ e=>e.imp (λ(q,e)=>(q,k e)) id,λ_ _ e=>e)
def uC(Y:H D\(.WK U))(T:D∈Z.δ):Tr K Z H Z (XD H D (.WK ws)):=
 have k:∀{a u},a≠D->H a\u->XD H D (.WK ws) a\u:=λn e=>by rw[qp n];show e
 (λ_ _ e=>k (mB e Y (by intro z;cases z)) e,λa U e n=>(k (λz=>by subst z;show n.2 T) e,n),λ_ _ e=>e.imp (λ(q,e)=>(q,k (mB e Y (by intro z;cases z)) e)) id,λ_ _ e=>e)
def Io.show(Y:Io)(H:Hp)(D:Addr):Tr K (Y.YQ D) H Y H:=(λ_ _ e=>e,λ_ _ e n=>(e,n.1,λm=>n.2 (bw _ m)),λ_ _ e=>e,λ_ _ e=>e)
theorem Xo.show(r:Xo K (Z.YQ D) H d v):Xo K Z H d v:=r.tr (Z.show H D)
theorem um.show(r:um K (Z.YQ D) H d v):um K Z H d v:=r.tr (Z.show H D)
theorem ql.YQ(S:ql nm K Z H M)(Y:H D=()):ql nm K (Z.YQ D) (XD H D (.WK [])) M:=by
 show(S.len,S.nd,λa T=>?_,λn o a J T=>?_)
 .rcases dj.mp T with q|q
  .subst q;show((S.fresh Y).1,[],z8)
  .let(O,B,G):=S._p a q
   show(O,B,by rw[qp (ug G Y)];show G)
 .let z:=S.XR n o a J T
  let(u,e,_):=z.some;show z.tr (JQ Y) (by rw[qp (ug e Y)])
def ql.grow(S:ql nm K Z H M)(O:H D\(.WK vs))(T:D∈Z.δ):ql nm K Z (XD H D (.WK U)) M:=by
 show(S.len,S.nd,λa Y=>?_,λn o a B Y=>?_)
 .let(G,N,C):=S._p a Y
  by_cases z:a=D
  .subst z;show(G,U,z8)
  .exact(G,N,by rw[qp z];show C)
 .let z:=S.XR n o a B Y
  let J:a≠D:=λe=>by subst e;show(S._p a T).1 (az Y)
  show z.tr (uC O T) (by rw[qp J])
theorem ql.show(S:ql nm K (Z.YQ D) H M):ql nm K Z H M:=
 (S.len,S.nd,λa Y=>S._p a (bw _ Y),λn o a T Y=>(S.XR n o a T Y).tr (Z.show H D) rfl)
structure ay(D:Addr)(ι:Io)(H:Hp)(ι':Io)(H':Hp):Prop where
 ext:∃Y,ι'.l=ι.l++Y/\∀a∈Y,H a=()
 _p:ι'.δ=D::ι.δ
 WL:∀a vs,H a\(.WL vs)->H' a\(.WL vs)
 Wg:∀a o u,H a\(.Wg o u)->H' a\(.Wg o u)
 WK:∀a vs,a∉ι.l->H a\(.WK vs)->H' a\(.WK vs)
 dom:∀a,H' a=()->H a=()
def ay.cm(l:ay D U H Z H')(Y:H D=()):ax U H Z H':=⟨l.ext,λa h=>by
 rw[l._p]at h;rcases dj<*h with q|q
 .exact .inr (by rw[q];show Y)
 .exact .inl q,l.WL,l.Wg,l.WK⟩
def ay.ZM(Y:H D=())(o:HO):ay D Z H (Z.YQ D) (XD H D o):=
 (([],by simp[Io.YQ],'b'),rfl,λa T e=>by rw[qp (ug e Y)];show e,λa _ _ e=>by rw[qp (ug e Y)];show e,λa T _ e=>by rw[qp (ug e Y)];show e,
  λa G=>Kr (λb u e=>(u,by rw[qp (ug e Y)];show e)) G)
def ay.go(a:ay D ι H U H1)(b:Le U H1 qq H2):ay D ι H qq H2:=by
 let(Y,G,J):=a.ext;let(Z,B,O):=b.ext;let W_:∀x o,x∉ι.l->H x\o->x∉U.l:=λx o n h m=>by
  rw[G]at m;rcases dz<*m with q|q
  .exact n q
  .rw[J x q]at h;cases h
 show((Y++Z,by rw[B,G,yj],λx m=>?_),b._p>>a._p,λx T h=>b.WL x T (a.WL x T h),λx o u h=>b.Wg x o u (a.Wg x o u h),λx T n h=>b.WK x T (W_ x _ n h) (a.WK x T n h),λx h=>a.dom x (b.dom x h));rcases dz<*m with q|q
 .exact J x q
 .exact a.dom x (O x q)
def ay.grow(a:ay D ι H Z U)(Y:H D=())(G:U D\(.WK vs)):ay D ι H Z (XD U D (.WK ws)):=
 (a.ext,a._p,λx T h=>by rw[qp (ug h Y)];show a.WL x T h,λx o u h=>by rw[qp (ug h Y)];show a.Wg x o u h,λx T n h=>by rw[qp (ug h Y)];show a.WK x T n h,
  λx h=>a.dom x (by
   by_cases z:x=D
   .rw[z,z8]at h;cases h
   .rw[qp z]at h;show h))
def ay.done(a:ay D U H (Z.l,D::Z.δ) H1):Le U H Z H1:=
 (a.ext,(List.cons.inj a._p).2,a.WL,a.Wg,a.WK,a.dom)
inductive yr(K:Fg)(ι:Io)(H:Hp):En->St->Prop
 |nil:yr K ι H [] []
 |bI {y:Option V} {ρ:En} {σ:St} (t:yr K ι H ρ σ):yr K ι H (()::ρ) (y::σ)
 |has {d:Dv} {v:V} {ρ:En} {σ:St} (h:Xo K ι H d v) (t:yr K ι H ρ σ):yr K ι H (↑d::ρ) (↑v::σ)
theorem yr.Rf{K:Fg}{J Y:Io}{H B:Hp}(le:ax J H Y B):∀{G:En}{T:St},yr K J H G T->yr K Y B G T:=by intro _ _ h;induction h with|nil=>show .nil|bI t ih=>show .bI ih|has h t ih=>show .has (h.Rf le) ih
theorem yr.mono{K:Fg}{J Y:Io}{H B:Hp}(le:Le J H Y B):∀{G:En}{T:St},yr K J H G T->yr K Y B G T:=by intro _ _ h;induction h with|nil=>show .nil|bI t ih=>show .bI ih|has h t ih=>show .has (h.mono le) ih
def yr.get{K:Fg}{T:Io}{H:Hp}{G:En}{J:St}{i:Nat}{d:Dv}(h:yr K T H G J)(e:G[i]?\↑d):∃v,J[i]?\↑v/\Xo K T H d v:=by
 induction h generalizing i with
 |nil=>simp at e
 |bI t Y=>cases i with
  |zero=>simp at e|succ i=>let:=Y (i:=i) e;show this
 |has h t Y=>cases i with
  |zero=>simp at e;subst e;show{1,_,rfl,h}|succ i=>let:=Y (i:=i) e;show this
theorem yr.set{K:Fg}{Y:Io}{H:Hp}{d:Dv}{v:V}(r:Xo K Y H d v){G:En}{J:St}(i:Nat)(h:yr K Y H G J):yr K Y H (G.set i ↑d) (J.set i ↑v):=by
 induction h generalizing i with
 |nil=>show .nil
 |bI t T=>cases i with
  |zero=>show .has r t|succ i=>show .bI (T i)
 |has h t T=>cases i with
  |zero=>show .has r t|succ i=>show .has h (T i)
theorem yr.length{K:Fg}{G:Io}{H:Hp}:∀{Y:En}{T:St},yr K G H Y T->-Y=-T:=by intro _ _ h;induction h with|nil=>rfl|bI _ ih=>rw[ik,ik,ih]|has _ _ ih=>rw[ik,ik,ih]
theorem yr.append{K:Fg}{G:Io}{H:Hp}:∀{B T:En}{J Y:St},yr K G H B J->yr K G H T Y->yr K G H (B++T) (J++Y):=by intro _ _ _ _ h r;induction h with|nil=>show r|bI t ih=>show .bI ih|has h t ih=>show .has h ih
def yr.uD{K:Fg}{Y:Io}{H:Hp}(k:Nat){σ:St}(h:-σ=k):yr K Y H ('R' k ()) σ:=by
 subst h
 induction σ with
 |nil=>show .nil|cons _ r T=>show .bI T
def yr.JR{K:Fg}{G:Io}{H:Hp}{Y:List Dv}{T:List V}(h:um K G H Y T):yr K G H (Y%some) (T%some):=by
 induction Y generalizing T with
 |nil=>cases h;show .nil|cons d Y J=>cases h with|cons h t=>show .has h (J t)
def gw{r:WR α}(h:r*>f=.ok b M):∃a Z,r=.ok a Z/\f a Z=.ok b M:=by
 cases r with
 |ok a Z=>show{2,a,Z,rfl,h}|WY=>cases h
def zb(h:WR.wg o M=.ok a Z):o\a/\Z=M:=by
 cases o with
 |none=>cases h|some x=>cases h;show(rfl,rfl)
def PE.YL(h:PE X e t)(w:∀Z H Q,t' Z H Q->t Z H Q):PE X e t':=λY s Z H Q I q=>h Y s Z H Q I (w Z H Q q)
def PT.YL(h:PT X e t)(w:∀Z H Q,t' Z H Q->t Z H Q):PT X e t':=λY s Z H Q I q=>h Y s Z H Q I (w Z H Q q)
def PA.YL(h:PA X U t)(w:∀Z H Q,t' Z H Q->t Z H Q):PA X U t':=λpos Y s Z H Q I q=>h pos Y s Z H Q I (w Z H Q q)
def PS.YL(h:PS X e t)(w:∀D Z H,t' D Z H->t D Z H):PS X e t':=λY s Z H D I q=>h Y s Z H D I (w D Z H q)
def Uv.YL(h:Uv X e t)(w:∀D Z H,t' D Z H->t D Z H):Uv X e t':=λY s Z H D I q=>h Y s Z H D I (w D Z H q)
def Gx.YL(h:Gx X f r)(w:∀x y H Q,r' x y H Q->r x y H Q):Gx X f r':=λY s G H x y v u Q I J T q=>h Y s G H x y v u Q I J T (w x y H Q q)
section
variable(nm:Nm)(W:Kh)(K:Fg)
def tE(e:Ex):TE:=λO H Q=>∃G B M d J,ql nm K G H M/\yr K G H B O/\e.WD W B M=.ok d J/\∀Y T v,Le G H Y T->ql nm K Y T J->Xo K Y T d v->Q v T
def tQ(e:Ex):TT:=λO H Q=>∃T B M b J,ql nm K T H M/\yr K T H B O/\e.WD W B M=.ok (.bl b) J/\∀Y G,Le T H Y G->ql nm K Y G J->Q b G
def aA(L:Ha):TA:=λN H Q=>∃G O M B J,ql nm K G H M/\yr K G H O N/\L.WD W O M=.ok B J/\∀Y T C,Le G H Y T->ql nm K Y T J->um K Y T B C->Q C T
def eQ(D:Ends)(O:Io)(H:Hp)(J:MW.Flow)(B:En)(M:fc):Prop:=
 ∀T G Y,Le O H T G->ql nm K T G M->yr K T G B Y ->
  match J with
  |.next=>D.nx Y G|.brk=>D.bk Y G|.cont=>D.ct Y G|.ret d=>∀v,Xo K T G d v->D.rt v G
def tS(st:Ea):TS:=λD O H=>∃T B M J Y G,ql nm K T H M/\yr K T H B O/\st.WD W B M=.ok (J,Y) G/\eQ nm K D T H J Y G
def bW(st:nq):TS:=λD O H=>∃T B M J Y G,ql nm K T H M/\yr K T H B O/\st.WD W B M=.ok (J,Y) G/\eQ nm K D T H J Y G
end
def PE.of(h:PE X a t)(w:∀σ H Q U ρ M d M',ql nm X.K U H M->yr X.K U H ρ σ->e'.WD W ρ M=.ok d M'->(∀Z H' v,Le U H Z H'->ql nm X.K Z H' M'->Xo X.K Z H' d v->Q v H')->t σ H Q):PE X a ('t' e'):=PE.YL h fun σ H Q z_=>by let(U,ρ,M,d,M',S,R,e,q):=z_;show w σ H Q U ρ M d M' S R e q
def PT.of(h:PT X a t)(w:∀σ H Q U ρ M b M',ql nm X.K U H M->yr X.K U H ρ σ->e'.WD W ρ M=.ok (.bl b) M'->(∀Z H',Le U H Z H'->ql nm X.K Z H' M'->Q b H')->t σ H Q):PT X a (tQ nm W X.K e'):=PT.YL h fun σ H Q z_=>by let(U,ρ,M,d,M',S,R,e,q):=z_;show w σ H Q U ρ M d M' S R e q
def PA.of(h:PA X es t)(w:∀σ H Q U ρ M ds M',ql nm X.K U H M->yr X.K U H ρ σ->qq.WD W ρ M=.ok ds M'->(∀Z H' vs,Le U H Z H'->ql nm X.K Z H' M'->um X.K Z H' ds vs->Q vs H')->t σ H Q):PA X es (aA nm W X.K qq):=PA.YL h fun σ H Q z_=>by let(U,ρ,M,d,M',S,R,e,q):=z_;show w σ H Q U ρ M d M' S R e q
def PS.of(h:PS X st t)(w:∀D σ H U ρ M fl Z M',ql nm X.K U H M->yr X.K U H ρ σ->s'.WD W ρ M=.ok (fl,Z) M'->eQ nm X.K D U H fl Z M'->t D σ H):PS X st (tS nm W X.K s'):=PS.YL h λD σ H z_=>by let(U,ρ,M,fl,Z,M',S,R,e,q):=z_;show w D σ H U ρ M fl Z M' S R e q
def Uv.of(h:Uv X st t)(w:∀D σ H U ρ M fl Z M',ql nm X.K U H M->yr X.K U H ρ σ->s'.WD W ρ M=.ok (fl,Z) M'->eQ nm X.K D U H fl Z M'->t D σ H):Uv X st (bW nm W X.K s'):=Uv.YL h λD σ H z_=>by let(U,ρ,M,fl,Z,M',S,R,e,q):=z_;show w D σ H U ρ M fl Z M' S R e q
def one{X:Cx}{Y:fc}(S:ql nm X.K ι H M)(R:yr X.K ι H ρ σ)(O:a'.WD W ρ M=.ok x Y)(h:∀Z U v,Le ι H Z U->ql nm X.K Z U Y->yr X.K Z U ρ σ->Xo X.K Z U x v->G v U):'t' a' σ H G:=
 {5,ι,ρ,M,x,Y,S,R,O,λT J v le B r=>h T J v le B (R.mono le) r}
theorem two{X:Cx}{B J:fc}{G:V->V->Hp->Prop}(S:ql nm X.K ι H M)(R:yr X.K ι H U σ)(Q:a'.WD W U M=.ok x B)(P:b'.WD W U B=.ok y J)(h:∀Z H2 v u,Le ι H Z H2->ql nm X.K Z H2 J->yr X.K Z H2 U σ->Xo X.K Z H2 x v->Xo X.K Z H2 y u->G v u H2) :
 't' a' σ H λv H1=>'t' b' σ H1 λu H2=>G v u H2:=
 one S R Q λC H1 v Y F E N=>one F E P λZ H2 u T O R2 L=>h Z H2 v u (Y>>T) O R2 (N.mono T) L
protected def JS(L:X.N[i]?\n)(O:dI X.env.scope n)(T:(n==("__debug__": Str))=false)(B:(n==("__classdict__": Str))=false):PE X (.Name n pos) ('t' (.ZD i)):=
 PE.of (DV L O T B) λA H Q E I M d F S R e q=>by
  rw[MW.qL]at e;split at e
  .rename_i D T
   cases e;let(v,V,P):=R.get T;show(v,V,q E H v (Le.refl _ _) S P)
  .cases e
def JT:PE X (.Constant ⇑i j pos) ('t' (.ZX ⇑i)):=
 PE.of sH λJ H Q Y G M d T S R e q=>by rw[MW.iQ]at e;cases e;show q Y H _ (Le.refl _ _) S ⇑i
def JU:PE X (.Constant (.bool i) j pos) ('t' (.ZX (.bl i))):=
 PE.of DW λJ H Q Y G M d T S R e q=>by rw[MW.iQ]at e;cases e;show q Y H _ (Le.refl _ _) S (.bl i)
def JV:PE X (.Constant .none j pos) ('t' (.ZX .XQ)):=
 PE.of DX λJ H Q Y G M d T S R e q=>by rw[MW.iQ]at e;cases e;show q Y H _ (Le.refl _ _) S .XQ
def JW(J:Gl X n)(T:X.mg n\(.int i t))(Y:(n==("__debug__": Str))=false):PE X (.Name n pos) ('t' (.ZX ⇑i)):=
 PE.of (DY (v:=⇑i) J T (t,rfl) Y) λO H Q G C M d B S R e q=>by rw[MW.iQ]at e;cases e;show q G H _ (Le.refl _ _) S ⇑i
def cP(J:Nm)(K:Fg)(f:Dv->Dv->fc->WR Dv):R2:=λv u H Q=>∃T M x y d B,ql J K T H M/\Xo K T H x v/\Xo K T H y u/\f x y M=.ok d B /\
 ∀Y G w,Le T H Y G->ql J K Y G B->Xo K Y G d w->Q w G
def Gx.of(h:Gx X f r)(w:∀v u H Q U M x y d M',ql nm X.K U H M->Xo X.K U H x v->Xo X.K U H y u->g x y M=.ok d M'->(∀Z H' w,Le U H Z H'->ql nm X.K Z H' M'->Xo X.K Z H' d w->Q w H')->r v u H Q):Gx X f (cP nm X.K g):=
 Gx.YL h λv u H Q z_=>by let(U,M,x,y,d,M',S,Y,T,e,q):=z_;show w v u H Q U M x y d M' S Y T e q
def JX(N:Gx X (binaryOp op) (cP nm X.K (MW.G6 Z)))(F:PE X a ('t' a'))(I:PE X b ('t' U)):PE X (.BinOp a op b pos) ('t' (.YG Z a' U)):=
 PE.of (FR N F I) λj H Q D z M d B S R e q=>by rw[MW.BG]at e;let(x,g,J,e):=gw e;let(y,V,O,e):=gw e;show two S R J O λG l v u le L _ E A=>{6,G,V,x,y,d,B,L,E,A,e,λY C w T P r=>q Y C w (le>>T) P r}
def JY:Gx X (binaryOp .Sub) (cP nm X.K (MW.G6 .sub)):=
 Gx.of FW λv u H Q J M x y d B S Y G e q=>by let(i,j,rfl,rfl,T):=MW.lD e (by intro z;cases z);cases Y;cases G;cases T;show{2,_,_,rfl,rfl,q J H _ (Le.refl _ _) S ⇑_}
def jK{g:Int->Int->Int}{P:Int->Int->Prop}[∀i j,Decidable (P i j)](h:Gx X (binaryOp op) r)(O:∀x y M,MW.G6 Z x y M=MW.ii x y (λi j=>if P i j then .ok ⇑(g i j) M else .WY) .WY)(w:∀i j H Q,P i j->Q ⇑(g i j) H->r ⇑i ⇑j H Q):Gx X (binaryOp op) (cP nm X.K (MW.G6 Z)):=
 Gx.of h λv u H Q B M x y d C S G J e q=>by
  rw[O]at e;let(i,j,rfl,rfl,Y):=MW.lD e (by intro z;cases z)
  by_cases T:P i j
  .rw[dm T]at Y
   cases G;cases J;cases Y;show w i j H Q T (q B H _ (Le.refl _ _) S ⇑_)
  .rw[cz T]at Y;cases Y
def J_:Gx X (binaryOp .Mod) (cP nm X.K (MW.G6 ._l)):=jK FZ (λ_ _ _=>rfl) λi j H Q h q=>{2,_,_,rfl,rfl,h,q}
def Jn:Gx X (binaryOp .FloorDiv) (cP nm X.K (MW.G6 .fdiv)):=jK FY (λ_ _ _=>rfl) λi j H Q h q=>{2,_,_,rfl,rfl,h,q}
def KA:Gx X (binaryOp .Pow) (cP nm X.K (MW.G6 .pow)):=jK F_ (λ_ _ _=>rfl) λi j H Q h q=>{2,_,_,rfl,rfl,(h.1,by omega,h.2.2),q}
protected def wz{X:Cx}(S:ql nm X.K Z H M)(r:Xo X.K Z H d v)(h:MW.gr M d\ds):∃p vs,v=↥p/\H p\(.WK vs)/\um X.K Z H ds vs:=by
 cases r with
 |vl e n r=>simp[MW.gr]at h;subst h;show{2,_,_,rfl,e,r}
 |ref e =>
  rename_i n p;erw[MW.gr]at h;split at h<;>simp at h;rename_i T B;subst h;let(vs,N,O):=S.XR n _ p B e;show{2,p,vs,rfl,N,O}
 |_=>simp[MW.gr]at h
def Pj{X:Cx}(S:ql nm X.K Z H M)(r:Xo X.K Z H d v)(h:MW.Cm M d\ds):∃p vs,v=↥p/\(H p\(.WK vs)\/H p\(.WL vs))/\um X.K Z H ds vs:=by
 cases r with
 |WL e r=>simp[MW.Cm]at h;subst h;show{2,_,_,rfl,.inr e,r}
 |vl e n r =>
  let(p,vs,Y,G,T):=wz S (.vl e n r) (show MW.gr M _=_ from h);show{2,p,vs,Y,.inl G,T}
 |ref e =>
  let(p,vs,Y,G,T):=wz S ↥e (show MW.gr M _=_ from h);show{2,p,vs,Y,.inl G,T}
 |_=>simp[MW.Cm,MW.gr]at h
def gW{X:Cx}(S:ql nm X.K Z H M)(Y:H p=())(r:um X.K Z H ds U):ql nm X.K Z (XD H p (.WK U)) M/\Le Z H Z (XD H p (.WK U))/\Xo X.K Z (XD H p (.WK U)) (.vl ds) ↥p:=by let(T,le):=S.laid Y (.WK U);show(T,le,.vl z8 (S.fresh Y) (r.mono le))
def Ks{X:Cx}(S:ql nm X.K Z H M)(Y:H p=())(r:um X.K Z H ds U):ql nm X.K Z (XD H p (.WL U)) M/\Le Z H Z (XD H p (.WL U))/\Xo X.K Z (XD H p (.WL U)) (.WL ds) ↥p:=by let(T,le):=S.laid Y (.WL U);show(T,le,.WL z8 (r.mono le))
def mi{X:Cx}(S:ql nm X.K Z H M)(Y:H p=())(r:um X.K Z H ds U):ql nm X.K (Z.XS p) (XD H p (.WK U)) (M++[.WK ds])/\Le Z H (Z.XS p) (XD H p (.WK U))/\Xo X.K (Z.XS p) (XD H p (.WK U)) ↥(-M) ↥p:=by
 let(T,le):=S.new (H':=XD H p (.WK U)) (o:=.WK ds) Y (λa u e=>by rw[qp (ug e Y)];show e) λle=>(U,z8,r.mono le)
 show(T,le,↥(by change(Z.l++[p])[M.length]?\p;rw[<-S.len];simp))
def mn:(100000:Nat)<=sizeLine:=by decide
protected def KC(h:MW.G6 .XS x y M=.ok d M'):(∃i j,x=⇑i/\y=⇑j/\d=⇑(i+j)/\M'=M) \/
 (∃Z Y,x=.WL Z/\y=.WL Y/\-Z+-Y<=100000/\d=.WL (Z++Y)/\M'=M) \/
 ∃Z Y,MW.gr M x\Z/\MW.gr M y\Y/\-Z+-Y<=100000/\d=.vl (Z++Y)/\M'=M:=by
 let h:MW.lC x y M=.ok d M':=h;unfold MW.lC at h;split at h<;>try cases h
 .exact .inl {2,_,_,rfl,rfl,rfl,rfl}
 .split at h<;>cases h
  rename_i T;show .inr (.inl {2,_,_,rfl,rfl,T,rfl,rfl})
 .split at h
  .split at h<;>cases h
   rename_i N O B;show .inr (.inr {2,_,_,N,O,B,rfl,rfl})
  .cases h
def KD:Gx X (binaryOp .Mult) (cP nm X.K (MW.G6 .mul)):=jK FX (λ_ _ _=>rfl) λi j H Q h q=>{2,_,_,rfl,rfl,h,q}
def KG:Gx X (binaryOp .Add) (cP nm X.K (MW.G6 .XS)):=
 Gx.of (FV.or (JD.or IJ)) λv u H Q O M x y d I S R A e q=>by
  let G:∀J B,MW.gr M x\J->MW.gr M y\B->-J+-B<=100000->d=.vl (J++B)->I=M->tX v u H Q:=λJ B P W C D hm=>by
   subst D hm;let(p,U,rfl,N,Y):=wz S R P;let(p2,E,rfl,L,T):=wz S A W;show{4,p,p2,U,E,rfl,rfl,N,L,?_,λp3 V=>?_}
   .rw[<--Y,<--T];show gh C mn
   .let(a,b,c):=gW S V (Y.append T)
    show q O _ _ b a c
  rcases KC e with⟨i,j,rfl,rfl,rfl,rfl⟩|⟨J,B,rfl,rfl,C,rfl,rfl⟩|⟨J,B,P,W,C,V,h4⟩
  .cases R;cases A
   show .inl {2,_,_,rfl,rfl,q O H _ (Le.refl _ _) S ⇑_}
  .cases R with
   |WL N Y =>
    cases A with
    |WL L T =>
     show .inr (.inr (_,_,_,_,rfl,rfl,Oe.of N,Oe.of L,?_,λF=>?_,λF=>?_,λp Z=>?_))
     .rw[<--Y,<--T];show gh C mn
     .let:=-Y
      rw[F]at this;rw[uq<*this,yp]at q;show q O H _ (Le.refl _ _) S (.WL L T)
     .let:=-T
      rw[F]at this;rw[uq<*this,De]at q;show q O H _ (Le.refl _ _) S (.WL N Y)
     .let(a,b,c):=Ks S Z (Y.append T)
      show q O _ _ b a c
  .exact .inr (.inl (G _ _ P W C V h4))
def jL{t:TE}(h:PT X a (λZ H Q=>t Z H λx H1=>∃c,x=.bl c/\Q c H1))(w:∀Z H Q,'t' U Z H Q->t Z H Q):PT X a (tQ nm W X.K U):=
 PT.of h λZ H Q J G M b T S R e q=>w Z H _ {5,J,G,M,_,T,S,R,e,λY B v le O r=>by cases r;show(b,rfl,q Y B le O)}
def KI(h:PE X a ('t' U))(Y:∀Z,isTrue a X.env Z=(do let v<-Z;standAt a.pos;holding [v] (truthy v))):PT X a (tQ nm W X.K U):=
 jL (D0 h Y) λ_ _ _ q=>q
def aE(T:Nm)(K:Fg)(G:Cp):R2:=λv u H Q=>∃Y M x y b,ql T K Y H M/\Xo K Y H x v/\Xo K Y H y u/\MW.Mp G x y M\b/\Q (.bl b) H
def uE{X:Cx}:∀U H Q,'t' (.XX Z a' b') U H Q->fJ (aE nm X.K Z) ('t' a') ('t' b') U H Q:=λU H Q N=>by
 symm
 let(F,P,M,d,J,S,R,e,q):=N;rw[MW.BI]at e;let(x,A,G,e):=gw e;let(y,V,O,e):=gw e;let(e,rfl):=zb e;let(b,L,rfl):=dg<*e;left;show two S R G O λY E v u le T _ B C=>{5,Y,J,x,y,b,T,B,C,L,q Y E _ le T (.bl b)}
def KJ(G:Gx X (compareOp op) (aE nm X.K Z))(J:PE X a ('t' U))(T:PE X b ('t' b'))(Y:behindInMarks op b=false):PE X (.Compare a [op] [b] pos) ('t' (.XX Z U b')):=
 PE.YL (F5 G J T Y) uE
def KL(G:Gx X (compareOp op) (aE nm X.K Z))(J:PE X a ('t' U))(T:PE X b ('t' b'))(Y:behindInMarks op b=false):PT X (.Compare a [op] [b] pos) (tQ nm W X.K (.XX Z U b')):=
 jL (t:=fJ (aE nm X.K Z) ('t' U) ('t' b')) (F6 G J T Y) uE
def uF{X:Cx}:∀Z H Q,'t' (.ZG fR eR a' b' U) Z H Q->jF (aE nm X.K fR) (aE nm X.K eR) ('t' a') ('t' b') ('t' U) Z H Q:=λZ H Q hh=>by
 symm
 let(ι,A,M,d,M',S,R,e,q):=hh;rw[MW.BJ]at e;let(x,M1,P,e):=gw e;let(y,M2,V,e):=gw e;let(k,Y,B,e):=gw e;let(B,rfl):=zb B;left;show two S R P V λG E v u le O R2 F L=>{5,G,Y,x,y,k,O,F,L,B,(k,rfl,?_)}
 cases k with
 |false =>
  let e:WR.ok (MW.D.bl false) Y=.ok d M':=e;cases e;show q G E _ le O (.bl false)
 |true =>
  symm
  let e:(U.WD W A Y*>λz C=>WR.wg (MW.Mp eR y z C%MW.D.bl) C)=.ok d M':=e;let(z,C,e4,e):=gw e;let(e,rfl):=zb e;let(b,e5,rfl):=dg<*e;left;change 't' U Z E _;show one O R2 e4 λJ I w T N _ rw=>{5,J,M',y,z,b,N,L.mono T,rw,e5,q J I _ (le>>T) N (.bl b)}
def KN(O:Gx X (compareOp U) (aE nm X.K fR))(G:Gx X (compareOp Z) (aE nm X.K eR))(B:PE X a ('t' a'))(J:PE X b ('t' b'))(T:PE X c ('t' c'))(Y:lastMarks [U,Z] [b,c]=false) :
 PE X (.Compare a [U,Z] [b,c] pos) ('t' (.ZG fR eR a' b' c')):=PE.YL (F7 O G B J T Y) uF
def KO(O:Gx X (compareOp o1) (aE nm X.K fR))(G:Gx X (compareOp U) (aE nm X.K eR))(B:PE X a ('t' Z))(J:PE X b ('t' b'))(T:PE X c ('t' c'))(Y:lastMarks [o1,U] [b,c]=false) :
 PT X (.Compare a [o1,U] [b,c] pos) (tQ nm W X.K (.ZG fR eR Z b' c')):=jL (t:=jF (aE nm X.K fR) (aE nm X.K eR) ('t' Z) ('t' b') ('t' c')) (F8 O G B J T Y) uF
def jM(h:Gx X (compareOp op) (ck λi j=>.bl (f i j)))(e:∀x y M,MW.Mp Z x y M=MW.gE f x y):Gx X (compareOp op) (aE nm X.K Z):=
 Gx.YL h λv u H Q B=>by
  symm
  let(O,M,x,y,b,S,T,J,Y,q):=B;rw[e]at Y;let(i,j,rfl,rfl,G):=MW.lD Y (by intro z;cases z);cases T;cases J;cases G;left;show{2,_,_,rfl,rfl,q}
def KP:Gx X (compareOp .Lt) (aE nm X.K .lt):=jM F1 λ_ _ _=>rfl
def KQ:Gx X (compareOp .LtE) (aE nm X.K .le):=jM F2 λ_ _ _=>rfl
def KR:Gx X (compareOp .Gt) (aE nm X.K .gt):=jM F3 λ_ _ _=>rfl
def KS:Gx X (compareOp .GtE) (aE nm X.K .ge):=jM F4 λ_ _ _=>rfl
protected def uG{T:Y3}(A:PE X a ('t' Y))(D:PE X (.BoolOp .And (b::T) pos) ('t' Z)):PE X (.BoolOp .And (a::b::T) pos) ('t' (.and Y Z)):=
 PE.of (EE A D) λu H Q U C M d J S R e q=>by
  rw[MW.qM]at e;let(x,y,L,e):=gw e;show one S R L λB P v le N F r=>?_
  cases r<;>try cases e
  rename_i k;show(k,rfl,?_);cases k with
  |false=>cases e;show q B P _ le N (.bl false)|true=>show one N F e λO G w V E _ I=>q O G w (le>>V) E I
protected def uH{T:Y3}(A:PE X a ('t' Y))(D:PE X (.BoolOp .Or (b::T) pos) ('t' Z)):PE X (.BoolOp .Or (a::b::T) pos) ('t' (.or Y Z)):=
 PE.of (EI A D) λu H Q U C M d J S R e q=>by
  rw[MW.qN]at e;let(x,y,L,e):=gw e;show one S R L λB P v le N F r=>?_
  cases r<;>try cases e
  rename_i k;show(k,rfl,?_);cases k with
  |true=>cases e;show q B P _ le N (.bl true)|false=>show one N F e λO G w V E _ I=>q O G w (le>>V) E I
def KU(J:PE X a ('t' Z)):PE X (.UnaryOp .Not a pos) ('t' (.not Z)):=
 PE.of (EJ J) λC H Q L N M d O S R e q=>by
  rw[MW.qO]at e;let(x,E,T,e):=gw e;show one S R T λY G v le B P r=>?_
  cases r<;>try cases e
  show(_,rfl,q Y G _ le B (.bl _))
def cQ{X:Cx}{Y:fc}(S:ql nm X.K ι H M)(R:yr X.K ι H ρ σ)(O:a'.WD W ρ M=.ok (.bl k) Y)(h:∀Z U,Le ι H Z U->ql nm X.K Z U Y->yr X.K Z U ρ σ->G k U):tQ nm W X.K a' σ H G:=
 {5,ι,ρ,M,k,Y,S,R,O,λT J le B=>h T J le B (R.mono le)}
protected def uI{rest:Y3}(Y:PT X a (tQ nm W X.K G))(J:PW X (.BoolOp .And (b::rest) pos) (tQ nm W X.K Z)):PW X (.BoolOp .And (a::b::rest) pos) (tQ nm W X.K (.and G Z)):=
 λT B s D H Q I z=>D6 Y J T B s D H Q I (by
  symm
  let(y,u,M,d,C,S,R,e,q):=z;rw[MW.qM]at e;let(x,M1,E,e):=gw e;left;cases x<;>try cases e
  rename_i k;show cQ S R E λO V le L A=>?_
  cases k with
  | false=>cases e;show q O V le L|true=>show cQ L A e λN U F P _=>q N U (le>>F) P)
protected def uJ{rest:Y3}(Y:PT X a (tQ nm W X.K G))(J:PW X (.BoolOp .Or (b::rest) pos) (tQ nm W X.K Z)):PW X (.BoolOp .Or (a::b::rest) pos) (tQ nm W X.K (.or G Z)):=
 λT B s D H Q I z=>D7 Y J T B s D H Q I (by
  symm
  let(y,u,M,d,C,S,R,e,q):=z;rw[MW.qN]at e;let(x,M1,E,e):=gw e;left;cases x<;>try cases e
  rename_i k;show cQ S R E λO V le L A=>?_
  cases k with
  | true=>cases e;show q O V le L|false=>show cQ L A e λN U F P _=>q N U (le>>F) P)
def KW(J:PT X a (tQ nm W X.K Z)):PT X (.UnaryOp .Not a pos) (tQ nm W X.K (.not Z)):=
 PT.of (D8 J) λC H Q L N M d O S R e q=>by
  rw[MW.qO]at e;let(x,E,T,e):=gw e;cases x<;>try cases e
  show cQ S R T λY G le B P=>q Y G le B
protected def KY(A:PT X c (tQ nm W X.K Z))(I:PE X a ('t' G))(D:PE X b ('t' Y)):PE X (.IfExp c a b pos) ('t' (.ite Z G Y)):=
 PE.of (EN A I D) fun σ H Q U y M d J S R e q=>by
  rw[MW.BK]at e;let(x,u,V,e):=gw e;cases x<;>try cases e
  rename_i k;show cQ S R V λF C le P E=>?_
  cases k with
  |true=>show one P E e λT L w O B _ N=>q T L w (le>>O) B N
  |false=>show one P E e λT L w O B _ N=>q T L w (le>>O) B N
def Zx:PA X [] (aA nm W X.K .nil):=PA.of GU λG H Q Y B M J T S R e q=>by rw[MW.Rv]at e;cases e;show q Y H _ (Le.refl _ _) S .nil
def cC{X:Cx}{M1:fc}(S:ql nm X.K ι H M)(R:yr X.K ι H ρ σ)(B:es'.WD W ρ M=.ok ds M1)(h:∀Z U vs,Le ι H Z U->ql nm X.K Z U M1->yr X.K Z U ρ σ->um X.K Z U ds vs->G vs U):aA nm W X.K es' σ H G:=
 {5,ι,ρ,M,ds,M1,S,R,B,λY T v le J r=>h Y T v le J (R.mono le) r}
def T7(V:PE X a ('t' a'))(E:PA X Z (aA nm W X.K U))(B:starEach (a::Z) X.env=(false,eval a X.env)::starEach Z X.env):PA X (a::Z) (aA nm W X.K (.cons a' U)):=
 PA.of (GV V E B) fun σ H Q ι ρ M ds I S R e q=>by
  rw[MW.Ij]at e;symm
  let(x,M1,G,e):=gw e;let(xs,M2,O,e):=gw e;cases e;left;show one S R G λJ H1 v le L N P=>cC L N O λY A D T C R2 F=>q Y A _ (le>>T) C (.cons (P.mono T) F)
def Ha.len:Ha->Nat
 |.nil=>0|.cons _ r=>Ha.len r+1
theorem Pk{W:Kh}:∀{Y:Ha}{B:En}{M G:fc}{T:List Dv},Y.WD W B M=.ok T G->-T=Ha.len Y
 |.nil,_,_,_,_,e=>by rw[MW.Rv]at e;cases e;rfl
 |.cons _ r,_,_,_,_,e=>by
  rw[MW.Ij]at e;symm
  let(x,G,O,e):=gw e;let(N,C,J,e):=gw e;cases e;left;rw[ik,Pk J];rfl
def KZ(h:PA X U (aA nm W X.K Z))(O:Ha.len Z<=1000):PE X (.Tuple U k pos) ('t' (.WL Z)):=
 PE.of (GY h) λD H Q P F M d L S R e q=>by
  rw[MW.BL]at e;let(ds,A,T,e):=gw e;cases e;show cC S R T λY V E le C I r=>(?_,λp G=>?_)
  .rw[<--r,Pk T];show gh O ⋯
  .let(J,B,N):=Ks C G r
   show q Y _ _ (le>>B) J N
def K_(h:PA X U (aA nm W X.K Z))(O:Ha.len Z<=1000):PE X (.List U pos) ('t' (.Gk Z)):=
 PE.of (sX h) λD H Q P F M d L S R e q=>by
  rw[MW.BN]at e;let(ds,A,T,e):=gw e;cases e;show cC S R T λY V E le C I r=>(?_,λp G=>?_)
  .rw[<--r,Pk T];show gh O ⋯
  .let(J,B,N):=gW C G r
   show q Y _ _ (le>>B) J N
def Kb(h:PA X U (aA nm W X.K Z))(O:Ha.len Z<=1000):PE X (.List U pos) ('t' (.WK Z)):=
 PE.of (sX h) λD H Q P F M d L S R e q=>by
  rw[MW.BM]at e;let(ds,A,Y,e):=gw e;cases e;show cC S R Y λT V E le C I r=>(?_,λp G=>?_)
  .rw[<--r,Pk Y];show gh O ⋯
  .let(J,B,N):=mi C G r
   show q _ _ _ (le>>B) J N
def Ki(J:PE X a ('t' Z)):PE X (.UnaryOp .USub a pos) ('t' (.neg Z)):=
 PE.of (sO sS J) λC H Q L N M d O S R e q=>by
  rw[MW.BH]at e;let(x,E,T,e):=gw e;show one S R T λY G v le B P r=>?_
  cases r<;>try cases e
  show(_,rfl,q Y G _ le B ⇑_)
open PyProof.Rows (subscriptTail)
section
variable{κ:Type}[DecidableEq κ]{K:Fg}{ι:Io}{H:Hp}
theorem yq.length{κ Y:Type}{f:κ->Y->Prop}{l:List (κ×Dv)}{T:List (Y×V)}(h:yq K ι H f l T):-l=-T:=by
 induction h with
 |nil=>rfl|cons _ _ t G=>rw[ik,ik,G]
def yq.YD{k:κ}{T:List (κ×Dv)}{l:List (κ×V)}(h:yq K ι H (λk Z=>k=Z) T l):(∀d,MW.Am T k\d->∃v,Ux l k\v/\Xo K ι H d v)/\(MW.Am T k=()->Ux l k=()):=by
 induction h with
 |nil=>show(λd h=>by simp[MW.Am]at h,λ_=>rfl)
 |@cons q _ _ _ _ _ hk h t ih =>
  subst hk;let(a,b):=ih
  by_cases e:q=k
  .refine(λd Y=>?_,λY=>?_)
   .simp[MW.Am,vq,e]at Y
    subst Y;show(_,Xb e,h)
   .simp[MW.Am,vq,e]at Y
  .let z:∀(d:Dv) r,MW.Am ((q,d)::r) k=MW.Am r k:=λd r=>by simp[MW.Am,vq,e]
   rw[z,Xc (by show e)];show(a,b)
theorem yq.any{k:κ}:∀{Y:List (κ×Dv)}{l:List (κ×V)},yq K ι H (λk U=>k=U) Y l->(Y.any λZ=>decide (Z.1=k))=(l.any λZ=>decide (Z.1=k))
 |_,_,.nil=>rfl|_,_,.cons hk h t=>by subst hk;erw[List.any_cons,yq.any t]
theorem yq.Mf{k:κ}{d:Dv}{v:V}(r:Xo K ι H d v):∀{Y:List (κ×Dv)}{l:List (κ×V)},yq K ι H (λk U=>k=U) Y l ->
 yq K ι H (λk U=>k=U) (Y%λZ=>if Z.1=k then(Z.1,d)else Z) (l%λZ=>if Z.1=k then(Z.1,v)else Z)
 |_,_,.nil=>.nil
 |_,_,.cons (k:=q) hk h t=>by
  subst hk;erw[gm]
  by_cases e:q=k
  .erw[e,my];show .cons rfl r (yq.Mf r t)
  .erw[e,jt];show .cons rfl h (yq.Mf r t)
def yq.snoc{κ Y:Type}{f:κ->Y->Prop}{k:κ}{T:Y}{d:Dv}{v:V}(J:f k T)(r:Xo K ι H d v){l:List (κ×Dv)}{G:List (Y×V)}(h:yq K ι H f l G):yq K ι H f (l++[(k,d)]) (G++[(T,v)]):=by
 induction h with
 |nil=>show .cons J r .nil|cons q h t B=>show .cons q h B
def yq.put{k:κ}(r:Xo K ι H d v)(t:yq K ι H (λk Z=>k=Z) U l):yq K ι H (λk Z=>k=Z) (MW.Fw U k d) (ZW l k v):=by
 unfold MW.Fw ZW;rw[t.any (k:=k)]
 by_cases e:(l.any λY=>decide (Y.1=k))=true
 .rw[dm e,dm e];show t.Mf r
 .rw[cz e,cz e];show t.snoc rfl r
theorem yq.ZL{nm:Nm}{f:Nat}{fs:List (Nat×Dv)}{l:List (Str×V)}(h:yq K ι H (λk Z=>Z=nm.ZL k) fs l):(∀d,(fs/f)\d->∃v,(l/(nm.ZL f))\v/\Xo K ι H d v)/\(fs/f=()->l/(nm.ZL f)=()):=by
 induction h with
 |nil=>show(λd h=>by simp at h,λ_=>rfl)
 |@cons q _ _ _ _ _ hk h t ih =>
  subst hk;let(a,b):=ih;rw[ud,ud]
  by_cases e:f=q
  .subst e
   erw[Ci];show(λd Y=>by cases Y;show(_,rfl,h),λY=>by cases Y)
  .let G:(f==q)=false:='s' e
   let T:(nm.ZL f==nm.ZL q)=false:=by
    cases z:nm.ZL f==nm.ZL q with
    |false=>rfl|true=>show absurd (nm.inj _ _ (eq_of_beq z)) e
   rw[G,T];show(a,b)
theorem yq.Mq{Y:Nm}{f:Nat}{d:Dv}{v:V}(r:Xo K ι H d v):∀{fs:List (Nat×Dv)}{l:List (Str×V)},yq K ι H (λk Z=>Z=Y.ZL k) fs l->yq K ι H (λk Z=>Z=Y.ZL k) (MW.Zd f d fs) (L2.Mq (Y.ZL f) v l)
 |_,_,.nil=>.cons rfl r .nil
 |_,_,.cons (k:=q) (k':=q') hk h t=>by
  subst hk;unfold MW.Zd L2.Mq
  by_cases e:q=f
  .subst e
   erw[my];show .cons rfl r t
  .let T:¬Y.ZL q=Y.ZL f:=λz=>e (Y.inj _ _ z)
   rw[cz e,cz T];show .cons rfl h (yq.Mq r t)
def gX(r:Xo K ι H d v)(h:MW.Z8 d\k):v=kV k:=by cases r<;>simp[MW.Z8]at h<;>subst h<;>rfl
def Kj{Y:List Dv}{G:List V}{T:List Kx}(a:um K ι H Y G)(h:MW.cV Y\T):G=T%kV:=by
 induction Y generalizing G T with
 |nil=>cases a;simp[MW.cV]at h;subst h;rfl
 |cons d Y J =>
  cases a with
  |cons r t =>
   erw[MW.cV]at h;split at h
   .rename_i O B
    cases h;rw[gX r O,J t B];rfl
   .cases h
def gY(r:Xo K ι H d v)(h:MW.Ut d\Z):∃b,v=↥b/\H b\(.WL (Z%kV)):=by
 cases r with
 |WL e r=>show(_,rfl,by rw[<-Kj r h];show e)|_=>simp[MW.Ut]at h
end
def Kk(T:Nm)(K:Fg):R2:=λv u H Q=>∃Y M x y d,ql T K Y H M/\Xo K Y H x v/\Xo K Y H y u/\MW.Ax x y M\d/\∀w,Xo K Y H d w->Q w H
def uK(O:X.A.units+1<cLine):gR X (λx y H Q=>∃a v,x=↥a/\Rm H a y ↑v/\Q v H):=by
 intro T Y G s L H x y v u Q I N J h B;symm
 let(p,z,rfl,g,q):=h;cases N;left;show PyProof.Rows.tail_any (HP I g) PySem.F.slot_dict_getitem.lookup (HM O I g J λP E C r=>(z,H,C,r,q)) B
protected def Kn(hu:X.A.units+1<cLine):gR X (Kk nm X.K):=by
 intro T B O s Y H v u D Z Q I rv ru z hs;symm
 let(ι,M,x,y,d,S,rx,W,e,q):=z;let E:∀(p:Addr)(L:List V)(U:List Dv),v=↥p->(Kp X.K H p L\/Oe X.K H p L)->um X.K ι H U L->(match y with|⇑i=>MW.cG (-U) i*>λj=>U[j]?|_=>())\d ->
  'q' (subscriptTail T B D Z) (EP X O Y Q) X.xe s:=λp L U hv J r e=>by
  subst hv;obtain⟨i,qq⟩:∃i,y=⇑i:=by cases y<;>first|show(_,rfl)|cases e
  subst qq;cases W;let(j,N,F):=ir<*e;let(z,R,P):=r.get F;let C:dD L i\z:=by unfold dD;rw[show fO (-L) i\j from by rw[<--r];show N];show R
  rcases J with J|J
  .exact L2.Et T B O s Y H _ _ D Z Q I rv ru {4,p,L,i,z,rfl,rfl,J,C,q z P} hs
  .exact L2.Ik T B O s Y H _ _ D Z Q I rv ru {4,p,L,i,z,rfl,rfl,J,C,q z P} hs
 left;cases rx with
 |WL N G=>show E _ _ _ rfl (.inr (Oe.of N)) G (by cases W<;>first|show e|(simp[MW.Ax,MW.Cm]at e))
 |vl N n1 G=>show E _ _ _ rfl (.inl (Kp.of N)) G (by cases W<;>first|show e|(simp[MW.Ax,MW.Cm,MW.gr]at e))
 |fz N G=>show E _ _ _ rfl (.inl N.sq) G (by cases W<;>first|show e|(simp[MW.Ax]at e))
 |ref N =>
  rename_i n p;erw[MW.Ax]at e;split at e
  .rename_i jo hn
   symm
   let(l,R,P):=S.XR n _ p hn N;let(k,F,e3):=ir<*e;let(z,h3,h4):=(P.YD (k:=k)).1 d e3;let(b,rfl,hb):=gY W F;left;show uK hu T B O s Y H _ _ D Z Q I rv ru {2,p,z,rfl,by rw[<-h3];show Rm.t R hb,q z h4} hs
  .rename_i jo hn
   symm
   let(l,R,P):=S.XR n _ p hn N;let(k,F,e3):=ir<*e;let(z,h3,h4):=(P.YD (k:=k)).1 d e3;let hy:=gX W F;subst hy;left;show uK hu T B O s Y H _ _ D Z Q I rv ru {2,p,z,rfl,by rw[<-h3];show Rm.k R,q z h4} hs
  .cases hl:MW.gr M ↥n with
   |none=>rw[hl]at e;cases e
   |some U =>
    symm
    let(p',L,hp,R,P):=wz S ↥N hl;cases hp;rw[hl]at e;left;show E _ _ _ rfl (.inl (Kp.of R)) P (by cases W<;>first|show e|cases e)
 |_=>simp[MW.Ax,MW.Cm,MW.gr]at e
def Kt(C:X.A.units+1<cLine)(L:PE X a ('t' U))(P:PE X b ('t' Z))(B:mU b):PE X (.Subscript a b pos) ('t' (.ix U Z)):=
 PE.of (IK (Kn (nm:=nm) C) L P B) λz H Q F I M d J S R e q=>by
  rw[MW.BQ]at e;symm
  let(x,D,G,e):=gw e;let(y,g,O,e):=gw e;let(e,rfl):=zb e;left;show two S R G O λY V v u le T _ N E=>{5,Y,J,x,y,d,T,N,E,e,λw r=>q Y V w le T r}
def K0(hn:n=nm.ZL f)(G:∀c C,nm.cls c\C->bE X.K C/\Og X.K C n)(A:PE X a ('t' Z))(hb:attributeBase a n X.env (eval a X.env)=eval a X.env):PE X (.Attribute a n pos) ('t' (.ZL Z f)):=
 PE.of (GO A hb) fun σ H Q ι ρ M d M' S R e q=>by
  rw[MW.BU]at e;symm
  let(x,M1,B,e):=gw e;let(e,rfl):=zb e;left;show one S R B λY L v le J R1 r=>?_
  obtain⟨m,T⟩:∃m,x=↥m:=by cases x<;>first|show(_,rfl)|cases e
  subst T;obtain⟨p,rfl,O⟩:∃p,v=↥p/\Y.l[m]?\p:=by cases r with|ref z=>show(_,rfl,z)
  erw[MW.Wl]at e;split at e
  .rename_i c fs U
   symm
   let(C,V,l,N,F,P):=J.XR m _ p U O;let(z,I,h5):=(P.ZL (nm:=nm) (f:=f)).1 d e;subst hn;let(D,E):=G c C N;left;show{5,p,C,V,l,z,rfl,F,D,E,I,q Y L z le J h5}
  .cases e
open MW (Ex Ha ag Qz Ea nq Lv Tg WR fc MO Kh Cp bJ bD Bm Kx XN)
def Vv:Expr->Bool
 |.ListComp ..=>false|.SetComp ..=>false|.DictComp ..=>false|_=>true
def T8(h:Vv e=true)(t:Option Expr)(l:Nat)(Y:Env):swapsWith e t l Y=pure false:=by cases e<;>first|rfl|(cases h)
def Ka:Expr->Bool
 |.Set ..=>false|_=>true
def Ht(h:Ka e=true)(Y:Env)(x:Value):foldedSetIterable e Y x=pure x:=by cases e<;>first|rfl|(cases h)
def Zy(h:Ka e=true)(Y:CmpOp):behindInMarks Y e=false:=by cases e<;>first|rfl|(cases h)
def uL:Expr->Bool
 |.Tuple ..=>false|_=>true
def X_:Expr->Bool
 |.Starred ..=>false|_=>true
def o6(h:X_ e=true)(Y:Y3)(env:Env):starEach (e::Y) env=(false,eval e env)::starEach Y env:=by cases e<;>first|rfl|(cases h)
def mr:Expr->Bool
 |.Slice ..=>false|_=>true
def K2(h:mr e=true):mU e:=by intro o i;cases e<;>first|rfl|(cases h)
def Ez:Tg->List Nat
 |.name i=>[i]|.names is=>is
def bF(O:Nm)(K:Fg)(t:Tg):TG:=λv J H Q=>∃G B M d T,ql O K G H M/\yr K G H B J/\Xo K G H d v/\t.put d B\T/\∀Y,yr K G H T Y->-Y=-J->(∀j,j∉Ez t->Y[j]?=J[j]?)->Q Y H
def PG.YL(h:PG X tg t)(w:∀v Z H Q,t' v Z H Q->t v Z H Q):PG X tg t':=λY s Z H v u Q I r q=>h Y s Z H v u Q I r (w v Z H Q q)
def PG.of(h:PG X tg t)(w:∀v σ H Q ι ρ M d U,ql nm X.K ι H M->yr X.K ι H ρ σ->Xo X.K ι H d v->tt.put d ρ\U->(∀Z,yr X.K ι H U Z->-Z=-σ->(∀j,j∉Ez tt->Z[j]?=σ[j]?)->Q Z H)->t v σ H Q):PG X tg (bF nm X.K tt):=
 PG.YL h λv σ H Q z_=>by let(ι,ρ,M,d,U,S,R,r,e,q):=z_;show w v σ H Q ι ρ M d U S R r e q
def LA(G:X.N.Nodup)(T:X.N[i]?\n)(O:Loc X.env.scope n)(B:X.fn n=true\/(X.env.scope.names/n)\.local):PG X (.Name n pos) (bF nm X.K (.name i)):=
 PG.of (mI G T O B) λv C H Q E L M d Y S R r e q=>by cases e;show q _ (R.set r i) 'b' λj J=>ye (λz=>J (by simp[Ez,z]))
def Qp:List Nat->List V->St->St
 |i::is,v::vs,σ=>Qp is vs (σ.set i ↑v)|_,_,σ=>σ
theorem Vw{Y:Io}{H:Hp}{K:Fg}:∀{is:Y2}{G:List Dv}{B:List V}{J:En}{T:St},yr K Y H J T->um K Y H G B->yr K Y H (MW.P0 is G J) (Qp is B T)
 |[],_,_,_,_,R,r=>by cases r<;>show R|_::_,_,_,_,_,R,.nil=>R|i::is,_,_,_,_,R,.cons h t=>Vw (is:=is) (R.set h i) t
theorem Qq:∀{is:Y2}{T:List V}{Y:St}{j:Nat},j∉is->(Qp is T Y)[j]?=Y[j]?
 |[],T,Y,j,_=>by cases T<;>rfl|i::is,[],Y,j,_=>rfl
 |i::is,v::T,Y,j,h=>by
  change(Qp is T (Y.set i ↑v))[j]?=_;rw[Qq (λz=>h (bw _ z)),ye (λz=>h (by rw[z];show dw))]
theorem T9:∀{is:Y2}{T:List V}{Y:St},-Qp is T Y=-Y
 |[],T,Y=>by cases T<;>rfl|_::_,[],Y=>rfl|i::is,v::T,Y=>by change-(Qp is T (Y.set i ↑v))=_;rw[T9,uh]
inductive Qs(X:Cx):List Expr->List Nat->Prop
 |nil:Qs X [] []
 |cons {n:Str} {p:Pos} {i:Nat} {ts:Y3} {is:Y2} (hi:X.N[i]?\n) (hx:Loc X.env.scope n) (hf:X.fn n=true\/(X.env.scope.names/n)\.local) (t:Qs X ts is):Qs X (.Name n p::ts) (i::is)
def uM{X:Cx}(L:X.N.Nodup){B:Y3}{is:Y2}(h:Qs X B is):fH X B (λZ U H Q=>-Z=-is/\Q (Qp is Z U) H):=by
 induction h with
 |nil =>
  intro Y s U H Z J Q I r q;let(T,G):=q;cases uq<*T;show E6 Y s U H [] J Q I r (rfl,G)
 |cons O P E t C =>
  intro Y s U H Z J Q I r q;let(T,G):=q;cases Z with
  |nil=>simp at T|cons v Z=>show E7 (mI L O P E) C (by rfl) Y s U H (v::Z) J Q I r {2,v,Z,rfl,('s' T,G)}
theorem Fi{X:Cx}{env:Env}:∀{Y:Y3}{is:Y2},Qs X Y is->-(assignEach Y env)=-is/\(assignEach Y env).findIdx? (·.1)=()
 |_,_,.nil=>(rfl,rfl)
 |_,_,.cons hi hx hf t=>by
  let(G,T):=Fi (env:=env) t;show(by simp[assignEach,G],?_);simp[assignEach,List.findIdx?_cons];simpa using T
def LB(C:X.YB=true)(h:fH X es t)(N:-(assignEach es X.env)=n)(T:(assignEach es X.env).findIdx? (·.1)=()):PG X (.Tuple es k pos) (λv U H Q=>∃a Z,v=↥a/\H a\(.WK Z)/\-Z=n/\t Z U H Q):=by
 intro Y s U H v u Q I r G;let(a,Z,O,R,P,G):=G;subst O;cases r;let(B,m,J,S,F):=I.WK R;let E:s.1.IsList a B.toArray:=(_,S,rfl,m,rfl);rw[PyProof.Rows.assign_Tuple];show aa (wpAny_standAt ?_);unfold unpack;rw[T,N,<-P,show -Z=B.toArray.size by simp[J.length]];show aa (je (PySem.W.kun_itemsOf (I.ok.hd C) E λL V=>?_));let I1:WM X Y U H (s<&>L):=I.YM (t':=s.toks) λb o e=>V b o (gq (cj e)) e
 show h Y _ U H Z _ Q I1 ('s' J) G
def LC(L:X.YB=true)(E:X.N.Nodup)(h:Qs X Z is):PG X (.Tuple Z k pos) (bF nm X.K (.names is)):=λY s O H v u Q I C V=>by
 let(F,W,M,d,P,S,R,r,e,q):=V;cases r with
 |WL J T =>
  erw[Tg.put]at e;split at e<;>cases e;rename_i G;show E9 L (uM E h) (Fi h).1 (Fi h).2 Y s O H _ u Q I C {2,_,_,rfl,Oe.of J,by rw[<--T];show G,(by rw[<--T];show G,q _ (Vw R T) T9 λj B=>Qq B)}
 |vl J _ T =>
  erw[Tg.put]at e;split at e<;>cases e;rename_i G;show LB L (uM E h) (Fi h).1 (Fi h).2 Y s O H _ u Q I C {2,_,_,rfl,J,by rw[<--T];show G,by rw[<--T];show G,q _ (Vw R T) T9 λj B=>Qq B}
 |_=>simp[Tg.put]at e
def jN(A:PE X a ('t' a'))(N:PG X tg (bF nm X.K t))(C:swapsWithSole [tg] a pos.line X.env=pure false)(Q:swappedStores [tg] a X.env=pure ())(E:(assignEach [tg] X.env)%(·.2)=[assign tg X.env]) :
 PS X (.Assign [tg] a pos) (tS nm W X.K (.asg (.tg t) a')):=
 PS.of (mK A N C Q E) λD σ H ι F M fl G M' S R e q=>by rw[MW.iR]at e;let(x,M1,O,e):=gw e;let(P,M2,J,e):=gw e;cases e;rw[MW.qU]at J;let(L,U):=zb J;subst U;show one S R O λY V v le B I r=>{5,Y,F,_,x,G,B,I,r,L,λT Z _ _=>q Y V T le B Z}
def LD(O:PE X a ('t' Z))(B:swapsWith a () pos.line X.env=pure false):PS X (.Expr a pos) (tS nm W X.K (._K Z)):=
 PS.of (E_ O B) λD G H V Q M P C E S R e q=>by rw[MW.BZ]at e;let(x,F,T,e):=gw e;cases e;show one S R T λY J v le L N r=>q Y J G le L N
def LF(B:PE X a ('t' Z)):PS X (.Return ↑a pos) (tS nm W X.K (.ret Z)):=
 PS.of (E1 B) λD G H Q P M E O L S R e q=>by rw[MW.Bn]at e;let(x,V,T,e):=gw e;cases e;show one S R T λY J v le N C r=>q Y J G le N C v r
def LG:PS X (.Break pos) (tS nm W X.K .brk):=
 PS.of EW λD Y H G O M B T J S R e q=>by rw[MW.Bz]at e;cases e;show q G H Y (Le.refl _ _) S R
def LH:PS X (.Continue pos) (tS nm W X.K .cont):=
 PS.of EX λD Y H G O M B T J S R e q=>by rw[MW.B0]at e;cases e;show q G H Y (Le.refl _ _) S R
def eQ.mono{X:Cx}(le:Le ι H Z H')(q:eQ nm X.K D ι H fl U M):eQ nm X.K D Z H' fl U M:=λT B Y J G R2=>q T B Y (le>>J) G R2
protected def LI(F:PT X c (tQ nm W X.K J))(A:Uv X G (bW nm W X.K Z))(I:Uv X fs (bW nm W X.K Y)):PS X (.If c G fs pos) (tS nm W X.K (.iff J Z Y)):=
 PS.of (E3 F A I) λD y H U L M N B O S R e q=>by
  rw[MW.Bi]at e;let(x,E,V,e):=gw e;cases x<;>try cases e
  rename_i k;show cQ S R V λT C le Q P=>?_
  cases k with
  |true=>show{6,T,L,E,N,B,O,Q,P,e,q.mono le}|false=>show{6,T,L,E,N,B,O,Q,P,e,q.mono le}
def LJ:Uv X [] (bW nm W X.K .nil):=Uv.of ET λD Y H G O M B T J S R e q=>by rw[MW.B2]at e;cases e;show q G H Y (Le.refl _ _) S R
def LK{T:List Stmt}(F:PS X st (tS nm W X.K Z))(U:Uv X T (bW nm W X.K rest')):Uv X (st::T) (bW nm W X.K (.cons Z rest')):=
 Uv.of (sM F U) λD σ H V I M A L Q S R e q=>by
  rw[MW.B3]at e;let((B,J),E,P,e):=gw e;show{6,V,I,M,B,J,E,S,R,P,λY N G le C O=>?_};cases B with
  |next=>show{6,Y,J,E,A,L,Q,C,O,e,q.mono le}|brk=>cases e;show q Y N G le C O|cont=>cases e;show q Y N G le C O|ret d=>cases e;show q Y N G le C O
protected def LL(hp:PassesOwn (model X.prog X.w) X.A X.env X.xe)(hc:PT X c (tQ nm W X.K c'))(hb:Uv X body (bW nm W X.K eT)):PS X (.While c body [] pos) (tS nm W X.K (.whl c' eT)):=
 PS.of (FE hp hc hb) λD σ H u ρ M fl Y M' S R e q=>by
  rw[MW.iS]at e;show(λm F C=>∃L E M1,Le u H L C/\ql nm X.K L C M1/\yr X.K L C E F/\MW.Jh (c'.WD W) (eT.WD W) m E M1=.ok (fl,Y) M',{1,MW.eC,(u,ρ,M,Le.refl _ _,S,R,e)},?_);rintro m F C ⟨L,E,M1,N,S1,R1,B⟩;cases m with
  |zero=>cases B
  |succ m =>
   erw[MW.Jh]at B;let(x,M2,e2,B):=gw B;cases x<;>try cases B
   rename_i k;show cQ S1 R1 e2 λJ H2 Z S2 R2=>?_
   cases k with
   |false=>cases B;show q J H2 F (N>>Z) S2 R2
   |true =>
    let((G,Q),M3,e3,B):=gw B;show(λO V=>∃T I M4,Le u H T V/\ql nm X.K T V M4/\yr X.K T V I O/\MW.Jh (c'.WD W) (eT.WD W) m I M4=.ok (fl,Y) M',λO V h4=>{1,m,mz _,h4},J,E,M2,G,Q,M3,S2,R2,e3,λT V O P U y=>?_);cases G with
    |next=>show{3,T,Q,M3,(N>>Z)>>P,U,y,B}|cont=>show{3,T,Q,M3,(N>>Z)>>P,U,y,B}|brk=>cases B;show q T V O ((N>>Z)>>P) U y|ret d=>cases B;show q T V O ((N>>Z)>>P) U y
def jO(O:Nm)(K:Fg)(C:Io)(H:Hp)(s:XN)(J:It):Prop:=∀Y T G,ax C H Y T->ql O K Y T G ->
 (∀i d,i<s.len->s.item i G\d->J.go i T/\∀v B,J.gP i T v B->Le Y T Y B/\ql O K Y B G/\Xo K Y B d v)/\(s.fin G=true->J.stop s.len T)
def tI(G:Nm)(W:Kh)(K:Fg)(it:Qz):TI:=λN H R=>∃B C M s O,ql G K B H M/\yr K B H C N/\it.WD W C M=.ok s O/\∀Y T J,Le B H Y T->ql G K Y T O->jO G K Y T s J->R J T
protected def LM(hp:PassesOwn (model X.prog X.w) X.A X.env X.xe)(hc:X.YB=true)(hi:PI X tg iter (tI nm W X.K it))(hg:PG X tg (bF nm X.K t))(hb:Uv X body (bW nm W X.K eT))(hs:Ka iter=true):PS X (.For tg iter body [] pos) (tS nm W X.K (.YX t it eT)):=
 PS.of (FP hp hc hi hg hb (Ht hs X.env)) λD σ H ι G M fl O M' S R e q=>by
  rw[MW.Yi]at e;let(s,M1,e1,e):=gw e;show{5,ι,G,M,s,M1,S,R,e1,λF H1 J Q S1 sj=>?_};show(λi m Z C=>m=s.len-i/\i<=s.len/\∃B P U,Le F H1 B C/\ql nm X.K B C U/\yr X.K B C P Z/\MW.Fo s.fin s.item (λd G M=>match t.put d G with|some O=>eT.WD W O M|none=>.WY) m i P U=.ok (fl,O) M',
   {1,s.len,(rfl,iw _,F,G,M1,Le.refl _ _,S1,R.mono Q,e)},?_)
  rintro i m Z C ⟨hm,q1,B,P,U,Cj,S2,R2,N⟩;let(go,qk):=sj B C U Cj.cm S2;cases m with
  |zero =>
   erw[MW.Fo]at N;split at N<;>cases N;rename_i Vt;let hi:i=s.len:='a'
   subst hi;show .inl (qk Vt,q B C Z (Q>>Cj) S2 R2)
  |succ m =>
   erw[MW.Fo]at N;split at N
   .cases N
   .rename_i d hd
    let((qq,I),M3,e3,N):=gw N;let(g1,g2):=go i d (by omega) hd;show .inr (g1,λL Y=>∃T E M4,Le F H1 T Y/\ql nm X.K T Y M4/\yr X.K T Y E L/\MW.Fo s.fin s.item (λd G M=>match t.put d G with|some O=>eT.WD W O M|none=>.WY) m (i+1) E M4=.ok (fl,O) M',
     λL Y (T,E,M4,h4)=>{1,m,mz _,(by omega,by omega,T,E,M4,h4)},λv H3 yv=>?_)
    let(u,S3,r3):=g2 v H3 yv;split at e3
    .rename_i y qv
     show{5,B,P,U,d,y,S3,R2.mono u,r3,qv,λq2 R5 _ _=>{6,B,y,U,qq,I,M3,S3,R5,e3,λT Y L q0 S4 R4=>?_}};let V:=(Cj>>u)>>q0;cases qq with
     |next=>show{3,T,I,M3,V,S4,R4,N}|cont=>show{3,T,I,M3,V,S4,R4,N}|brk=>cases N;show q T Y L (Q>>V) S4 R4|ret d=>cases N;show q T Y L (Q>>V) S4 R4
    .cases e3
section
variable{nm:Nm}{W:Kh}{X:Cx}{a b c:Expr}{a' b' c':Ex}{pos pos':Pos}{ι:Io}{H:Hp}{σ:St}{ρ:En}{M M1 M2:fc}{x y:Dv}{es:Y3}{es':Ha}{tg iter elt:Expr}
def PI.YL(h:PI X tg iter Z)(w:∀σ H R,jP σ H R->Z σ H R):PI X tg iter jP:=λY s σ H R I q=>h Y s σ H R I (w σ H R q)
def PI.of(h:PI X tg iter wi)(w:∀σ H U ι ρ M s M',ql nm X.K ι H M->yr X.K ι H ρ σ->it.WD W ρ M=.ok s M'->(∀Z H' J,Le ι H Z H'->ql nm X.K Z H' M'->jO nm X.K Z H' s J->U J H')->wi σ H U):PI X tg iter (tI nm W X.K it):=
 PI.YL h fun σ H U z_=>by let(ι,ρ,M,s,M',S,R,e,q):=z_;show w σ H U ι ρ M s M' S R e q
def LN(L:PE X l tl):PI X tg l (fun σ H R=>tl σ H λx Z=>∃a,x=↥a/\((∃U,Kp X.K Z a U)/\R (mM X.K a) Z\/(∃U,Oe X.K Z a U)/\R (sN X.K a) Z)):=by
 intro T s σ H R I h;show Uw (L T s σ H _ I h) λv Y x Z I1 B E=>?_
 obtain⟨a,e,⟨⟨U,J⟩,q⟩|⟨⟨U,J⟩,q⟩⟩:=E
 .subst e
  cases B;let(O,C,p,N):=I1.list J;show Ah p.isList ?_;show{5,Y⁻¹,[Y⁻¹],_,_,Z,rfl,I1.YM (t':=Y.toks) λb o e=>aq _ e,FF a _,{1,_,cu _ rfl,rfl,rfl},λb G=>?_,q};let e:b=Y⁻¹:='s' G
  subst e;show I1.fI (bz _) (I1.Dk.fresh (bz _))
 .subst e
  cases B;let(O,C,p,N):=I1.tuple J;show z6 (show Y.1.IsTuple a O.toArray from p) ?_;show{5,Y⁻¹,[Y⁻¹],_,_,Z,rfl,I1.YM (t':=Y.toks) λb o e=>aq _ e,FG a _,{1,_,cu _ rfl,rfl,rfl},λb G=>?_,q};let e:b=Y⁻¹:='s' G
  subst e;show I1.fI (bz _) (I1.Dk.fresh (bz _))
def uN{p:Addr}{ds:List Dv}{s:XN}(B:∀Z H1 M1,ax ι H Z H1->ql nm X.K Z H1 M1->(∀i d,s.item i M1\d->∃U v,H1 p\(.WK U)/\U[i]?\v/\Xo X.K Z H1 d v)/\(s.fin M1=true->∃U,H1 p\(.WK U)/\-U<=s.len)) :
 jO nm X.K ι H s (mM X.K p):=λZ H1 M1 le G=>by
 let(a,b):=B Z H1 M1 le G;show(λi d N J=>?_,λO=>?_)
 .let(U,v,T,Y,C):=a i d J
  show({2,U,v,Kp.of T,Y},λu L (e,y)=>?_);subst e;let:=y U (Kp.of T);rw[Y]at this;cases this;show(Le.refl _ _,G,C)
 .let(U,T,Y):=b O
  show(U,Kp.of T,Y)
protected def LO(ha:PE X a ('t' a')):PI X tg a (tI nm W X.K (.val a')):=
 PI.of (LN ha) fun σ H R' ι ρ M s M' S R e q=>by
  rw[MW.Mu]at e;let(x,M1,C,e):=gw e;let(e,rfl):=zb e;show one S R C λL G v le D R1 r=>?_
  cases r with
  |@WL p B N h1 r1 =>
   erw[MW.YJ]at e;cases e;show(p,rfl,.inr ((N,Oe.of h1),q L G _ le D λA U M2 O V=>(λi d hi T=>?_,λ_=>(N,Oe.of (O.WL _ _ h1),by rw[<--r1];show bz _))));let T:B[i]?\d:=T;let(v,Q,I):=(r1.Rf O).get T;show({2,N,v,Oe.of (O.WL _ _ h1),Q},λu H3 (ee,yy)=>?_);subst ee;let:=yy N (Oe.of (O.WL _ _ h1));rw[Q]at this;cases this;show(Le.refl _ _,V,I)
  |@vl p B N h1 n1 r1 =>
   erw[MW.YJ]at e;cases e;show(p,rfl,.inl ((N,Kp.of h1),q L G _ le D (uN (ds:=B) λA U M2 O V=>(λi d T=>?_,λ_=>(N,O.WK _ _ n1.1 h1,by rw[<--r1];show bz _)))));let T:B[i]?\d:=T;let(v,Q,I):=(r1.Rf O).get T;show{2,N,v,O.WK _ _ n1.1 h1,Q,I}
  |@ref n p h1 =>
   erw[MW.YJ]at e;obtain⟨B,J,rfl⟩:∃B,M'[n]?\(.WK B)/\s=.live n (-B):=by
    split at e
    .rename_i B J;cases e;show{1,B,J,rfl}
    .cases e
   let(N,Q,I):=D.XR n _ p J h1;show(p,rfl,.inl ((N,Kp.of Q),q L G _ le D (uN (ds:=B) λA U M2 O V=>(λi d T=>?_,λZ=>?_))))
   .erw[XN.item]at T
    split at T
    .rename_i F P
     split at T
     .let(E,Y,k2):=V.XR n _ p P (O.get h1)
      let(v,k3,k4):=k2.get T;show{2,E,v,Y,k3,k4}
     .cases T
    .cases T
   .erw[XN.fin]at Z
    split at Z
    .rename_i F P
     let(E,Y,k2):=V.XR n _ p P (O.get h1);show(E,Y,?_);rw[<--k2];let:-F=-B:='s' Z
     rw[this];show bz _
    .cases Z
  |_=>simp[MW.YJ]at e
def LP(C:Gl X "range")(V:X.mg "range"= ())(Q:PE X a ('t' a'))(T:X_ a=true):PI X tg (.Call (.Name "range" pr) [a] [] pos) (tI nm W X.K (.aK a')):=
 PI.of (FK C V (T7 Q Zx (o6 T _ _)) (o6 T _ _)) fun σ H R' ι ρ M s M' S R e q=>by
  rw[MW.Uj]at e;let(x,M1,B,e):=gw e;show cC (es':=.cons a' .nil) (ds:=[x]) (M1:=M1) S R (by rw[MW.Ij,B];simp) λG L U le E R1 r=>?_
  obtain⟨i,I⟩:∃i,x=⇑i:=by cases x<;>first|show(_,rfl)|cases e
  subst I;let e:(if i.natAbs<=100000 then WR.ok (XN.Ys ('r' i.toNat%λ(k:Nat)=>MW.D.int (k:Int))) M1 else .WY)=.ok s M':=e;split at e<;>cases e;rename_i Z;cases r with
  |cons P A =>
   cases P;cases A;show{1,i,rfl,'a',by omega,q G L _ le E λF H2 M2 Cj N=>(λj d O Y=>?_,λ_=>?_)}
   .let J:j<i.toNat:=by simpa[XN.len]using O
    let Y:('r' i.toNat%λ(k:Nat)=>MW.D.int (k:Int))[j]?\d:=Y;rw[ie,yo J]at Y;let Y:MW.D.int (j:Int)=d:='s' Y
    subst Y;show(J,λu H3 (ee,yy)=>?_);subst ee yy;show(Le.refl _ _,N,by rw[Int.zero_add];show ⇑_)
   .change i.toNat<=_
    simp[XN.len]
def LQ(R:yr K ι H ρ σ):yr K ι H (ρ++'R' k ()) (σ++'R' k ()):=R.append (yr.uD k 'b')
def LR{Y:St}(J:-σ=n)(G:∀i∈Ez t,n<=i)(h:∀j,j∉Ez t->Y[j]?=(σ++'R' k ())[j]?):∀(j:Nat) v,(σ++'R' k ())[j]?\↑v->Y[j]?\↑v:=λj v e=>by
 by_cases T:j∈Ez t
 .let:=G j T
  rw[jf (a_ (f_ J) this),Bq]at e;split at e<;>simp at e
 .rw[h j T];show e
def uO(o:Option Dv):List Dv:=match o with|some x=>[x]|none=>[]
protected def LS(h:MW.Gz fin item body (k+1) i M=.ok ds Z) :
 ∃d o M1 rest,item i M\d/\body d M=.ok o M1/\MW.Gz fin item body k (i+1) M1=.ok rest Z/\ds=uO o++rest:=by
 erw[MW.Gz]at h;split at h
 .cases h
 .rename_i d O
  let(o,M1,B,h):=gw h;let(rest,M2,T,h):=gw h;cases h;show{4,d,o,M1,rest,O,B,T,by cases o<;>rfl}
def um.snoc(r:um K ι H ds Z)(h:Xo K ι H d v):um K ι H (ds++[d]) (Z++[v]):=r.append (.cons h .nil)
def jQ(e:MW.Bv s body M1=.ok ds M2):s.len<=100000/\MW.Gz s.fin s.item body s.len 0 M1=.ok ds M2:=by
 unfold MW.Bv at e;split at e
 .rename_i Y
  show(Y,e)
 .cases e
def _R(v:Bool)(Y:List Dv)(M:fc):WR Dv:=if v=true then .ok (.vl Y) M else MW.new (.WK Y) M
def LU(h:(Ex.WN v k t it e').WD W ρ M=.ok d M'):∃s M1 Z M2,it.WD W ρ M=.ok s M1/\s.len<=100000 /\
 MW.Gz s.fin s.item (λd M=>match t.put d (ρ++'R' k ())with|some U=>e'.WD W U M*>λx M'=>.ok ↑x M'|none=>.WY) s.len 0 M1=.ok Z M2/\_R v Z M2=.ok d M':=by
 rw[MW.Ru]at h;let(s,M1,T,h):=gw h;let(Z,M2,Y,h):=gw h;show{4,s,M1,Z,M2,T,(jQ Y).1,(jQ Y).2,h}
def Io._H(ι:Io)(H:Hp)(D:Addr):Tr K (ι.YQ D) H (ι.XS D) H:=(λ_ _ e=>e,λ_ _ e n=>(e,λm=>(dz<*m).elim n.1 λz=>n.2 (by rw[ig<*z];show dw),λm=>n.2 (bw _ m)),λ_ _ e=>e,λn a e=>by
 let e:ι.l[n]?\a:=e;change(ι.l++[D])[n]?=_;rw[gf (ak<*e).1];show e)
theorem Xo._H(r:Xo K (ι.YQ D) H d v):Xo K (ι.XS D) H d v:=r.tr (ι._H H D)
theorem um._H(r:um K (ι.YQ D) H d v):um K (ι.XS D) H d v:=r.tr (ι._H H D)
theorem ql._H(S:ql nm K (ι.YQ D) H M)(J:H D\(.WK Z))(r:um K (ι.YQ D) H ds Z)(Y:ι.off D):ql nm K (ι.XS D) H (M++[.WK ds]):=by
 show(by let:=S.len;erw[Io.YQ]at this;simp[Io.XS,this],?_,λa T=>?_,λn o a B T=>?_)
 .exact Bg.mpr (S.nd,'b',by
   intro x N y G;let:y=D:='s' G
   subst this;intro e;subst e;show Y.1 N)
 .let(C,Z,O):=S._p a (bw _ T)
  show(λm=>(dz<*m).elim C λz=>Y.2 (by rw[<-ig<*z];show T),Z,O)
 .rcases Gb B with q|⟨q,rfl⟩
  .rcases Gb T with z|⟨z,_⟩
   .exact(S.XR n o a q z).tr (ι._H H D) rfl
   .exact absurd (MW.wu q) (by rw[z,<-S.len];show ph _)
  .rcases Gb T with z|⟨_,rfl⟩
   .exact absurd (ak<*z).1 (by rw[q,<-S.len];show ph _)
   .exact(Z,J,r._H)
def LV(S:ql nm K (ι.YQ D) H M)(G:H D\(.WK vs))(r:um K (ι.YQ D) H ds vs)(T:ι.off D)(le:Le U H0 ι H)(O:H0 D=())(h:_R v ds M=.ok d M') :
 ∃Z,Le U H0 Z H/\ql nm K Z H M'/\Xo K Z H d ↥D:=by
 unfold _R at h;split at h
 .cases h
  show(ι,le,S.show,.vl G T r.show)
 .cases h
  show{1,ι.XS D,(?_,le._p,le.WL,le.Wg,le.WK,le.dom),S._H G r T,↥?_}
  .let(Y,e,J):=le.ext
   show(Y++[D],by change ι.l++[D]=_;rw[e,yj],λa B=>(dz<*B).elim (J a) λz=>by rw[ig<*z];show O)
  .change(ι.l++[D])[M.length]?\D
   rw[<-S.len];simp[Io.YQ]
def BodyOk(nm:Nm)(K:Fg)(Y:St)(L:TT)(N:TE)(J:En)(M:fc)(o:Option Dv)(O:fc):Prop:=∀ι H (G1:V->Hp->Prop) (G0:Hp->Prop),ql nm K ι H M->yr K ι H J Y ->
 (∀T G v,Le ι H T G->ql nm K T G O->(match o with|some x=>Xo K T G x v->G1 v G|none=>G0 G))->L Y H λb B=>if b=true then N Y B λv C=>G1 v C else G0 B
def uP{N:Ya}(hk:-N- -X.N=k)(ho:∀i∈Ez t,-X.N<=i)(zz:-σ=-X.N)(S:ql nm X.K ι H M)(R:yr X.K ι H ρ σ)(e1:it.WD W ρ M=.ok s M1)(qk:s.len<=100000)(e2:MW.Gz s.fin s.item body s.len 0 M1=.ok ds M')(ek:_R v0 ds M'=.ok d0 M0)(q:∀qq H' v,Le ι H qq H'->ql nm X.K qq H' M0->Xo X.K qq H' d0 v->Q v H')(hb:∀d M2 o M3,body d M2=.ok o M3->∃Z,t.put d (ρ++'R' k ())\Z/\∀U,BodyOk nm X.K U tc te Z M2 o M3):gU (-N- -X.N) (tI nm W X.K it) (bF nm X.K t) tc te σ H Q:=by
 show{5,ι,ρ,M,s,M1,S,R,e1,λB H1 J q1 S1 sj D F=>?_};rw[hk];show(λi m H2=>m=s.len-i/\i<=s.len/\∃Y M2 G vs C,ay D B H1 (Io.YQ Y D) H2/\ql nm X.K (Io.YQ Y D) H2 M2/\H2 D\(.WK vs)/\um X.K (Io.YQ Y D) H2 G vs/\-G<=i /\
  MW.Gz s.fin s.item body m i M2=.ok C M'/\ds=G++C,?_,?_)
 .exact{1,s.len,(rfl,iw _,B,M1,[],[],ds,ay.ZM F _,S1.YQ F,z8,.nil,bz _,e2,rfl)}
 .rintro i m H2 ⟨hm,zu,Y,M2,G,vs,C,Cj,S2,q3,A,Ii,e3,P⟩
  let q0:Le B H1 Y H2:=ay.done Cj;let q4:Y.δ=B.δ:=q0._p;let zj:Y.off D:=((S2._p D dw).1,λz=>by rw[q4]at z;show(S1.fresh F).2 z);let(go,q2):=sj (Io.YQ Y D) H2 M2 (Cj.cm F) S2;cases m with
  |zero =>
   erw[MW.Gz]at e3;split at e3<;>cases e3;rename_i Vt;symm
   let hi:i=s.len:='a'
   subst hi;rw[De]at P;subst P;let(zq,q7,S9,r9):=LV S2 q3 A zj q0 F ek;left;show .inl (q2 Vt,q zq H2 _ (q1>>q7) S9 r9)
  |succ m =>
   symm
   let(d,o,M3,L,h1,h2,h3,h4):=LS e3;let(g1,g2):=go i d 'a' h1;left;show .inr (g1,λv H3 yv=>?_);symm
   let(E,S3,r3):=g2 v H3 yv;let(Z,q6,q5):=hb d M2 o M3 h2;let R3:yr X.K (Io.YQ Y D) H3 ρ σ:=((R.mono q1).Rf (Cj.cm F)).mono E;left;show{5,Io.YQ Y D,ρ++'R' k (),M2,d,Z,S3,LQ R3,r3,q6,λU R5 l5 k5=>(l5,LR zz ho k5,?_)};let q8:=E.WK D vs (S2._p D dw).1 q3;show q5 U (Io.YQ Y D) H3 _ _ S3 R5 (λT H6 u V S6=>by
    let O:=V.WK D vs (S2._p D dw).1 q8;let I:ay D B H1 T H6:=(Cj.go E).go V;let ei:T=Io.YQ (T.l,Y.δ) D:=by let:=V._p;let(l6,zk):=T;erw[Io.YQ]at this⊢;rw[this]
    rw[ei]at I S6;let qv:um X.K (Io.YQ (T.l,Y.δ) D) H6 G vs:=by rw[<-ei];show(A.mono E).mono V
    cases o with
    |none =>
     show{1,m,mz _,('a','a',(T.l,Y.δ),M3,G,vs,L,I,S6,O,qv,a_ Ii x_,h3,?_)};rw[P,h4];rfl
    |some x =>
     intro r6;rw[ei]at r6;let Ml:D∈(Io.YQ (T.l,Y.δ) D).δ:=dw;show{2,vs,m,O,?_,mz _,('a','a',(T.l,Y.δ),M3,G++[x],vs++[u],L,I.grow F O,S6.grow O Ml,z8,(qv.snoc r6).tr (uC O Ml),by simp;show Ii,h3,?_)}
     .rw[<--A]
      show El (gh Ii (gh zu qk)) ⋯
     .rw[P,h4];simp[uO])
protected def uQ{N:Ya}(G:-N- -X.N=k)(Z:∀i∈Ez t,-X.N<=i):∀σ H Q,-σ=-X.N->'t' (.WN v0 k t it Y) σ H Q ->
 gU (-N- -X.N) (tI nm W X.K it) (bF nm X.K t) (λ_ H Q=>Q true H) ('t' Y) σ H Q:=fun σ H Q V hh=>by
 let(ι,ρ,M,d,M',S,R,e,q):=hh;let(s,M1,ds,M2,F,T,I,U):=LU e;show uP G Z V S R F T I U q λd M2 o M3 B=>?_
 split at B
 .rename_i L E
  let(x,M4,C,B):=gw B;cases B;show{1,L,E,λJ qq H5 G1 G0 S5 A g=>?_};change if true=true then _ else _
  rw[dm rfl];show one (X:=X) S5 A C λO H6 u P D R6 r6=>g O H6 u P D r6
 .cases B
def LW(h:(Ex.Eo v k t it c' e').WD W ρ M=.ok d M'):∃s M1 U M2,it.WD W ρ M=.ok s M1/\s.len<=100000 /\
 MW.Gz s.fin s.item (λd M=>match t.put d (ρ++'R' k ())with|some Z=>c'.WD W Z M*>λb M'=>(match b with|.bl true=>e'.WD W Z M'*>λx qq=>.ok ↑x qq|.bl false=>.ok () M'|_=>.WY)|none=>.WY) s.len 0 M1=.ok U M2/\_R v U M2=.ok d M':=by
 rw[MW.qR]at h;let(s,M1,T,h):=gw h;let(U,M2,Y,h):=gw h;show{4,s,M1,U,M2,T,(jQ Y).1,(jQ Y).2,h}
protected def Zz{N:Ya}(hk:-N- -X.N=k)(ho:∀i∈Ez t,-X.N<=i):∀σ H Q,-σ=-X.N->'t' (.Eo v0 k t it c' e') σ H Q ->
 gU (-N- -X.N) (tI nm W X.K it) (bF nm X.K t) (tQ nm W X.K c') ('t' e') σ H Q:=fun σ H Q I hh=>by
 let(ι,ρ,M,d,M',S,R,e,q):=hh;let(s,M1,ds,M2,U,L,e2,ek):=LW e;show uP hk ho I S R U L e2 ek q λd M2 o M3 T=>?_
 split at T
 .rename_i F A
  let(x,M4,Y,T):=gw T;show{1,F,A,λqq qk H5 G1 G0 G D g=>?_};split at T
  .let(y,M6,e6,T):=gw T
   cases T;show cQ (X:=X) G D Y λO J B P Z=>?_
   rw[dm rfl];show one (X:=X) P Z e6 λE H7 u V C R7 r7=>g E H7 u (B>>V) C r7
  .cases T
   show cQ (X:=X) G D Y λO J B P Z=>?_
   rw[cz 'b'];show g O J .XQ B P
  .cases T
 .cases T
def PE.gZ(h:PE X e t)(w:∀σ H Q,-σ=-X.N->t' σ H Q->t σ H Q):PE X e t':=λY s σ H Q I q=>h Y s σ H Q I (w σ H Q I.len q)
def PS.gZ(h:PS X st t)(w:∀D σ H,-σ=-X.N->t' D σ H->t D σ H):PS X st t':=λY s σ H D I q=>h Y s σ H D I (w D σ H I.len q)
def LX(B:Ie X N scope)(J:X.YB=true)(G:PI X tg iter (tI nm W X.K it))(L:∀C Z s H,PG (Rq X N scope C Z s H) tg (bF nm X.K t))(O:∀C Z s H,PE (Rq X N scope C Z s H) elt ('t' U))(T:Ka iter=true)(Y:-N- -X.N=k)(E:∀i∈Ez t,-X.N<=i):PE X (.ListComp elt [(tg,iter,[],0)] scope pos) ('t' (.WN v0 k t it U)):=
 PE.gZ (uA B J G L (λ_ _ _ _=>.inl (rfl,rfl)) O (Ht T X.env)) (uQ Y E)
def LY(B:Ie X N scope)(O:X.YB=true)(J:PI X tg iter (tI nm W X.K it))(E:∀C Z s H,PG (Rq X N scope C Z s H) tg (bF nm X.K t))(G:∀C Z s H,PT (Rq X N scope C Z s H) c (tQ nm W X.K c'))(L:∀C Z s H,PE (Rq X N scope C Z s H) elt ('t' U))(T:Ka iter=true)(Y:-N- -X.N=k)(P:∀i∈Ez t,-X.N<=i):PE X (.ListComp elt [(tg,iter,[c],0)] scope pos) ('t' (.Eo v0 k t it c' U)):=
 PE.gZ (uA B O J E (λ_ _ _ _=>.inr (c,rfl,G _ _ _ _)) L (Ht T X.env)) (Zz Y P)
def uR(h:∀σ H Q,-σ=-X.N->'t' Z σ H Q->tt σ H Q):∀D σ H,-σ=-X.N->tS nm W X.K (.asg (.tg (.name i)) Z) D σ H->mJ tt (jC i) D σ H:=λD σ H T E=>by let(ι,ρ,M,I,L,A,S,R,e,q):=E;rw[MW.iR]at e;let(x,M1,B,e):=gw e;let(J,M2,G,e):=gw e;cases e;rw[MW.qU]at G;let(V,O):=zb G;subst O;cases V;show h σ H _ T (one S R B λY C v le F P r=>q Y C _ le F (P.set r i))
def LZ{y:Str}(B:Ie X N scope)(L:X.YB=true)(O:PI X tg iter (tI nm W X.K it))(S:∀C Z s H,PG (Rq X N scope C Z s H) tg (bF nm X.K t))(R:∀C Z s H,PE (Rq X N scope C Z s H) elt ('t' U))(J:Ka iter=true)(G:-N- -X.N=k)(Q:∀i∈Ez t,-X.N<=i)(E:X.N.Nodup)(T:X.N[i]?\y)(P:(X.env.scope.names/y)\.local)(Y:swapsWith (.ListComp elt [(tg,iter,[],0)] scope pos) ↑(.Name y py) gV.line X.env=pure true):PS X (.Assign [.Name y py] (.ListComp elt [(tg,iter,[],0)] scope pos) gV) (tS nm W X.K (.asg (.tg (.name i)) (.WN v0 k t it U))):=
 PS.gZ (uB B L O S (λ_ _ _ _=>.inl (rfl,rfl)) R (Ht J X.env) E T P Y) (uR (uQ G Q))
def L_{y:Str}(B:Ie X N scope)(E:X.YB=true)(L:PI X tg iter (tI nm W X.K it))(Q:∀C Z s H,PG (Rq X N scope C Z s H) tg (bF nm X.K t))(O:∀C Z s H,PT (Rq X N scope C Z s H) c (tQ nm W X.K c'))(S:∀C Z s H,PE (Rq X N scope C Z s H) elt ('t' U))(J:Ka iter=true)(G:-N- -X.N=k)(V:∀i∈Ez t,-X.N<=i)(P:X.N.Nodup)(T:X.N[i]?\y)(R:(X.env.scope.names/y)\.local)(Y:swapsWith (.ListComp elt [(tg,iter,[c],0)] scope pos) ↑(.Name y py) gV.line X.env=pure true):PS X (.Assign [.Name y py] (.ListComp elt [(tg,iter,[c],0)] scope pos) gV) (tS nm W X.K (.asg (.tg (.name i)) (.Eo v0 k t it c' U))):=
 PS.gZ (uB B E L Q (λ_ _ _ _=>.inr (c,rfl,O _ _ _ _)) S (Ht J X.env) P T R Y) (uR (Zz G V))
end
def bX(B:Nm)(W:Kh)(K:Fg)(n f:Nat):Sp:=λC H Q _=>∃J M G d O,ql B K J H M/\um K J H G C/\-G=n/\W.call f G M=.ok d O/\∀Y T v,Le J H Y T->ql B K Y T O->Xo K Y T d v->Q v T
def s_call(F:J8 X.prog X.w X.K X.mg X.base ai k fa fd ps (bX nm W X.K n f))(y:Dd k X.A)(L:Gl X x)(l:X.mg x\↥fa)(P:PySem.W.keepIn X.K ↥fa=true)(t:YT X.K fd ps [])(Y:Ha.len Z=n)(u:PA X (a::U) (aA nm W X.K Z))(j:(x==("__debug__": Str))=false)(V:starEach (a::U) X.env=(false,eval a X.env)::starEach U X.env)(g:(backTo pos (starEach U X.env)).any (·.1)=false) :
 PE X (.Call (.Name x p) (a::U) [] pos) ('t' (.call f Z)):=
 PE.of (HC (E:=E0) F y L l P t .nil mV u j V g) fun σ H Q o i M d O S R e q=>by
  rw[MW.BS]at e;let(c,D,B,e):=gw e;show cC S R B λT s m le z b r=>?_
  rw[De];show{5,T,D,c,d,O,z,r,Pk B>>Y,e,λG N v J I C=>q G N v (le>>J) I C}
def La(D:Mk X.K C fa)(F:J8 X.prog X.w X.K X.mg X.base ai k fa fd ps (bX nm W X.K (n+1) f))(hr:Dd (k+1) X.A)(hg:Gl X x)(hm:X.mg x\↥C)(hb:YT X.K fd ps [])(L:W.cls[Z]?\cl)(O:cl.init=f)(P:nm.cls Z\C)(J:Ha.len U=n)(ha:PA X (a::es) (aA nm W X.K U))(Wf:(x==("__debug__": Str))=false)(he:starEach (a::es) X.env=(false,eval a X.env)::starEach es X.env)(Kv:(backTo pos (starEach es X.env)).any (·.1)=false) :
 PE X (.Call (.Name x p) (a::es) [] pos) ('t' (._Q Z U)):=
 PE.of (HF (E:=E0) D F hr hg hm hb .nil mV ha Wf he Kv) fun σ H Q ι ρ M d M' S R e q=>by
  rw[MW.qP]at e;let(ds,T,e1,e):=gw e;rw[L]at e;let e:(W.call cl.init (↥(-T)::ds) (T++[.YW Z []])*>λr I=>match r with|.XQ=>.ok ↥(-T) I|_=>.WY)=.ok d M':=e;let(r0,I,e2,e):=gw e;show cC S R e1 λY N vs le S1 R1 r=>λp G hp qq Zc=>?_
  rw[De];let keep:∀a u,N a\u->XD (XD N G (._W p)) p (.YW C G []) a\u:=λa u e=>by rw[qp (ug e hp),qp (ug e qq)];show e
  let(S2,Cj):=S1.new (o:=.YW Z []) hp keep λ_=>{3,C,G,[],P,z8,.nil}
  let rp:Xo X.K (Y.XS p) (XD (XD N G (._W p)) p (.YW C G [])) ↥(-T) ↥p:=↥(by change(Y.l++[p])[T.length]?\p;rw[<-S1.len];simp);show{5,Y.XS p,T++[.YW Z []],↥(-T)::ds,r0,I,S2,.cons rp (r.mono Cj),by rw[ik,Pk e1,J],by rw[<-O];show e2,λV H' v B S' r'=>?_};cases r'<;>try cases e
  show(rfl,q V H' _ (le>>(Cj>>B)) S' (rp.mono B))
def Lc{Y:Nm}{G:Io}{H:Hp}{m:Str}{K:Fg}(T:∀i,Y.ZL i≠m){fs:List (Nat×Dv)}{l:List (Str×V)}(h:yq K G H (λk Z=>Z=Y.ZL k) fs l):l/m=():=by
 induction h with
 |nil=>rfl
 |@cons q _ _ _ _ _ hk h t ih =>
  subst hk;rw[ud];let z:(m==Y.ZL q)=false:=by
   cases z:m==Y.ZL q with
   |false=>rfl|true=>show absurd (eq_of_beq z).symm (T q)
  rw[z];show ih
def Ll:PE X (.Dict [] [] pos) ('t' .dn):=PE.of HW λO H Q J C M d B S R e q=>by
 rw[MW.BO]at e;cases e;intro p Y;let(T,G):=S.new (o:=.dT []) (H':=XD H p (.dT [])) Y (λa u e=>by rw[qp (ug e Y)];show e) λ_=>{1,[],z8,.nil}
 show q _ _ _ G T ↥(by change(J.l++[p])[M.length]?\p;rw[<-S.len];simp)
def Lm:PE X (.Dict [] [] pos) ('t' .dE):=PE.of HV λO H Q J C M d B S R e q=>by
 rw[MW.BP]at e;cases e;intro p Y;let(T,G):=S.new (o:=.dK []) (H':=XD H p (.dK [])) Y (λa u e=>by rw[qp (ug e Y)];show e) λ_=>{1,[],z8,.nil}
 show q _ _ _ G T ↥(by change(J.l++[p])[M.length]?\p;rw[<-S.len];simp)
def Lo(G:Nm)(K:Fg):mG:=λo i v H Q=>∃Y M x y d J,ql G K Y H M/\Xo K Y H x o/\Xo K Y H y i/\Xo K Y H d v/\MW.Z2 x y d M\J/\∀T,Le Y H Y T->ql G K Y T J->Q T
def mu(h:n<100000):n<sizeLine:=iu h mn
protected def Lu(C:X.A.units+1<cLine):mH X (Lo nm X.K):=by
 intro R s σ H o i v ov iv u Q I W J D hh;symm
 let(ι,M,x,y,d,M',S,rx,U,G,e,q):=hh;left;obtain⟨j,hx⟩:∃j,x=↥j:=by cases x<;>first|show(_,rfl)|cases e
 subst hx;obtain⟨p,rfl,O⟩:∃p,o=↥p/\ι.l[j]?\p:=by cases rx with|ref z=>show(_,rfl,z)
 erw[MW.Z2]at e;split at e
 .rename_i xs T
  split at e
  .rename_i k
   symm
   let(V,N,e2):=dg<*e;subst e2;cases U;let(vs,L,B):=S.XR j _ p T O;left;show set_list R s σ H _ _ v ov iv u Q I W J D {4,p,vs,k,V,rfl,rfl,L,by rw[<--B];show N,?_};let(E,P):=S.put (u:=.WK (vs.set V v)) (o:=.WK (xs.set V d)) T O λle=>(_,z8,(B.mono le).set (G.mono le) V)
   show q _ P E
  .cases e
 .rename_i Y T
  let(k,N,e):=ir<*e;split at e<;>cases e;rename_i Z;symm
  let(l,L,B):=S.XR j _ p T O;let(b,rfl,hb):=gY U N;cases W;left;show tG (H':=XD H p (.dT (ZW l k v))) (y:=↥b) (v:=v) C I (eP.t L hb (by rw[<--B];show mu Z)) J D λs' F=>(_,F,?_)
  let(E,P):=S.put (u:=.dT (ZW l k v)) (o:=.dT (MW.Fw Y k d)) T O λle=>{1,_,z8,(B.mono le).put (G.mono le)}
  show q _ P E
 .rename_i Y T
  let(k,N,e):=ir<*e;split at e<;>cases e;rename_i Z;let(l,L,B):=S.XR j _ p T O;let hy:=gX U N;subst hy;cases W;show tG (H':=XD H p (.dK (ZW l k v))) (y:=kV k) (v:=v) C I (eP.k L (by rw[<--B];show mu Z)) J D λs' F=>(_,F,?_)
  let(E,P):=S.put (u:=.dK (ZW l k v)) (o:=.dK (MW.Fw Y k d)) T O λle=>{1,_,z8,(B.mono le).put (G.mono le)}
  show q _ P E
 .cases e
def Vx(h:Vv e=true)(t:Expr)(l:Nat)(Y:Env):swapsWithSole [t] e l Y=pure false:=by unfold swapsWithSole;show T8 h _ _ _
def L5(e o b:Expr)(p:Pos)(l:Nat)(Y:Env):swapsWithSole [.Subscript o b p] e l Y=pure false:=by cases e<;>rfl
def L6(E:X.A.units+1<cLine)(he:PE X a ('t' a'))(Q:PE X o ('t' o'))(L:PE X b ('t' b'))(ha:∀v,assign (.Subscript o b pos') X.env v=(do
 let Z<-holding [v] (eval o X.env)
 let U<-holding [v,Z] (eval b X.env)
 standAt pos'
 holding [v,Z,U] (setItem Z U v)
 release [v,Z,U] [])):PS X (.Assign [.Subscript o b pos'] a pos) (tS nm W X.K (.asg (.sub o' b') a')):=
 PS.of (mK he (FC Q L (Lu (nm:=nm) E) ha) (L5 _ _ _ _ _ _) (by rfl) (by rfl)) λD σ H ι ρ M fl qq M' S R e q=>by
  rw[MW.iR]at e;symm
  let(x,M1,O,e):=gw e;let(F,M2,T,e):=gw e;cases e;rw[MW.B6]at T;let(y,M3,V,T):=gw T;let(z,M4,e4,T):=gw T;let(M5,M6,e5,e6):=gw T;let(e7,e8):=zb e5;subst e8;cases e6;left;show one S R O λN H1 v le S1 R1 r=>?_
  show one S1 R1 V λqk H2 v2 B I R2 r2=>one I R2 e4 λJ H3 v3 Y C R3 r3=>?_
  show(J,_,y,z,x,_,C,r2.mono Y,r3,(r.mono B).mono Y,e7,λP G S'=>q J P σ (((le>>B)>>Y)>>G) S' (R3.mono G))
protected def L7(hn:n=nm.ZL f)(E:∀c C,nm.cls c\C->bE X.K C/\Og X.K C n)(he:PE X a ('t' a'))(ho:PE X o ('t' o'))(Kv:Vv a=true) :
 PS X (.Assign [.Attribute o n pos'] a pos) (tS nm W X.K (.asg (.ZL o' f) a')):=
 PS.of (GP ho he (T8 Kv _ _ _)) λD σ H ι ρ M fl qk M' S R e q=>by
  rw[MW.iR]at e;symm
  let(x,M1,G,e):=gw e;let(qq,M2,L,e):=gw e;cases e;rw[MW.B7]at L;let(y,M3,e3,L):=gw L;let(M5,M6,e5,e6):=gw L;let(T,e8):=zb e5;subst e8;cases e6;left;show one S R G λU H1 v le S1 R1 r=>one S1 R1 e3 λN H2 v2 I A R2 r2=>?_
  obtain⟨j,hx⟩:∃j,y=↥j:=by cases y<;>first|show(_,rfl)|cases T
  subst hx;obtain⟨p,rfl,Q⟩:∃p,v2=↥p/\N.l[j]?\p:=by cases r2 with|ref z=>show(_,rfl,z)
  erw[MW.Wm]at T;split at T
  .rename_i c fs V
   symm
   let Z:-fs<1000:=by
    by_cases z:-fs<1000
    .exact z
    .rw[cz z]at T;cases T
   rw[dm Z]at T;cases T;let(C,P,l,F,h2,Y):=A.XR j _ p V Q;subst hn;let(g1,g2):=E c C F;left;show{4,p,C,P,l,rfl,h2,g1,g2,by rw[<--Y];show Z,?_};let(J,O):=A.put (u:=.YW C P (Mq (nm.ZL f) v l)) (o:=.YW c (MW.Zd f x fs)) V Q λB=>{3,C,P,_,F,z8,(Y.mono B).Mq ((r.mono I).mono B)}
   show q N _ σ ((le>>I)>>O) J (R2.mono O)
  .cases T
def Ff.YL(h:Ff X f r)(w:∀Z H Q,r' Z H Q->r Z H Q):Ff X f r':=λY s T H Z J Q I G q=>h Y s T H Z J Q I G (w Z H Q q)
def rB(J:Nm)(K:Fg)(b:bD):List V->Hp->VK->Prop:=λC H Q=>∃G M O d B,ql J K G H M/\um K G H O C/\MW.qu b O M=.ok d B/\∀Y T v,Le G H Y T->ql J K Y T B->Xo K Y T d v->Q v T
def Ff.of(h:Ff X f r)(w:∀vs H Q U M ds d M',ql nm X.K U H M->um X.K U H ds vs->MW.qu bb ds M=.ok d M'->(∀Z H' v,Le U H Z H'->ql nm X.K Z H' M'->Xo X.K Z H' d v->Q v H')->r vs H Q):Ff X f (rB nm X.K bb):=
 Ff.YL h λvs H Q z_=>by let(U,M,ds,d,M',S,r,e,q):=z_;show w vs H Q U M ds d M' S r e q
def uS{X:Cx}:∀Z H Q,'t' (.YC t U) Z H Q->mS (rB nm X.K t) (aA nm W X.K U) Z H Q:=λZ H Q V=>by
 symm
 let(A,D,M,d,B,S,R,e,q):=V;rw[MW.Qa]at e;let(P,N,J,e):=gw e;left;show cC S R J λY I F le E z r=>{5,Y,N,P,d,B,E,r,e,λT C v G L O=>q T C v (le>>G) L O}
def gi{id:String}(J:Ff X (.builtin id) (rB nm X.K t))(C:Gl X x)(G:X.mg x=())(Y:bootBuiltins x\(.builtin id))(N:PA X (a::Z) (aA nm W X.K U))(B:x≠"__name__")(T:(x==("__debug__": Str))=false)(O:starEach (a::Z) X.env=(false,eval a X.env)::starEach Z X.env)(L:(backTo pos (starEach Z X.env)).any (·.1)=false):PE X (.Call (.Name x p) (a::Z) [] pos) ('t' (.YC t U)):=PE.YL (HJ J C G Y N B T O L) uS
def mw(B:Ff X (.type T) (rB nm X.K t))(N:Gl X x)(J:X.mg x=())(Y:bootBuiltins x\(.type T))(L:PA X (a::Z) (aA nm W X.K U))(O:x≠"__name__")(G:(x==("__debug__": Str))=false)(C:starEach (a::Z) X.env=(false,eval a X.env)::starEach Z X.env)(E:(backTo pos (starEach Z X.env)).any (·.1)=false):PE X (.Call (.Name x p) (a::Z) [] pos) ('t' (.YC t U)):=PE.YL (HK B N J Y L O G C E) uS
def Nq(r:um K U H ds Z)(h:ds=[d]):∃v,Z=[v]/\Xo K U H d v:=by subst h;cases r with|cons h t=>cases t;show(_,rfl,h)
def L8:Ff X 'U' (rB nm X.K .tuple):=Ff.of IY λV H Q J M R d M' S r e q=>by
 cases r with
 |nil=>simp[MW.qu]at e
 |@cons x v _ _ h t =>
  cases t with
  |cons F t2=>simp[MW.qu]at e
  |nil =>
   symm
   let e:WR.wg (MW.Cm M x%MW.D.WL) M=.ok d M':=e;let(B,C):=zb e;subst C;let(W,P,rfl):=dg<*B;let(p,T,rfl,Y,G):=Pj S h P;left;rcases Y with Y|Y
   .refine{2,p,T,rfl,.inl (Kp.of Y,λl L=>?_)}
    let(O,N,E):=Ks S L G;show q J _ _ N O E
   .exact{2,p,T,rfl,.inr (Oe.of Y,q J H _ (Le.refl _ _) S (.WL Y G))}
def L9:Ff X (.type "list") (rB nm X.K .list):=Ff.of IX λL H Q E M Y d M' S r e q=>by
 cases r with
 |nil=>simp[MW.qu]at e
 |@cons x v _ _ h t =>
  cases t with
  |cons R t2=>simp[MW.qu]at e
  |nil =>
   let e:(match MW.Cm M x with|some Y=>MW.new (.WK Y) M|none=>.WY)=WR.ok d M':=e;cases e3:MW.Cm M x with
   |none=>rw[e3]at e;cases e
   |some P =>
    rw[e3]at e;cases e;symm
    let(p,J,rfl,G,O):=Pj S h e3;left;show{2,p,J,rfl,G.imp Kp.of Oe.of,λl C=>?_};let(T,B,N):=mi S C O;show q _ _ _ B T N
protected def MA:Ff X (.builtin "len") (rB nm X.K .len):=Ff.of IW λY H Q E M B d M' S r e q=>by
 cases r with
 |nil=>simp[MW.qu]at e
 |@cons x v _ _ h t =>
  cases t with
  |cons G t2=>simp[MW.qu]at e
  |nil =>
   let fin:∀N,(MW.Cm M x\N)->d=⇑(-N)->M'=M->∃p L,[v]=[V.ref p]/\(Kp X.K H p L\/Oe X.K H p L)/\Q ⇑(-L) H:=λN I T W=>by
    subst T W;symm
    let(p,R,rfl,P,F):=Pj S h I;left;show{2,p,R,rfl,P.imp Kp.of Oe.of,by rw[<--F];show q E H _ (Le.refl _ _) S ⇑_}
   cases h with
   |fz T O =>
    cases e;show{2,_,_,rfl,.inl T.sq,by rw[<--O];show q E H _ (Le.refl _ _) S ⇑_}
   |@ref n p T =>
    let e:(match M[n]? with|some (.WK B)=>WR.ok (MW.D.int (-B)) M|_=>.WY)=WR.ok d M':=e;split at e
    .rename_i B A
     cases e;show fin B (by simp[MW.Cm,MW.gr,A]) rfl rfl
    .cases e
   |WL T O=>cases e;show fin _ rfl rfl rfl|vl T Z O=>cases e;show fin _ rfl rfl rfl|_=>cases e
open MW
def Hu(f:Dv->Dv->Option Bool)(as bs:List Dv)(j:Nat):Bool:=match as[j]?,bs[j]? with
 |some a,↑b=>(f a b).getD false|_,_=>false
set_option tactic.hygienic true in
theorem Gj{f:Dv->Dv->Option Bool}:∀{as bs:List Dv}{r:Bool},MW.U0 f as bs\r->(∀(j:Nat) a b,as[j]?\a->bs[j]?\b->∃c,f a b\c) /\
 r=(('r' (min (-as) (-bs))).all (Hu f as bs)&&-as==-bs)
 |[],[],r,h=>by cases h;show(λj a b e=>by simp at e,'b')
 |[],b::bs,r,h=>by cases h;show(λj a b e=>by simp at e,'b')
 |a::as,[],r,h=>by cases h;show(λj a b _ e=>by simp at e,'b')
 |a::as,b::bs,r,h=>by
  erw[MW.U0]at h;split at h
  .rename_i x y O P
   cases h;let(N,H):=Gj P;show(λj L Q T B=>?_,?_)
   .cases j with
    |zero=>simp at T B;subst T B;show(x,O)|succ j=>show N j L Q ('s' T) ('s' B)
   .rw[ik,ik,Nat.succ_min_succ,List.range_succ_eq_map,List.all_cons,List.all_map]
    let z:Hu f (a::as) (b::bs) 0=x:=by simp[Hu,O]
    let R:(Hu f (a::as) (b::bs) ∘ Nat.succ)=Hu f as bs:=by funext j;simp[Hu]
    rw[z,R,H];let E:(-as+1==-bs+1)=(-as==-bs):=by
     by_cases q:-as=-bs
     .simp[q]
     .let:¬(-as+1=-bs+1):='a'
      simp[q,this]
    rw[E,Bool.and_assoc]
  .cases h
def Xe{Y:Io}{H:Hp}{K:Fg}{f:Dv->Dv->Option Bool}(N:∀x y v r,Xo K Y H x v->Xo K Y H y v->f x y\r->r=true){as bs:List Dv}{T:List V}{r:Bool}(a:um K Y H as T)(b:um K Y H bs T)(h:MW.U0 f as bs\r):r=true:=by
 induction as generalizing bs T r with
 |nil=>cases a;cases b;cases h;rfl
 |cons x as B =>
  cases a with
  |cons L C =>
   cases b with
   |cons O t2 =>
    erw[MW.U0]at h;split at h
    .rename_i G J
     cases h;rw[N _ _ _ _ L O G,B C t2 J];rfl
    .cases h
inductive gj(M:fc)(f:Dv->Dv->Option Bool):Dv->Dv->Bool->Prop
 |bl (a b:Bool):gj M f (.bl a) (.bl b) (a==b)
 |int (a b:Int):gj M f ⇑a ⇑b (decide (a=b))
 |WL {as bs:List Dv} {r:Bool} (h:MW.U0 f as bs\r):gj M f (.WL as) (.WL bs) r
 |WK {x y:Dv} {as bs:List Dv} {r:Bool} (h1:MW.gr M x\as) (h2:MW.gr M y\bs) (h:(if -as=-bs then MW.U0 f as bs else ↑false)\r):gj M f x y r
def Nr(h:MW.Mm M (k+1) x y\r):gj M (MW.Mm M k) x y r:=by
 unfold MW.Mm at h;split at h
 .cases h;show .int _ _
 .cases h;show .bl _ _
 .exact .WL h
 .split at h
  .rename_i Y T;show .WK Y T h
  .cases h
def Z0{X:Cx}(S:ql nm X.K Z H M)(O:Xo X.K Z H x v)(G:Xo X.K Z H y v)(L:MW.gr M x\ds)(B:MW.gr M y\U):∃vs,um X.K Z H ds vs/\um X.K Z H U vs:=by
 symm
 let(p,vs,rfl,T,N):=wz S O L;let(E,P,J,Y,C):=wz S G B;cases J;rw[T]at Y;cases Y;left;show(vs,N,C)
theorem m3{N:Nm}{G:Io}{H:Hp}{M:fc}{X:Cx}(S:ql N X.K G H M):∀(k:Nat)(x y:Dv)(v:V)(r:Bool),Xo X.K G H x v->Xo X.K G H y v->MW.Mm M k x y\r->r=true
 |0,_,_,_,_,_,_,h=>by cases h
 |k+1,x,y,v,r,rx,ry,h=>by
  let B:=m3 S k;cases Nr h with
  |bl a b=>cases rx;cases ry;simp|int a b=>cases rx;cases ry;simp
  |WL h=>cases rx with
   |WL C Y=>cases ry with
    |WL J T=>rw[C]at J;cases J;show Xe B Y T h
  |WK E L O =>
   let(P,Y,T):=Z0 S rx ry E L;rw[dm (Y.length>>T.length.symm)]at O;show Xe B Y T O
def WT.dN{j:Nat}(r:WT U Z)(J:U[j]?\v)(G:Z[j]?\u):WX v u:=by let(B,Y,T):=L2.WT.get r J;rw[G]at Y;cases Y;show T
def uT{T:Io}{H:Hp}{K:Fg}{l:List (List Kx×Dv)}{Y:List (List _j×V)}(h:yq K T H (λk Z=>k=Z) l Y):Y%(·.1)=l%(·.1):=by
 induction h with
 |nil=>rfl|cons k h t G=>simp[G,k]
def uU(r:KT H l Z):Z%(·.1)=l%(·.1)/\∀x∈Z,H x.2.1\(.WL (x.1%kV)):=by
 induction r with
 |nil=>show(rfl,'b')
 |@cons p q ps qs hq t ih =>
  show(by simp[ih.1,hq.1],λx Y=>?_);rcases dj<*Y with rfl|Y
  .rw[<-hq.1];show hq.2.1
  .exact ih.2 x Y
theorem m4{nm:Nm}{X:Cx}{ι:Io}{H:Hp}{σ:St}{M:fc}{qq:Zp}{s:Shared}(I:WM X qq σ H s)(S:ql nm X.K ι H M):∀(k:Nat)(A:Around)(x y:Dv)(v u:V)(v' u':Value)(r:Bool),Dd k A->Xo X.K ι H x v->Xo X.K ι H y u->WX v v'->WX u u'->MW.Mm M k x y\r->SeqAt.EqAt A s v' u' r
 |0,_,_,_,_,_,_,_,_,_,_,_,_,_,h=>by cases h
 |k+1,A,x,y,v,u,v',u',r,hr,rx,ry,rv,ru,h=>by
  let ih:=m4 I S k A.in1;let q0:=hr.in1;let elems:∀(T Y:List Dv)(P W:List V)(is G:Zl)(rr:Bool),um X.K ι H T P->um X.K ι H Y W->WT P is->WT W G->MW.U0 (MW.Mm M k) T Y\rr ->
   ∀j (R:j<is.toArray.size) (Q:j<G.toArray.size),SeqAt.EqAt A.in1 s is.toArray[j] G.toArray[j] (Hu (MW.Mm M k) T Y j):=λT Y P W is G rr rd re Xz qk he j R Q=>by
   let l1:j< -T:=by rw[rd.length,Xz.length];simpa using R
   let l2:j< -Y:=by rw[re.length,qk.length];simpa using Q
   symm
   let N:T[j]?=↑T[j]:=by simp[l1]
   let J:Y[j]?=↑Y[j]:=by simp[l2]
   let(c,hc):=(Gj he).1 j _ _ N J;let(va,a1,a2):=rd.get N;let(wa,b1,b2):=re.get J;let q1:is[j]?=↑is.toArray[j]:='b'
   let q2:G[j]?=↑G.toArray[j]:='b'
   let:=ih _ _ va wa _ _ c q0 a2 b2 (WT.dN Xz a1 q1) (WT.dN qk b1 q2) hc;let z:Hu (MW.Mm M k) T Y j=c:=by simp[Hu,N,J,hc]
   left;rw[z];show this
  let D:∀(p L:Addr)(T Y:List Dv),v=↥p->u=↥L->MW.gr M x\T->MW.gr M y\Y->(if -T=-Y then MW.U0 (MW.Mm M k) T Y else ↑false)\r->SeqAt.EqAt A s v' u' r:=λp L T Y hv hu R Q C=>by
   subst hv hu;cases rv;cases ru;symm
   let(_,P,hv,N,J):=wz S rx R;cases hv;let(_,W,hw,g3,g4):=wz S ry Q;cases hw;left
   by_cases B:p=L
   .subst B
    let:r=true:=by rw[N]at g3;cases g3;rw[dm (J.length>>g4.length.symm)]at C;show Xe (λx y v r a b c=>m3 S k x y v r a b c) J g4 C
    rw[this];show SeqAt.EqAt.same _
   .refine SeqAt.EqAt.of_refs B ?_
    symm
    let(is,E,O,_):=I.list (Kp.of N);let(G,F,G7,_):=I.list (Kp.of g3);left
    by_cases U:-T=-Y
    .rw[dm U]at C
     let qv:is.toArray.size=G.toArray.size:=by simp[<--E,<--F,<--J,<--g4,U]
     let:=SeqAt.RcAt.lists (e:=Hu (MW.Mm M k) T Y) O.isList G7.isList qv hr.gQ (elems T Y P W is G r J g4 E F C);rw[(Gj C).2];let Z:is.toArray.size=min (-T) (-Y):=by simp[<--E,<--J,U]
     rw[Z]at this;simpa[U]using this
    .rw[cz U]at C
     cases C;show SeqAt.RcAt.lists_lengths O.isList G7.isList (by simp[<--E,<--F,<--J,<--g4,U]) hr.gQ
  cases Nr h with
  |bl a b=>cases rx;cases ry;cases rv;cases ru;show SeqAt.EqAt.bool_bool _ _
  |int a b =>
   cases rx;cases ry;let(t,rfl):=rv;let(t2,rfl):=ru;rw[<-Bool.beq_eq_decide_eq];show SeqAt.EqAt.int_int _ _ _ _
  |@WL T Y _ h=>cases rx with
   |@WL p _ P Z E=>cases ry with
    |@WL L _ W e2 F =>
     cases rv;cases ru
     by_cases B:p=L
     .subst B
      let:r=true:=by rw[Z]at e2;cases e2;show Xe (λx y v r a b c=>m3 S k x y v r a b c) E F h
      rw[this];show SeqAt.EqAt.same _
     .refine SeqAt.EqAt.of_refs B ?_
      symm
      let(is,N,O,_):=I.tuple (Oe.of Z);let(G,J,G7,_):=I.tuple (Oe.of e2);let:=SeqAt.RcAt.tuples (e:=Hu (MW.Mm M k) T Y) (show s.1.IsTuple p is.toArray from O) (show s.1.IsTuple L G.toArray from G7) hr.gQ (elems T Y P W is G r E F N J h);left;rw[(Gj h).2];let z1:is.toArray.size=-T:=by simp[<--N,<--E]
      let z2:G.toArray.size=-Y:=by simp[<--J,<--F]
      rw[z1,z2]at this;show this
  |WK R Q C =>
   symm
   let(p,_,Z,_):=wz S rx R;let(L,_,e2,_):=wz S ry Q;left;show D p L _ _ Z e2 R Q C
inductive cn(A:Around)(s:Shared):Value->Value->Bool->Prop
 |cZ {p p2:Addr} {is js:U1} (e:Nat->Bool) (h1:s.1.IsTuple p is) (h2:s.1.IsTuple p2 js) (he:∀j (h1:j<is.size) (h2:j<js.size),SeqAt.EqAt A.in1 s is[j] js[j] (e j)):cn A s ↥p ↥p2 (('r' (min is.size js.size)).all e&&is.size==js.size)
 |uV {p p2:Addr} {is js:U1} (e:Nat->Bool) (h1:s.1.IsList p is) (h2:s.1.IsList p2 js) (hz:is.size=js.size) (he:∀j (h1:j<is.size) (h2:j<js.size),SeqAt.EqAt A.in1 s is[j] js[j] (e j)):cn A s ↥p ↥p2 (('r' is.size).all e)
 |lens {p p2:Addr} {is js:U1} (h1:s.1.IsList p is) (h2:s.1.IsList p2 js) (hz:(is.size != js.size)=true):cn A s ↥p ↥p2 false
def uW{A:Around}(I:'i')(S:ql nm X.K ι H M)(D:Dd k A.in1)(C:um X.K ι H ds vs)(O:um X.K ι H Z ws)(N:WT vs is)(Y:WT ws U)(V:MW.U0 (MW.Mm M k) ds Z\rr) :
 ∀j (J:j<is.toArray.size) (L:j<U.toArray.size),SeqAt.EqAt A.in1 s is.toArray[j] U.toArray[j] (Hu (MW.Mm M k) ds Z j):=λj J L=>by
 let R:j< -ds:=by rw[C.length,N.length];simpa using J
 let P:j< -Z:=by rw[O.length,Y.length];simpa using L
 symm
 let G:ds[j]?=↑ds[j]:=by simp[R]
 let T:Z[j]?=↑Z[j]:=by simp[P]
 let(c,B):=(Gj V).1 j _ _ G T;let(q,u,Q):=C.get G;let(y,E,F):=O.get T;let W:is[j]?=↑is.toArray[j]:='b'
 let g:U[j]?=↑U.toArray[j]:='b'
 let:=m4 I S k A.in1 _ _ q y _ _ c D Q F (WT.dN N u W) (WT.dN Y E g) B;let z:Hu (MW.Mm M k) ds Z j=c:=by simp[Hu,G,T,B]
 left;rw[z];show this
def MB(I:'i')(S:ql nm X.K U H M)(W:Dd k A.in1)(E:Xo X.K U H x v)(ry:Xo X.K U H y u)(V:WX v v')(ru:WX u u')(R:MW.gr M x\ds)(F:MW.gr M y\Z)(G:(if -ds=-Z then MW.U0 (MW.Mm M k) ds Z else ↑false)\r):cn A s v' u' r:=by
 symm
 let(p,vs,rfl,D,J):=wz S E R;let(p2,ws,rfl,P,C):=wz S ry F;cases V;cases ru;let(is,B,T,_):=I.list (Kp.of D);let(Q,N,G7,_):=I.list (Kp.of P);left
 by_cases Y:-ds=-Z
 .rw[dm Y]at G
  let O:is.toArray.size=Q.toArray.size:=by simp[<--B,<--N,<--J,<--C,Y]
  let z:=cn.uV (A:=A) (Hu (MW.Mm M k) ds Z) T.isList G7.isList O (uW I S W J C B N G);rw[(Gj G).2];let L:is.toArray.size=min (-ds) (-Z):=by simp[<--B,<--J,Y]
  rw[L]at z;simpa[Y]using z
 .rw[cz Y]at G
  cases G;show .lens T.isList G7.isList (by simp[<--B,<--N,<--J,<--C,Y])
def uX(I:'i')(S:ql nm X.K Z H M)(O:Dd k A.in1)(T:Xo X.K Z H x v)(Y:Xo X.K Z H y u)(C:WX v v')(N:WX u U)(h:MW.Mm M (k+1) x y\r) :
 cn A s v' U r\/(mR v u=true/\r=decide (v=u)):=by
 cases Nr h with
 |bl a b=>cases T;cases Y;show .inr (rfl,by by_cases z:a=b<;>simp[z])|int a b=>cases T;cases Y;show .inr (rfl,by by_cases z:a=b<;>simp[z])
 |@WL ds es _ h=>cases T with
  |@WL p _ vs e1 r1=>cases Y with
   |@WL p2 _ ws e2 r2 =>
    cases C;cases N;symm
    let(is,J,G,_):=I.tuple (Oe.of e1);let(B,L,G7,_):=I.tuple (Oe.of e2);let z:=cn.cZ (A:=A) (Hu (MW.Mm M k) ds es) (show s.1.IsTuple p is.toArray from G) (show s.1.IsTuple p2 B.toArray from G7) (uW I S O r1 r2 J L h);left;rw[(Gj h).2];let Q:is.toArray.size=-ds:=by simp[<--J,<--r1]
    let P:B.toArray.size=-es:=by simp[<--L,<--r2]
    rw[Q,P]at z;show .inl z
 |WK V E R=>show .inl (MB I S O T Y C N V E R)
def cn.rc(h:cn A s v u r)(G:A.units<cLine):SeqAt.RcAt A s v u r/\SeqAt.RcNeAt A s v u (!r):=by
 cases h with
 |cZ e T Y B=>show(SeqAt.RcAt.tuples T Y G B,SeqAt.RcNeAt.tuples T Y G B)|uV e T Y J B=>show(SeqAt.RcAt.lists T Y J G B,SeqAt.RcNeAt.lists T Y J G B)|lens T Y J=>show(SeqAt.RcAt.lists_lengths T Y J G,SeqAt.RcNeAt.lists_lengths T Y J G)
def MC(T:Dd 6 X.A):Gx X (compareOp .Eq) (aE nm X.K .eq):=λY s O H v u N B Q I G J E=>by
 symm
 let(P,M,x,y,b,S,L,C,e,q):=E;let e:MW.Mm M 6 x y\b:=e;left;rcases uX (A:=X.A) I S T.in1 L C G J e with h|⟨h1,h2⟩
 .exact(h.rc T.gQ).1 X.prog X.w X.xe _ (.bl b,H,I,rfl,q)
 .subst h2
  show Fx Y s O H v u N B Q I G J (h1,q)
def MD(T:Dd 6 X.A):Gx X (compareOp .NotEq) (aE nm X.K .ne):=λY s C H v u E O Q I G J V=>by
 symm
 let(W,M,x,y,b,S,P,N,e,q):=V;let(R,B,L):=dg<*(show(MW.Bb M x y).map not\b from e);subst L;left;rcases uX (A:=X.A) I S T.in1 P N G J (show MW.Mm M 6 x y=_ from B)with h|⟨h1,h2⟩
 .exact(h.rc T.gQ).2 X.prog X.w X.xe _ (.bl !R,H,I,rfl,q)
 .subst h2
  show F0 Y s C H v u E O Q I G J (h1,q)
section
variable{nm:Nm}{W:Kh}{X:Cx}{a b c o:Expr}{a' b' c' o':Ex}{pos pos' apos:Pos}{ι:Io}{H:Hp}{σ:St}{ρ:En}{M M1 M2:fc}{x y:Dv}{es:Y3}{es':Ha}
set_option tactic.hygienic true in
theorem Pn:∀{T:List Dv}{bs:List Bool},MW.Pz M x T\bs->-bs=-T/\∀(j:Nat) d,T[j]?\d->∃b,bs[j]?\b/\MW.Bb M d x\b
 |[],bs,h=>by cases h;show(rfl,λj d e=>by simp at e)
 |y::ys,bs,h=>by
  erw[MW.Pz]at h;split at h
  .rename_i a b L O
   cases h;let(B,N):=Pn O;show(by simp[B],λj d e=>?_);cases j with
   |zero=>simp at e;subst e;show{1,a,rfl,L}|succ j=>simpa using N j d ('s' e)
  .cases h
def ME(S:ql nm X.K ι H M)(k:Nat):∀{x y z:Dv}{v:V}{r r':Bool},Xo X.K ι H x v->Xo X.K ι H y v->MW.Mm M k x z\r->MW.Mm M k y z\r'->r=r':=by
 induction k with
 |zero=>intro _ _ _ _ _ _ _ _ h;cases h
 |succ k Z =>
  intro x y z v r r' P R h J;let D:∀{as bs Y:List Dv}{E:List V}{r r':Bool},um X.K ι H as E->um X.K ι H bs E->MW.U0 (MW.Mm M k) as Y\r->MW.U0 (MW.Mm M k) bs Y\r'->r=r':=fun{as bs Y E r r'} O C h J=>by
   let hl:-as=-bs:=O.length>>C.length.symm;rw[(Gj h).2,(Gj J).2,hl]
   congr 1
   rw[Ay,jr,jr];let:∀j∈'r' (min (-bs) (-Y)),Hu (MW.Mm M k) as Y j=Hu (MW.Mm M k) bs Y j:=λj T=>by let T:=jg<*T;let A:bs[j]?=↑bs[j]:=bh 'a';let F:Y[j]?=↑Y[j]:=bh 'a';let Q:as[j]?=↑as[j]:=bh 'a';let(c1,L):=(Gj h).1 j _ _ Q F;let(c2,N):=(Gj J).1 j _ _ A F;let(v1,p1,p2):=O.get Q;let(v2,I,U):=C.get A;rw[p1]at I;cases I;erw[Hu,A,F,Q,L,N,Ar];show Z p2 U L N
   show(λq j T=>by rw[<-this j T];show q j T,λq j T=>by rw[this j T];show q j T)
  cases Nr h with
  |bl a b=>cases Nr J with
   |bl=>cases P;cases R;rfl|WK _ G=>cases G
  |int a b=>cases Nr J with
   |int=>cases P;cases R;rfl|WK _ G=>cases G
  |WL e=>cases Nr J with
   |WL B=>cases P with
    |WL L O=>cases R with
     |WL N C=>rw[L]at N;cases N;show D O C e B
   |WK _ G=>cases G
  |@WK _ _ as Y _ h1 G e=>cases Nr J with
   |@WK _ _ bs _ _ h3 h4 B =>
    rw[G]at h4;cases h4;let(E,O,C):=Z0 S P R h1 h3;rw[show -as=-bs from O.length>>C.length.symm]at e
    by_cases q:-bs=-Y
    .rw[dm q]at e B;show D O C e B
    .rw[cz q]at e B;rw[e]at B;cases B;rfl
   |_=>cases G
def jR(I:'i')(S:ql nm X.K ι H M)(hr:Dd 6 A)(O:um X.K ι H ds U)(B:WT U is)(F:Xo X.K ι H x u)(ru:WX u Z)(h:MW.Pz M x ds\bs):∃e:Value->Bool,(∀w,w∈is.toArray->SeqAt.EqAt A s w Z (e w))/\∀(j:Nat)(w:Value),is[j]?\w->bs[j]?\(e w):=by
 let(g1,N):=Pn h;let G:∀(j:Nat)(w:Value),is[j]?\w->∃b,bs[j]?\b/\SeqAt.EqAt A s w Z b:=λj w T=>by
  let L:j< -ds:=by rw[O.length,B.length];show(ak<*T).1
  let gd:ds[j]?=↑ds[j]:=by simp[L]
  let(b,J,C):=N j _ gd;let(v,a1,a2):=O.get gd;show(b,J,m4 I S 6 A _ _ v u w Z b hr a2 F (WT.dN B a1 T) ru C)
 classical
 show(λw=>if T:∃j:Nat,is[j]?\w then(bs[T.choose]?).getD false else false,λw T=>?_,λj w T=>?_)
 .let(j,D,e):=m9 ('s' T:w∈is)
  let Y:∃j:Nat,is[j]?\w:=(j,by simp[D,e]);let(b,J,C):=G Y.choose w Y.choose_spec;erw[dif_pos Y,J,Ar];show C
 .let Y:∃j:Nat,is[j]?\w:=(j,T)
  let(b,J,C):=G j w T;let(b',E,e4):=G Y.choose w Y.choose_spec;erw[dif_pos Y,E,Ar];rw[J]
  congr 1
  let L:j< -ds:=by rw[O.length,B.length];show(ak<*T).1
  let lk:Y.choose< -ds:=by rw[O.length,B.length];show(ak<*Y.choose_spec).1
  let gd:ds[j]?=↑ds[j]:=by simp[L]
  let Q:ds[Y.choose]?=↑ds[Y.choose]:=by simp[lk]
  let(c1,R,q2):=N j _ gd;let(c2,P,q4):=N Y.choose _ Q;let(V,p1,p2):=O.get gd;let(v2,p3,p4):=O.get Q;let hv:V=v2:=WX.inj (WT.dN B p1 T) (WT.dN B p3 Y.choose_spec);subst hv;rw[J]at R;rw[E]at P;cases R;cases P;show ME S 6 p2 p4 q2 q4
def MF{is:Zl}{bs:List Bool}(Y:-bs=-is)(h:∀(j:Nat) (w:Value),is[j]?\w->bs[j]?\(e w)):bs=is%e:=by
 apply uf;intro j;rw[ie];cases q:is[j]? with
 |none=>rw[jk (by rw[Y];show List.getElem?_eq_none_iff.mp q)];rfl|some w=>rw[h j w q];rfl
def uY{b:Bool}(n:Bool)(L:Dd 8 X.A)(S:ql nm X.K ι H M)(I:'i')(N:WX v v')(ru:WX u u')(D:Xo X.K ι H x v)(ry:Xo X.K ι H y u)(e:MW.Nu M x y\b)(q:Q (.bl (cond n (!b) b)) H):'q' (compareOp (cond n .NotIn .In) v' u') (EP X pins σ Q) X.xe s:=by
 let qq:∀E,MW.Cm M y\E->MW._O M x E\b->'q' (compareOp (cond n .NotIn .In) v' u') (EP X pins σ Q) X.xe s:=λE Y T=>by
  let(bs,G,C):=dg<*(show(MW.Pz M x E%(·.any id))\b from T);let(p,vs,rfl,P,r):=Pj S ry Y;cases ru;let fin:∀{is:Zl}{f:Value->Bool},WT vs is->(∀(j:Nat)(w:Value),is[j]?\w->bs[j]?\(f w))->is.toArray.any f=b:=fun{is f} O R=>by let:=MF (by rw[(Pn G).1,r.length,O.length]) R;rw[this]at C;rw[<-C];simp[List.any_map]
  rcases P with P|P
  .let(is,O,F,_):=I.list (Kp.of P)
   let(f,V,R):=jR (A:=X.A.in1) I S ((L.mono (by decide:7<=8)).in1) r O D N G;let a:=fin O R;subst a;cases n with
   |false=>show SeqAt.in_listAt f F.isList V (.bl _,H,I,rfl,q)|true=>show SeqAt.notIn_listAt f F.isList V (.bl _,H,I,rfl,q)
  .let(is,O,F,_):=I.tuple (Oe.of P)
   let(f,V,R):=jR (A:=X.A.in1) I S ((L.mono (by decide:7<=8)).in1) r O D N G;let a:=fin O R;subst a;cases n with
   |false=>show SeqAt.in_tupleAt f (show s.1.IsTuple p is.toArray from F) V (.bl _,H,I,rfl,q)
   |true=>show SeqAt.notIn_tupleAt f (show s.1.IsTuple p is.toArray from F) V (.bl _,H,I,rfl,q)
 let J:(MW.Cm M y*>(MW._O M x))\b->'q' (compareOp (cond n .NotIn .In) v' u') (EP X pins σ Q) X.xe s:=λe=>by let(E,Y,T):=ir<*e;show qq E Y T
 cases y with
 |ref m =>
  cases hM:M[m]? with
  |none=>erw[MW.Nu,hM]at e;show J e
  |some o=>cases o with
   |dT jo =>
    erw[MW.Nu,hM]at e;let(k,C,e3):=dg<*e;cases ry with
    |ref G =>
     let(l,Y,T):=S.XR m _ _ hM G;let(bb,rfl,Z):=gY D C;cases ru;let a:b=(Ux l k).isSome:=by
      rw[<-e3];cases hk:MW.Am jo k with
      |none=>rw[(T.YD (k:=k)).2 hk];rfl|some d=>let(z,h3,_):=(T.YD (k:=k)).1 d hk;rw[h3];rfl
     subst a;cases n with
     |false=>show sy (Zu L) I (Rm.t Y Z) N λU B=>(.bl _,H,B,rfl,q)
     |true=>show tD (Zu L) I (Rm.t Y Z) N λU B=>(.bl _,H,B,rfl,q)
   |dK jo =>
    erw[MW.Nu,hM]at e;let(k,C,e3):=dg<*e;cases ry with
    |ref G =>
     let(l,Y,T):=S.XR m _ _ hM G;let Z:=gX D C;subst Z;cases ru;let a:b=(Ux l k).isSome:=by
      rw[<-e3];cases hk:MW.Am jo k with
      |none=>rw[(T.YD (k:=k)).2 hk];rfl|some d=>let(z,h3,_):=(T.YD (k:=k)).1 d hk;rw[h3];rfl
     subst a;cases n with
     |false=>show sy (Zu L) I (Rm.k Y) N λU B=>(.bl _,H,B,rfl,q)
     |true=>show tD (Zu L) I (Rm.k Y) N λU B=>(.bl _,H,B,rfl,q)
   |_=>erw[MW.Nu,hM]at e;show J e
 |_=>show J e
def MG(G:Dd 8 X.A):Gx X (compareOp .In) (aE nm X.K .inn):=λY s σ H v u L N Q I J B C=>by let(ι,M,x,y,b,S,O,T,e,q):=C;show uY false G S I J B O T e q
def MH(J:Dd 8 X.A):Gx X (compareOp .NotIn) (aE nm X.K .Uz):=λY s σ H v u E L Q I B O N=>by let(ι,M,x,y,c,S,C,G,e,q):=N;let(b,T,rfl):=dg<*(show(MW.Nu M x y).map not\c from e);show uY true J S I B O C G T q
end
open aD (Gy X7)
def KH(H:Hp)(x:List _j×Addr):Prop:=H x.2\(.WL (x.1%kV))/\∀k∈x.1,∃i,k=.inl i
def uZ(P:Program)(w:World)(H:Hp):aD.X6 (uc P w) (KH H):=λx G k T v n Y=>by
 let(i,rfl):=G.2 k T;rcases Eh (show eH (Sum.inl i) v=true from Y)with⟨j,t,e,rfl⟩|⟨y,t,e,_⟩
 .unfold hashByValue;rfl
 .cases e
def Yu:∀ks:List Kx,MW.Ut (MW.gC ks)\ks:=λks=>by
 change MW.cV (ks%MW.gB)\ks
 induction ks with
 |nil=>rfl|cons k ks Y=>cases k<;>simp[MW.cV,MW.gB,MW.Z8,Y]
theorem ua:∀{l:List (List Kx×Dv)},MW.Hi (l%λp=>MW.gC p.1)\(l%(·.1))
 |[]=>rfl|p::l=>by simp[MW.Hi,Yu,ua]
def MI{C:Io}{H:Hp}{K:Fg}{Y:List Dv}{J:List V}{T:List (List Kx)}(a:um K C H Y J)(h:MW.Hi Y\T):∃bs:List Addr,J=bs%V.ref/\-bs=-T/\∀x∈T.zip bs,H x.2\(.WL (x.1%kV)):=by
 induction Y generalizing J T with
 |nil=>cases a;simp[MW.Hi]at h;subst h;show{1,[],rfl,rfl,'b'}
 |cons d Y O =>
  cases a with
  |cons r t =>
   erw[MW.Hi]at h;split at h
   .rename_i E N
    cases h;symm
    let(b,rfl,e):=gY r E;let(bs,rfl,L,B):=O t N;left;show{1,b::bs,rfl,by simp[L],λx G=>?_};erw[List.zip_cons_cons,dj]at G;rcases G with rfl|G
    .exact e
    .exact B x G
   .cases h
def MJ(h:MW.Hj Z=true):-Z<=30/\∀k∈Z,∀x∈k,∃i,x=Sum.inl i:=by
 erw[MW.Hj,bf,f9,jr]at h;show(h.1,λk Y x T=>?_);let:=h.2 k Y x T;cases x with
 |inl i=>show(i,rfl)|inr s=>cases this
protected def ub(hr:Dd 8 X.A)(I:'i')(S:ql nm X.K ι H M)(rx:Xo X.K ι H x v)(ru:WX v u)(T:MW.ZC M x\ds)(hd:MW.Hi ds\Y)(pl:MW.Hj Y=true)(h:∀p o n Z,WM X ((p,o)::pins) σ H Z->Gy (uc X.prog X.w) (KH H) Z.1 p (λk=>k∈Y) n->Z.1^p\o->Q ↥p Z) :
 'q' (call (.type "set") [u]) Q X.xe s:=by
 let(U,O):=MJ pl;let hu:X.A.in1.in1.in1.units+1<cLine:=by let:=hr.un;change X.A.units+1+1+1+1<cLine;lia
 let YM:∀b o,s.1^b\o->s.1.push (aD.Dq X.w)^b\o:=λb o e=>aq _ e
 let I1:WM X pins σ H (s<&>s.1.push (aD.Dq X.w)):=I.YM (t':=s.toks) YM;let fr:Gy (uc X.prog X.w) (KH H) (s.1.push (aD.Dq X.w)) s⁻¹ (λ_=>False) 0:=aD.AF (cu _ rfl);let fin:∀(B:Heap)(C W:Nat),(∀b o,b≠s⁻¹->s.1.push (aD.Dq X.w)^b\o->B^b\o)->Gy (uc X.prog X.w) (KH H) B s⁻¹ (λk=>k∈Y) W->Q (.ref s⁻¹) { s with heap:=B,toks:=C }:=λB C W L G=>by
  symm
  let I2:WM X pins σ H { s with heap:=B,toks:=C }:=I.YM λb o e=>L b o (gq (cj e)) (YM b o e)
  let(o,es,ep,t,hg,hc,qk,_):=G.get;left;show h _ o W _ (I2.Xa λq hq=>?_) G hg;rcases dj<*hq with rfl|hq
  .refine(hg,I.Dk.fresh (bz _),yw I.lt,I.mD (bz _),λv hv=>?_)
   rw[show o.data=_ from qk]at hv;cases hv
  .exact I2._Y q (jz _ hq)
 let WK:∀p P,v=↥p->H p\(.WK P)->um X.K ι H ds P->'q' (call (.type "set") [u]) Q X.xe s:=λp P ev hp r=>by
  subst ev;cases ru;symm
  let(is,rv,q0,_):=I1.list (Kp.of hp);let(bs,rfl,J,hz):=MI r hd;let q1:is=Y.zip bs%λx=>Value.ref x.2:=by
   apply uf;intro j;rw[ie]
   by_cases y:j< -bs
   .let N:(bs%V.ref)[j]?\(.ref bs[j]):=by simp[y]
    let E:j< -is:=by let:=-rv;simp at this;show b_ y (f_ this)
    let D:is[j]?=↑is[j]:=by simp[E]
    let:=WT.dN rv N D;rw[D,show is[j]=Value.ref bs[j]from this];let q3:j< -Y:=b_ y (f_ J)
    let qq:(Y.zip bs)[j]?\(Y[j],bs[j]):=by rw[bh (by simp;lia)];simp
    rw[qq];rfl
   .let E:¬j< -is:=by let:=-rv;simp at this;show j_ (a_ (g_ this) (s_ y))
    rw[jk (s_ E),jk (by simp;lia)];rfl
  left;show aD.Ms (R:=λZ=>Q (.ref s⁻¹) Z) ?_ λZ h=>h
  show aD.AK (uZ _ _ H) (ks:=Y.zip bs) (items:=is.toArray) (by let:=hr.hd;show this) hu fr q0.isList ('s' q1) (λx F=>T4 I1.Dk (hz x F)) (λx F=>(hz x F,λk T=>O x.1 (Df (a:=x.1) (b:=x.2) F).1 k T)) (by simp;lia) λB C W L G=>?_
  show fin B C W L (G.congr λk=>?_);rw[List.map_fst_zip (g_ J)]
 unfold MW.ZC at T;split at T
 .rename_i n
  split at T
  .rename_i jo hM
   cases T;rw[ua]at hd;cases hd;cases rx with
   |@ref n p N =>
    symm
    let(l,h1,h2):=S.XR n _ p hM N;cases ru;let(_,q2,xs,qv,dd):=mT I1.Dk h1;let(k1,k2):=uU qv;let k3:xs%(·.1)=jo%(·.1):=k1>>(uT h2);left;let hl:-xs=-jo:=by let:=rm List.length k3;simpa using this
    show aD.Ms (R:=λZ=>Q (.ref s⁻¹) Z) ?_ λZ h=>h
    show aD.AH (uZ _ _ H) (by let:=hr.un;change X.A.units+1+1<cLine;lia) fr dd q2 (λx F=>(k2 x F,λk T=>?_)) (by simp at U;lia) λB W sb G=>?_
    .let:x.1∈jo%(·.1):=by rw[<-k3];show bu.mpr (x,F,rfl)
     show O x.1 this k T
    .refine fin B s.toks W (λb o hb e=>sb.2 b hb>>e) (G.congr λk=>?_)
     rw[k3];simp
  .let(p,P,N,D,r):=wz S rx T
   show WK p P N D r
 .let(p,P,N,D,r):=wz S rx T
  show WK p P N D r
def MK(C:Gy (uc P w) (KH H) h p T n)(L:h^p\o)(J:Z^p\o)(le:∀a U,H a\(.WL U)->H' a\(.WL U))(ok:Vj P w H' Z):Gy (uc P w) (KH H') Z p T n:=by
 symm
 let(N,G,O,B,t,D,r):=C;let e:G=o:=j6 (D.get.symm>>L);subst e;left;show{5,N,G,O,B,t,(J,D.bP,D.ZR,D.YF,D.YZ,λx E=>?_,D.bG,D.led,D.bQ),r};let(_,Y,k2):=D.ZK x E;show(T4 ok (le _ _ Y),le _ _ Y,k2)
def ML:MW.Mt xs ys=true↔∀k,k∈xs↔k∈ys:=by
 erw[MW.Mt,bf,jr,Bx,f9];constructor
 .rintro⟨T,J⟩ k
  show(λh=>by let(y,Y,e):=T k h;rw[<-e];show Y,λh=>by let(y,Y,e):=J k h;rw[<-e];show Y)
 .exact λh=>(λx G=>(x,h x<*G,rfl),λy Y=>(y,(h y).mpr Y,rfl))
def MM(F:Dd 8 X.A)(hg:Gl X Z)(hm:X.mg Z=())(hv:bootBuiltins Z\(.type "set"))(hn:Z≠"__name__")(Wf:(Z==("__debug__": Str))=false)(ha:PA X [a] (aA nm W X.K (.cons a' .nil)))(hb:PA X [b] (aA nm W X.K (.cons b' .nil)))(he:starEach [a] X.env=(false,eval a X.env)::starEach [] X.env)(q4:starEach [b] X.env=(false,eval b X.env)::starEach [] X.env)(Kv:(backTo q1 (starEach [] X.env)).any (·.1)=false)(q5:(backTo q2 (starEach [] X.env)).any (·.1)=false) :
 PC X .NotEq (.Call (.Name Z p1) [a] [] q1) (.Call (.Name Z p2) [b] [] q2) ('t' (.dt a' b')):=by
 intro C s σ H Q I hh;symm
 let(ι,ρ,M,d,M',S,R,e,q):=hh;rw[MW.qT]at e;let(x,P,e1,e):=gw e;left;cases hk1:(MW.ZC P x)*>MW.Hi with
 |none=>rw[hk1]at e;cases e
 |some ks =>
  rw[hk1]at e;simp only at e;split at e
  .rename_i D
   let(y,M2,e2,e):=gw e;cases hk2:(MW.ZC M2 y)*>MW.Hi with
   |none=>rw[hk2]at e;cases e
   |some ls =>
    rw[hk2]at e;simp only at e;split at e
    .rename_i G7
     cases e;let(q8,g1,qv):=ir<*hk1;let(q7,g2,q0):=ir<*hk2;show jx (Fe I hg hm hv ?_ hn Wf);show jq (Kd (ha q1 C s σ H (λJ B=>∃Y v,J=[v]/\Le ι H Y B/\ql nm X.K Y B P/\Xo X.K Y B x v) I {5,ι,ρ,M,[x],P,S,R,by simp[e1,WR.bind],λY B J le V r=>?_}) λus s1 z=>?_) he Kv
     .let(v,ev,O):=Nq r rfl
      show{2,Y,v,ev,le,V,O}
     symm
     let(J,B,I1,r1,Y,v,rfl,N,V,rx):=z;left;cases r1 with
     |cons O rn =>
      cases rn;show ub F I1 V rx O g1 qv D λp o n s2 I2 hS qq=>?_
      show jx (Fe I2 hg hm hv ?_ hn Wf);show jq (Kd (hb q2 _ s2 σ B (λJ G=>∃T v,J=[v]/\Le Y B T G/\ql nm X.K T G M'/\Xo X.K T G y v) I2 {5,Y,ρ,P,[y],M',V,R.mono N,by simp[e2,WR.bind],λT G J le E r=>?_}) λus s3 z=>?_) q4 q5
      .let(v,ev,O):=Nq r rfl
       show{2,T,v,ev,le,E,O}
      symm
      let(J,G,I3,r2,T,v2,rfl,Cj,E,ry):=z;left;cases r2 with
      |cons U q3 =>
       cases q3;show ub F I3 E ry U g2 q0 G7 λp' o' n' s4 L X8 q6=>?_
       let hp:s4.1^p\o:=(L._Y (p,o) (jz _ (bw _ dw))).1;let qk:=MK (H':=G) hS qq hp Cj.WL L.Dk;show aD.AR (by let:=F.un;change X.A.units+1<cLine;lia) (by let:=F.un;lia) qk X8 λc hc=>?_
       let ec:c=!MW.Mt ks ls:=by let:=ML (xs:=ks) (ys:=ls);cases c<;>cases h:MW.Mt ks ls<;>simp_all
       show(.bl c,G,(L.Xa λz hz=>L._Y z (jz _ (bw _ (bw _ hz)))),rfl,?_);rw[ec];show q T G _ (N>>Cj) E (.bl _)
    .cases e
  .cases e
def rM(J:Nm)(K:Fg)(m:Bm):V->List V->Hp->VK->Prop:=λv C H Q=>∃T M x O d B,ql J K T H M/\Xo K T H x v/\um K T H O C/\MW.Kg m x O M=.ok d B /\
 ∀Y G w,Le T H Y G->ql J K Y G B->Xo K Y G d w->Q w G
theorem jS{id:String}(hT:∀ι H M x v,ql nm X.K ι H M->Xo X.K ι H x v->MW.Oo m x M=true->gT X.K T v H)(pa:PlainAttrs T)(G:Slot T name id)(J:typeOf (.builtin id)=pure (.type "method_descriptor"))(hm:dM X id (rM nm X.K m))(ho:PE X o ('t' o'))(ha:PA X (e::Z) (aA nm W X.K qq))(N:attributeBase o name X.env (eval o X.env)=eval o X.env)(P:((backTo U (starEach (e::Z) X.env)).all (λx=>!x.1)&&(backToKw U (keywordEach [] X.env)).all (λx=>x.1.isSome)
&&decide (-(e::Z)+-([]:List Keyword)+(if([]:List Keyword).isEmpty then 0 else 1)<30))=true)(E:(apos.endLine==U.line)=true)(hs:starEach (e::Z) X.env=(false,eval e X.env)::starEach Z X.env)(B:(backTo U (starEach Z X.env)).any (·.1)=false) :
 PE X (.Call (.Attribute o name apos) (e::Z) [] U) ('t' (.bm m o' qq)):=
 PE.of (Ic pa G J hm ho ha N P E hs B) fun σ H Q ι ρ M d M' S R e q=>by
  rw[MW.qQ]at e;let(x,F,e1,e):=gw e;split at e
  .rename_i ht
   let(D,I,e2,e):=gw e;show one S R e1 λY H1 v le A R1 r=>(hT Y H1 F x v A r ht,Y,ρ,F,D,I,A,R1,e2,λL H2 vs V S2 rs=>{6,L,I,x,D,d,M',S2,r.mono V,rs,e,λO H' w C S' r'=>q O H' w ((le>>V)>>C) S' r'})
  .cases e
def ui(h:MW.cJ o M f=.ok d M'):∃n Z,o=↥n/\M[n]?\(.WK Z)/\f n Z=.ok d M':=by
 cases o with
 |ref n =>
  erw[MW.cJ]at h;cases e:M[n]? with
  |none=>rw[e]at h;cases h
  |some o=>cases o with
   |WK Z=>rw[e]at h;show{2,n,Z,rfl,e,h}|_=>rw[e]at h;cases h
 |_=>cases h
def gk{Y:List Dv}(h:MW.Om Y g=.ok d M'):∃x,Y=[x]/\g x=.ok d M':=by
 match Y,h with
 |[x],h=>show(x,rfl,h)|[],h=>cases h|_::_::_,h=>cases h
def jT{c:Prop}[Decidable c]{r:WR α}(h:(if c then r else .WY)=.ok d M'):c/\r=.ok d M':=by
 by_cases z:c
 .rw[dm z]at h;show(z,h)
 .rw[cz z]at h;cases h
def ty_list{X:Cx}(S:ql nm X.K Z H M)(r:Xo X.K Z H x v)(h:(MW.gr M x).isSome=true):gT X.K "list" v H:=by
 symm
 let(J,Y):=qz<*h;let(p,G,rfl,T,_):=wz S r Y;left;show .inl (rfl,G,Kp.of T)
def MN(e:MW.Kg .index x ds M=.ok d M'):∃Z U j,ds=[Z]/\MW.gr M x\U/\MW.b0 M Z U\j/\d=⇑((j:Nat):Int)/\M'=M:=by
 symm
 let(Z,rfl,T):=gk e;let(Y,G):=zb T;let(j,O,J):=dg<*Y;let(U,B,C):=ir<*O;left;show{3,Z,U,j,rfl,B,C,J.symm,G}
def MP:dM X "list.append" (rM nm X.K .append):=λY s F H v vs u U Q I ru D hh=>by
 symm
 let(ι,M,x,ds,d,M',S,r,A,e,q):=hh;let(n,L,rfl,T,O):=ui e;let(d0,rfl,N):=gk O;let(V,E):=jT N;cases E;left;cases r with
 |ref G =>
  let(B,W,J):=S.XR n _ _ T G;cases A with
  |cons C Z =>
   cases Z;show tW Y s F H _ _ u U Q I ru D {3,_,B,_,rfl,rfl,W,by rw[<--J];show iu V ⋯,?_};let(P,R):=S.put (u:=.WK (B++[_])) (o:=.WK (L++[_])) T G λle=>{1,_,z8,(J.mono le).append (.cons (C.mono le) .nil)}
   show q _ _ _ R P .XQ
def MQ:dM X "list.extend" (rM nm X.K .extend):=λY s A H v vs u us Q I ru U hh=>by
 symm
 let(ι,M,x,ds,d,M',S,r,D,e,q):=hh;let(n,E,rfl,G,N):=ui e;let(y,rfl,T):=gk N;left;cases y with
 |vl Z =>
  let(W,P):=jT T;cases P;cases r with
  |ref B =>
   let(C,F,O):=S.XR n _ _ G B;cases D with
   |cons L ht =>
    cases ht;cases L with
    |vl h5 _ J =>
     show JC Y s A H _ _ u _ Q I ru U {4,_,_,C,_,rfl,rfl,F,h5,by rw[<--O,<--J];show Aj (mu W),?_};let(R,V):=S.put (u:=.WK (C++_)) (o:=.WK (E++Z)) G B λle=>{1,_,z8,(O.mono le).append (J.mono le)}
     show q _ _ _ V R .XQ
 |_=>cases T
def Xf:∀{bs:List Bool}{j:Nat},bs.findIdx? id\j->bs[j]?\true/\∀m,m<j->bs[m]?\false:=fun{bs j} h=>by let(T,J,G):=uz<*h;show(by rw[bh T];simpa using J,λm Y=>?_);let:=G m Y;rw[bh (d_ Y T)];simpa using this
def MR(hr:Dd 8 X.A):dM X "list.index" (rM nm X.K .index):=λN s σ H v vs u us Q I ru Xz hh=>by
 symm
 let(ι,M,x,ds,d,D,S,r,rs,e,q):=hh;let(d0,xs,j,rfl,W,e2,rfl,rfl):=MN e;left;cases rs with
 |cons Z ht =>
  cases ht;cases Xz with
  |cons hu B =>
   cases B;symm
   let(bs,C,e4):=ir<*(show(MW.Pz D d0 xs*>(·.findIdx? id))\j from e2);let(p,ys,rfl,U,E):=wz S r W;cases ru;let(z,is,n,rv,L,O):=I.fP U;let(f,g1,g2):=jR (A:=X.A.in1) I S ((hr.mono (by decide:7<=8)).in1) E rv Z hu C;let(f1,f2):=Xf e4;let hb:=(Pn C).1;let T:-is=-bs:=by rw[hb,E.length,L]
   left;let V:j< -is:=by rw[T];show(ak<*f1).1
   let P:∀m (Y:m< -is),bs[m]?\(f is[m]):=λm Y=>g2 m _ (bh Y)
   let hT:s.TypeIs ↥p "list":= (_,O,rfl);let G:-is<=sizeLine:=by rw[<-L];show z
   rw[vo]at G;show call_meetsIn F.slot_list_index hT F.entry_list_index (F.args_list_index_2 _ _) (λA R s h=>SeqAt.list_indexAt p is.toArray n () #[] _ f j ('s' V) 'a' ?_ ?_ _ _ A R s h) (O,g1,?_)
   .let:=P j V;rw[f1]at this;simpa using(j6 this).symm
   .intro m Y J
    let Y:m< -is:='s' Y
    let:=P m Y;rw[f2 m J]at this;simpa using(j6 this).symm
   .exact(⇑j,H,I.tok _,(_,rfl),q ι H _ (Le.refl _ _) S ⇑_)
end Sm
namespace aD
open PySem L2
def fS(k:List _j):Prop:=∃i j:Int,-1<=i/\i<9/\-1<=j/\j<9/\k=[.inl i,.inl j]
def jU(i j:Int):Int:=reduceHash (Builtin.Tuple.tupleHashOf [hashInt i,hashInt j])
def fT:List Int:=[-1,0,1,2,3,4,5,6,7,8]
def MS:(fT.all λi=>fT.all λj=>fT.all λZ=>fT.all λU=>(jU i j != jU Z U)||(i==Z&&j==U))=true:=by decide+kernel
def jV(Y:-1<=i)(T:i<9):i∈fT:=by
 let:i=-1\/i=0\/i=1\/i=2\/i=3\/i=4\/i=5\/i=6\/i=7\/i=8:='a'
 unfold fT;erw[dj,u9,Dp];show this
def vA{P:Program}(h:fS k)(N:fS k')(e:tupleKeyHash (uc P w) k=tupleKeyHash (uc P w) k'):k=k':=by
 symm
 let(i,j,L,E,C,G,rfl):=h;let(Y,j',T,J,B,O,rfl):=N;let e:jU i j=jU Y j':=e;let:=jr.mp (jr.mp (jr.mp (jr.mp MS i (jV L E)) j (jV C G)) Y (jV T J)) j' (jV B O);rw[e]at this;simp at this;left;rw[this.1,this.2]
def MT(Y:IsTupleKey (uc prog w) s.1 Z a)(h:Q false s):'p' (Builtin.Dict.quietEq ↥a) Q E s:=by
 unfold Builtin.Dict.quietEq;show aa (wpAny_specialOf Y.typeIs F.slot_tuple_eq.lookup ?_);show aj ?_;let:(↑(Value.builtin "tuple.__eq__")==↑(Value.builtin "object.__eq__"))=false:=by decide
 rw[this];show h
def MU{G:List (List _j×Addr×Value)}(N:(G%(·.1)).Nodup)(T:∀x∈G,fS x.1)(J:x∈G) :
 -((G%(entryOfKey (tupleKind (uc prog w)))).filter (·.hash==tupleKeyHash (uc prog w) x.1))<=1:=by
 induction G with
 |nil=>simp
 |cons y R E =>
  rw[gm,vy]at N;rw[gm]
  by_cases O:tupleKeyHash (uc prog w) y.1=tupleKeyHash (uc prog w) x.1
  .let e:=vA (T y dw) (T x J) O
   let P:(R%(entryOfKey (tupleKind (uc prog w)))).filter (·.hash==tupleKeyHash (uc prog w) x.1)=[]:=by rw[List.filter_eq_nil_iff];intro z C L;let(B,Y,rfl):=bu<*C;let L:tupleKeyHash (uc prog w) B.1=tupleKeyHash (uc prog w) x.1:=eq_of_beq (show(tupleKeyHash (uc prog w) B.1==tupleKeyHash (uc prog w) x.1)=true from L);let:=vA (T B (bw _ Y)) (T x J) L;show N.1 (bu.mpr (B,Y,this>>e.symm))
   rw[By,P];split<;>simp
  .rw[By,cz (by change ¬((tupleKeyHash (uc prog w) y.1==tupleKeyHash (uc prog w) x.1)=true);simpa using O)]
   rcases dj<*J with rfl|J
   .exact absurd rfl O
   .exact E N.2 (λz C=>T z (bw _ C)) J
def MV{id:String}{T:List (List _j×Addr×Value)}(H:s.1^d\o)(L:o.data=.dict Z U)(G:Z.toList=T%(entryOfKey (tupleKind (uc prog w))))(N:∀x∈T,IsTupleKey (uc prog w) s.1 x.1 x.2.1)(S:(T%(·.1)).Nodup)(P:∀x∈T,fS x.1)(h:Q Z s) :
 'p' (Builtin.Dict.entriesForEmpty id d) Q E s:=by
 unfold Builtin.Dict.entriesForEmpty;show aa (v8 H L ?_);show aa ?_;rw[<-Cw];show ou _ (λY _ B=>B=s/\∀e∈Y,∃x∈T,e=entryOfKey (tupleKind (uc prog w)) x) _ ?_ ?_ _ _ (rfl,λe O=>?_)
 .rintro e Y r B ⟨rfl,C⟩
  let(x,J,rfl):=C e dw;change 'A' (Builtin.Dict.quietEq ↥x.2.1>>=_) _ _ _;show aa (MT (N x J) ?_);erw[Bl,my];let V:=MU (prog:=prog) (w:=w) S P J;rw[cz (by
   intro R;let:(Z.filter (·.hash==(entryOfKey (tupleKind (uc prog w)) x).hash)).size=-(T%(entryOfKey (tupleKind (uc prog w)))).filter (·.hash==tupleKeyHash (uc prog w) x.1):=by rw[<-G,<-vd,Array.toList_filter];rfl
   show l_ R (a_ (f_ this) V))]
  show aj (rfl,λe G=>C e (bw _ G))
 .rintro b B ⟨rfl,_⟩
  show aj h
 .rw[G]at O
  let(x,J,rfl):=bu<*O;show{1,x,J,rfl}
def MX{prog:Program}{w:World}{h T:Heap}{Y:List _j}{p a:Addr}(x:IsTupleKey (uc prog w) h Y p)(G:∀b o,h^b\o->T^b\o):IsTupleKey (uc prog w) T Y p:=
 let (o,items,n,ho,r):=x;{3,o,items,n,G p o ho,r}
def MY(X:(d==sysModules)=false)(hd:s.1.DictOfH (tupleKind (uc prog w)) d Z)(hs:∀x∈Z,fS x.1)(M:-Z<=sizeLine)(h:∀U,U.DictOfH (tupleKind (uc prog w)) s⁻¹ Z->(∀b o,s.1^b\o->U^b\o)->Q (.ref s⁻¹) (s<&>U)) :
 'p' (call (.type "dict") [↥d]) Q E s:=by
 show callType_codes (Q₁:=λXR N=>XR=.ref s⁻¹/\N=(s<&>s.1.push { cls:=.type "dict",data:=.dict #[] })) F.kt_called_dict (F.kt_typeCall_dict_1 _) F.entry_dict_init (kt_code_dict_new _ (rfl,rfl)) ?_;rintro XR N ⟨rfl,rfl⟩;symm
 let q0:=hd.typeIs;let(od,T,qv,L,qq,O,B,I,R):=hd;let keep:∀b o,s.1^b\o->(s.1.push { cls:=.type "dict",data:=.dict #[] })^b\o:=λb o e=>aq _ e
 let G:(s.1.push { cls:=.type "dict",data:=.dict #[] })^s⁻¹=some { cls:=.type "dict",data:=.dict #[] }:=cu _ rfl;let S:Shared.TypeIs (s<&>s.1.push { cls:=.type "dict",data:=.dict #[] }) (.ref s⁻¹) "dict":= {1,_,G,rfl};let P:Shared.TypeIs (s<&>s.1.push { cls:=.type "dict",data:=.dict #[] }) ↥d "dict":= {1,od,keep _ _ L,qq.1};let C:=keep _ _ L;let qk:s⁻¹≠d:=λe=>absurd (cj L) (by rw[e];show ph _)
 let J:T.size=-Z:=size_of_entries B;left;show(S,F.args_dict_init_2 _ _,?_);unfold Builtin.«dict.__init__»;show aa ?_;unfold Builtin.Dict.selfAndRest;show aa (wpAny_notOrdered_dict S ?_);change 'A' (pure (Prod.mk s⁻¹ [Value.ref d])) _ _ _;show aj ?_;change 'A' (Builtin.Dict.updateFrom "dict.__init__" s⁻¹ ↥d [] .none) _ _ _;unfold Builtin.Dict.updateFrom;show aa (ux P ?_);rw[cz ⋯];show aa ?_;unfold Builtin.Dict.merge;show aa ?_;unfold Builtin.Dict.readDirectly;show aa (o4 P isSubtype_dict_dict ?_);erw[uv,dq,jt];show aa (wpAny_specialOf P F.slot_dict_iter.lookup (aj ?_));erw[Ci,my];show aa (aj ?_);unfold Builtin.Dict.mergeDict;rw[cz ('s' qk)];unfold Builtin.Dict.showsAll;rw[cz (by rw[X];show Av)];show aa (aj ?_);show aa (v8 C O ?_);let K:∀{U:Heap},(∀b o,s.1^b\o->U^b\o)->∀x∈Z,(tupleKind (uc prog w)).is U x.1 x.2.1:=λhk x hx=>MX (a:=d) (I x hx) hk
 let H:T=#[]->∀s',s'=(s<&>s.1.push { cls:=.type "dict",data:=.dict #[] })->wq prog w A.in1.in1 (Builtin.Dict.addKeywords s⁻¹ []>>=λ_=>ret Value.none) (λfin s'=>match fin with|.done f=>wants (λr Y=>r=Value.none/\Q (.ref s⁻¹) Y) E (.ok f) s'|.again c'=>c'.quiet=true/\codeAny (model prog w) A.in1 c' (wants (λr Y=>r=Value.none/\Q (.ref s⁻¹) Y) E) s') (λe s'=>wants (λr Y=>r=Value.none/\Q (.ref s⁻¹) Y) E (.error e) s') s':=λW s' Uo=>by let D:Z=[]:=uq<*(by rw[<-J,W];rfl);subst Uo;show aa (aj (aj (rfl,h _ {3,_,#[],0,G,(rfl,rfl,rfl),rfl,?_,K keep,R} keep)));rw[D];rfl
 dsimp only;split
 .refine aa (v8 G rfl ?_)
  rw[dm (show(#[]:Array DictEntry).isEmpty=true from rfl)];show aa (MV C O B (K keep) R hs ?_);split
  .refine aa (wpAny_updateDictKeysTo G rfl (aj ?_) (by change T.size<=_;show a_ (f_ J) (a_ M x_)))
   let V:∀b o,s.1^b\o->((s.1.push { cls:=.type "dict",data:=.dict #[] }).update s⁻¹ (Obj.mapDictKeys λ_=>T))^b\o:=λb o e=>by rw[yc _ _ (j4 (gq (cj e)))];show keep b o e
   show aa (aj (aj (rfl,h _ {3,_,T,0+1,qy _ G (Obj.isFreed_of_dict (Obj.data_mapDictKeys rfl _)),(rfl,rfl,rfl),Obj.data_mapDictKeys rfl _,B,K V,R} V)))
  .rename_i Zc
   show aj (H (Array.isEmpty_iff.mp ('s' Zc)) _ rfl)
 .rename_i hf
  let W:T=#[]:=by
   apply w5;intro Zc;let hx:Z≠[]:=λe=>Zc (Array.eq_empty_of_size_eq_zero (by rw[J,e];rfl))
   let(x,ys,rfl):=List.exists_cons_of_ne_nil hx;let Jm:(T.all λe=>(keyPart e.key).isSome)=true:=by erw[Bool.not_eq_true',Bool.not_eq_false,bf]at hf;show hf.2
   rw[<-Array.all_toList,B,gm,List.all_cons,bf]at Jm;show Bool.noConfusion (Jm.1:(keyPart ↥x.2.1).isSome=true)
  show aa (wpAny_dictEpoch C O ?_);show aa (v8 C O ?_);show aa ?_;rw[W,yx];erw[Std.Legacy.Range.size,gn,List.length_nil,Nat.sub_zero,xd,Nat.sub_self,Nat.div_one,List.range'_zero,List.forIn_nil];show aj (aj (H W _ rfl))
end aD
namespace Sm
open PySem L2
open MW (Ex Ha ag Qz Ea nq Lv Tg WR fc MO Kh Cp bJ bD Bm Kx XN)
protected def MZ(h:MW.Ye l=true):∀k∈l%(·.1),aD.fS k:=λk B=>by
 let(p,T,rfl):=bu<*B;erw[MW.Ye,jr]at h;let:=h p T;split at this
 .rename_i i j e
  erw[bf,f9]at this;show{2,i,j,this.1.1.1,this.1.1.2,this.1.2,this.2,e}
 .cases this
def M_{X:Cx}(S:ql nm X.K Z H M)(Y:H p=())(r:yq X.K Z H (λk k'=>k=k') U l) :
 ql nm X.K (Z.XS p) (XD H p (.dT l)) (M++[.dT U])/\Le Z H (Z.XS p) (XD H p (.dT l))/\Xo X.K (Z.XS p) (XD H p (.dT l)) ↥(-M) ↥p:=by
 let(T,le):=S.new (H':=XD H p (.dT l)) (o:=.dT U) Y (λa u e=>by rw[qp (ug e Y)];show e) λle=>(l,z8,r.mono le)
 show(T,le,↥(by change(Z.l++[p])[M.length]?\p;rw[<-S.len];simp))
def Mb:Ff X (.type "dict") (rB nm X.K .dict):=λN s σ H vs us Q I Xz hh=>by
 let(ι,M,ds,d,M',S,r,e,q):=hh;cases r with
 |nil=>simp[MW.qu]at e
 |@cons x v _ _ h t =>
  cases t with
  |cons J t2=>cases x<;>simp[MW.qu]at e
  |nil =>
   cases Xz with
   |cons ru D =>
    cases D;cases h with
    |@ref n p hp =>
     cases ru;let e:(match M[n]? with|some (.dT G)=>if MW.Ye G then MW.new (.dT G) M else .WY|_=>.WY)=.ok d M':=e;split at e
     .rename_i G P
      split at e
      .rename_i E
       cases e;let(l,W,J):=S.XR n _ p P hp;let(z,B,C,Y,dd):=mT I.Dk W;let(O,k2):=uU Y;let hl:-C=-l:=by let:=rm List.length O;simpa using this
       show aD.MY B dd (λx hx=>?_) (by rw[hl];show z) λh' T keep=>?_
       .refine MZ E x.1 ?_
        rw[<-uT J,<-O];show bu.mpr (x,hx,rfl)
       .let L:H s⁻¹=():=I.Dk.fresh (bz _)
        let(F,U,r2):=M_ (X:=X) S L J;show(.ref s⁻¹,XD H s⁻¹ (.dT l),I.laid (a:=s⁻¹) (o:=.dT l) (t':=s.toks) keep (bz _) ?_,rfl,q _ _ _ U F r2);let(o,Z,ep,g1,g2,V,R,g5,A):=T;show(z,xg.mpr (j4 (gq I.big)),C,Y.keeps (λb ys e=>by rw[qp (ug e L)];show e),o,Z,ep,g1,g2,V,R,A)
      .cases e
     .cases e
    |_=>cases e
def ints_rep{E:Io}{H:Hp}{K:Fg}{Y:List Dv}{T:List V}{is:Zl}{ns:X9}(a:um K E H Y T)(b:WT T is)(h:MW.Yd Y\ns):∃Z:Array (Int×Tok),is.toArray=intItems Z/\Z.toList%(·.1)=ns:=by
 induction Y generalizing T is ns with
 |nil=>cases a;cases b;cases h;show(#[],by simp[intItems],rfl)
 |cons d Y L =>
  cases a with
  |cons r t =>
   cases b with
   |cons C P =>
    cases r<;>erw[MW.Yd]at h<;>try cases h
    symm
    let(O,J,N):=dg<*h;let(Z,B,S):=L t P J;let(R,rfl):=C;left;show(#[(i,R)]++Z,?_,by simp[S,N]);let G:=rm Array.toList B;apply Array.toList_inj.mp;simp[intItems]at G⊢;show G
theorem vB:∀(l:X9)(z m:Int),(m=z\/m∈l)->z<=m->(∀a∈l,a<=m)->l.foldl (λm x=>if m<x then x else m) z=m
 |[],z,m,h,_,_=>by rcases h with h|h;show h.symm;cases h
 |a::l,z,m,h,hz,Jm=>by
  rw[List.foldl_cons];let G:=Jm a dw;show vB l _ m ?_ (by split<;>lia) (λb T=>Jm b (bw _ T));rcases h with h|h
  .subst h;show .inl ?_;split<;>lia
  .rcases dj.mp h with h|h
   .subst h
    by_cases Y:z<m
    .show .inl ?_;rw[dm Y]
    .show .inl ?_;rw[cz Y];lia
   .exact .inr h
def vD(e:MW.two ds f g M=.ok d Z):Z=M/\((∃i j,ds=[⇑i,⇑j]/\d=⇑(f i j))\/∃x m,ds=[x]/\g x\m/\d=⇑m):=by
 cases ds with
 |nil=>cases e
 |cons x r=>cases r with
  |nil =>
   let(Y,T):=zb (show WR.wg (g x%MW.D.int) M=.ok d Z from e);let(m,J,G):=dg<*Y;show(T,.inr {2,x,m,rfl,J,G.symm})
  |cons y r=>cases r with
   |nil =>
    cases x<;>try cases e
    cases y<;>cases e;show(rfl,.inl {2,_,_,rfl,rfl})
   |cons _ _=>cases e
def Mc{h:List Int->Option Int}(e:MW.two ds f (λd=>(MW.gr M d*>MW.Yd)*>h) M=.ok d M'):M'=M/\((∃i j,ds=[⇑i,⇑j]/\d=⇑(f i j))\/∃x U n Z m,ds=[x]/\MW.gr M x\U/\MW.Yd U\(n::Z)/\h (n::Z)\m/\d=⇑m\/h []\m):=by
 obtain⟨a,b|⟨x,m,O,C,B⟩⟩:=vD e
 .exact(a,.inl b)
 .let(Z,G,Y):=ir<*C
  let(U,T,J):=ir<*G;cases Z with
  |nil=>show(a,.inr {5,x,U,0,[],m,.inr Y})|cons n Z=>show(a,.inr {5,x,U,n,Z,m,.inl (O,T,J,Y,B)})
def Y4(h:WT [v] Z):∃u,Z=[u]/\WX v u:=L2.WT.one h
def vE(h:i<Z.size):(Z.toList%(·.1))[i]?\(numAt Z i):=by simp[numAt,h]
def best{Y:Array (Int×Tok)}{R:Int->Int->Prop}(J:Y.toList%(·.1)=n::l)(h:b<Y.size)(O:∀i,i<Y.size->R (numAt Y i) (numAt Y b)):(numAt Y b=n\/numAt Y b∈l)/\∀a∈n::l,R a (numAt Y b):=by
 constructor
 .let:=az (vE h)
  rw[J]at this;show dj<*this
 .intro a B
  rw[<-J]at B;let(i,T):=xm<*B;let G:i<Y.size:=by let:=(ak<*T).1;simpa using this
  rw[vE G]at T;cases T;show O i G
def vF(r:um K U H [⇑i,⇑j] Z):Z=[⇑i,⇑j]:=by
 cases r with
 |cons G T=>cases T with
  |cons Y t2=>cases t2;cases G;cases Y;rfl
def Md(I:'i')(S:ql nm X.K ι H M)(r:um X.K ι H [x] vs)(E:WT vs us)(G:MW.gr M x\U)(N:MW.Yd U\(n::ns)):∃a Z,us=[↥a]/\s.1.IsList a (intItems Z)/\Z.toList%(·.1)=n::ns/\0<Z.size:=by
 symm
 let(v,rfl,C):=Nq r rfl;let(u,rfl,L):=Y4 E;let(p,R,rfl,O,J):=wz S C G;cases L;let(is,Y,P,_):=I.list (Kp.of O);let(Z,B,T):=ints_rep J Y N;left;show{2,_,Z,rfl,by rw[<-B];show P.isList,T,?_};let:=rm List.length T;simp at this;lia
def Mn(B:X.YB=true):Ff X (.builtin "max") (rB nm X.K .max):=λY s A H vs D Q I C U=>by
 symm
 let(J,M,ds,d,M',S,r,e,q):=U;left;obtain⟨rfl,⟨i,j,rfl,rfl⟩|⟨x,xs,n,l,m,⟨rfl,N,L,T,rfl⟩|T⟩⟩:=Mc (h:=MW.k9) e
 .cases vF r
  show F9 B Y s A H _ D Q I C {2,i,j,rfl,q J H _ (Le.refl _ _) S ⇑_}
 .symm
  let(a,O,rfl,Z,V,W):=Md I S r C N L;left;show max_intList (I.ok.hd B) Z W λw h' tk P keep=>?_
  symm
  let(t,rfl):=intItems_at P;let(b1,F):=argBest_gt (numAt O) (O.size-1);let(E,G):=best (R:=(·<=·)) V (by omega) λi hi=>F i 'a'
  cases T;rw[vB l n _ E (G n dw) λa h=>G a (bw _ h)]at q;left;show(⇑_,H,I.YM keep,(t,rfl),q J H _ (Le.refl _ _) S ⇑_)
 .cases T
def Xg(n d:Nat)(o:Option Int):HT.Jq n d o=MW.clip n d o:=by
 cases o with
 |none=>rfl
 |some i =>
  change(if i<0 then(i+(n:Int)).toNat else min i.toNat n)=(if 0<=i then min i.toNat n else(i+(n:Int)).toNat)
  by_cases h:i<0
  .rw[dm h,cz 'a']
  .rw[cz h,dm 'a']
def tO(J:Nm)(W:Kh)(K:Fg)(o:ag):TO:=λC H Q=>∃T O M d B,ql J K T H M/\yr K T H O C/\o.WD W O M=.ok d B/\∀Y G,Le T H Y G->ql J K Y G B->Q d G
def PO.YL(h:PO X e t)(w:∀Z H Q,t' Z H Q->t Z H Q):PO X e t':=λY s Z H Q I q=>h Y s Z H Q I (w Z H Q q)
def PO.of(h:PO X e t)(w:∀σ H Q U ρ M d M',ql nm X.K U H M->yr X.K U H ρ σ->o'.WD W ρ M=.ok d M'->(∀Z H',Le U H Z H'->ql nm X.K Z H' M'->Q d H')->t σ H Q):PO X e (tO nm W X.K o'):=PO.YL h fun σ H Q z_=>by let(U,ρ,M,d,M',S,R,e,q):=z_;show w σ H Q U ρ M d M' S R e q
def Mo:PO X () (tO nm W X.K .none):=PO.of ID λJ H Q Y G M d T S R e q=>by rw[MW.BX]at e;cases e;show q Y H (Le.refl _ _) S
protected def NA(N:PE X a ('t' Z)):PO X ↑a (tO nm W X.K (.some Z)):=PO.of (tL N) λP H Q F V M d E S R e q=>by rw[MW.BY]at e;let(x,A,B,e):=gw e;split at e<;>cases e;rename_i i;show one S R B λT O v le L I r=>by cases r;show(i,rfl,q T O le L)
protected def NB(ha:PE X a ('t' a'))(hl:PO X lo (tO nm W X.K U))(hh:PO X hi (tO nm W X.K Zb)):PE X (.Subscript a (.Slice lo hi () p2) pos) ('t' (.cut a' U Zb)):=
 PE.of (IF (dJ.or IV IH) ha hl hh) fun σ H Q ι ρ M d M' S R e q=>by
  rw[MW.BR]at e;let(x,M1,e1,e):=gw e;let(l,M2,e2,e):=gw e;let(h,M3,e3,e):=gw e;let(F,e5):=zb e;subst e5;show one S R e1 λI H1 v le S1 R1 r=>{5,I,ρ,M1,l,M2,S1,R1,e2,λu H2 Y S2=>{5,u,ρ,M2,h,_,S2,R1.mono Y,e3,λE G L P=>?_}}
  let r3:=(r.mono Y).mono L;let fin:=λC H' w y S' r'=>q C H' w (((le>>Y)>>L)>>y) S' r'
  let WK:∀T,MW.gr M' x\T->d=.vl (MW.cH T l h)->tT X.K v l h G Q:=λT A J=>by
   let(p,vs,rfl,V,N):=wz P r3 A;show{2,p,vs,rfl,Kp.of V,λp' O=>?_};let:um X.K E G (MW.cH T l h) (bV vs l h):=by unfold MW.cH bV;rw[Xg,Xg,<--N];show(N.drop _).take _
   let(D,B,Z):=gW (X:=X) P O this;subst J;show fin _ _ _ B D Z
  cases x with
  |WL T =>
   right
   erw[MW.Wj]at F;cases F;cases r3 with
   |@WL p _ vs V N =>
    let:um X.K E G (MW.cH T l h) (bV vs l h):=by unfold MW.cH bV;rw[Xg,Xg,<--N];show(N.drop _).take _
    show{2,p,vs,rfl,Oe.of V,λz1 z2=>?_,λp' O=>?_}
    .let e:bV vs l h=vs:=by
      unfold bV;rw[z1,z2];simp
     rw[e]at this;show fin _ _ _ (Le.refl _ _) P (.WL V this)
    .let(D,B,Z):=Ks (X:=X) P O this
     show fin _ _ _ B D Z
  |_ =>
   show .inl ?_
   erw[MW.Wj]at F;let(T,A,J):=dg<*F;show WK T A J.symm
def Ua(K:Fg)(T:String):PySem.W.kitOne K (.type T) (.type T)\true:=by unfold PySem.W.kitOne;rw[dm 'b']
def NC{bt bv bi bb:Option Bool}(L:∀b,bb\b->PySem.W.kitOne X.K (.type "bool") (.type T)\b)(ht:∀b,bt\b->PySem.W.kitOne X.K 'U' (.type T)\b)(hl:∀b,bv\b->PySem.W.kitOne X.K (.type "list") (.type T)\b)(hi:∀b,bi\b->PySem.W.kitOne X.K (.type "int") (.type T)\b)(hb:∀d M,MW.qu t [d] M=MW.ez bt bv bi bb M d)(hg:Gl X n)(hm:X.mg n=())(hv:bootBuiltins n\(.builtin "isinstance"))(hn:n≠"__name__")(Wf:(n==("__debug__": Str))=false)(qq:Gl X Z)(V:X.mg Z=())(qk:bootBuiltins Z\(.type T))(E:Z≠"__name__")(P:(Z==("__debug__": Str))=false)(ha:PE X a ('t' a'))(he:starEach [a,.Name Z U] X.env=(false,eval a X.env)::starEach [.Name Z U] X.env)(qv:starEach [.Name Z U] X.env=(false,eval (.Name Z U) X.env)::starEach [] X.env)(Kv:(backTo pos (starEach [.Name Z U] X.env)).any (·.1)=false):PE X (.Call (.Name n p) [a,.Name Z U] [] pos) ('t' (.YC t (.cons a' .nil))):=by
 intro G s D H Q I hh;symm
 let(ι,ρ,M,d,M',S,R,e,q):=hh;rw[MW.Qa]at e;let(ds,F,B,e):=gw e;rw[MW.Ij]at B;let(x,M2,e2,B):=gw B;rw[MW.Rv]at B;cases B;left;show jx (Fe I hg hm hv ?_ hn Wf);show za (Q:=EP X G D Q) ?_ he Kv;rw[he];change 'A' (spliced ((false,eval a X.env)::backTo pos (starEach [.Name Z U] X.env))) _ _ s;show m7 (Uw (ha G s D H (λv J=>∃Y,Le ι H Y J/\ql nm X.K Y J F/\Xo X.K Y J x v) I {5,ι,ρ,M,x,F,S,R,e2,λY J v le A r=>(Y,le,A,r)}) λu N v J I1 C z_=>?_);let(Y,le,A,r):=z_;rw[qv];change 'A' (spliced ((false,eval (.Name Z U) X.env)::backTo pos (starEach [] X.env))) _ _ N;show m7 (Fe I1 qq V qk ?_ E P);show ur ?_;symm
 let e:MW.qu t [x] F=.ok d M':=e;rw[hb]at e;let(e4,rfl):=zb e;let(b,O,rfl):=dg<*e4;let fin:∀tk,EP X G D Q (.bool b) { N with toks:=tk }:=λtk=>(.bl b,J,I1.tok _,rfl,q Y J _ le A (.bl b))
 left;cases r with
 |@WL p ds us h1 rr =>
  cases(show u=Value.ref p from C);symm
  let(_,_,_,o,g1,g2,_):=(show Dy X.prog X.w J N.1 p (.WL us)from I1.Dk p _ h1);left;show PySem.W.kia_one PySem.W.kitx_tuple I1.aP (o,g1,g2) (ht b O) (λz=>nomatch z) fin
 |@vl p ds us h1 _ rr =>
  cases(show u=Value.ref p from C);let(_,_,n,_,g):=(show Dy X.prog X.w J N.1 p (.WK us)from I1.Dk p _ h1);show PySem.W.kia_one PySem.W.kitx_list I1.aP (_,g,rfl) (hl b O) (λz=>nomatch z) fin
 |int i=>let(t,q):=(show ∃t,u=Value.int i t from C);cases q;show PySem.W.kia_one PySem.W.kitx_int I1.aP True.intro (hi b O) (λz=>nomatch z) fin
 |bl i=>cases(show u=Value.bool i from C);show PySem.W.kia_one PySem.W.kitx_bool I1.aP True.intro (L b O) (λz=>nomatch z) fin
 |_=>cases O
def ND(G:X.YB=true):Ff X (.builtin "min") (rB nm X.K .min):=λY s T H P C Q I O J=>by
 let(B,M,E,d,L,S,r,e,q):=J;obtain⟨rfl,⟨i,j,rfl,rfl⟩|⟨x,m,_,N,_⟩⟩:=vD e
 .cases vF r
  show GA G Y s T H _ C Q I O {2,i,j,rfl,q B H _ (Le.refl _ _) S ⇑_}
 .cases N
def NF{n:Nat}(hh:A.handled=())(D:IsRange s.1 r a b c t u v)(S:Builtin.Range.small a b c=true)(hn:Builtin.Range.rangeSize a b c=n)(C:n<=2^24)(K:∀(U:Heap) (tk:Nat) (Z:U1),(∀b o,s.1^b\o->U^b\o)->ItemsOf (λi v=>∃t,v=.int (a+i*c) t) Z n->Q Z.toList { s with heap:=U,toks:=tk }):'p' (collect ↥r) Q E s:=by
 unfold collect;show aa (wpAny_runValue (su F.entry_proto_collect ?_));rw[o8 F.plain_proto_collect _];change wpAny _ A.in1 (newList []>>=λl=>again (.builtin "list.__iadd__" ([l,↥r],[]))) _ _ s;show aa (m8 ?_);show aj (plainId_quiet F.plain_list_iadd _,su F.entry_list_iadd ?_);rw[o8 F.plain_list_iadd _];change wpAny _ A.in1 (Builtin.List.listExtendWith (.ref s⁻¹) ↥r (.ref s⁻¹)) _ _ _;let keep:∀b o,s.1^b\o->s.1.push ('l' ([]:Zl).toArray)^b\o:=λb o e=>aq _ e
 let L:(s.1.push ('l' ([]:Zl).toArray))^s⁻¹=some ('l' #[] 0):=cu _ rfl;let ext:=wpAny_extend_range (prog:=prog) (w:=w) (A:=A) (R:=λJ s'=>∃(U:Heap)(tk:Nat)(Z:U1)(Y:Nat),J=.ok (.ret (.ref s⁻¹))/\s'={ s with heap:=U,toks:=tk }/\(∀b o,s.1^b\o->U^b\o)
 /\U^s⁻¹=some { cls:=.type "list",dict:=(),data:=.seq Z Y,slots:=#[] }/\ItemsOf (λi v=>∃t,v=.int (a+i*c) t) Z n)
  (s:=(s<&>s.1.push ('l' ([]:Zl).toArray))) hh (keep _ _ D) S hn C s⁻¹ (.ref s⁻¹) 0 L
  λU tk Z Y W M Ii=>{4,U,tk,Z,Y,rfl,rfl,λb o e=>W b o (gq (cj e)) (keep b o e),M,Ii}
 let T:∀{J:Result}{s':Shared},(∃(U:Heap)(tk:Nat)(Z:U1)(Y:Nat),J=.ok (.ret (.ref s⁻¹))/\s'={ s with heap:=U,toks:=tk }/\(∀b o,s.1^b\o->U^b\o)
 /\U^s⁻¹=some { cls:=.type "list",dict:=(),data:=.seq Z Y,slots:=#[] }/\ItemsOf (λi v=>∃t,v=.int (a+i*c) t) Z n)->∃(U:Heap)(tk:Nat)(Z:U1)(Y:Nat),J=.ok (.ret (.ref s⁻¹))/\s'={ s with heap:=U,toks:=tk }/\U^s⁻¹=some { cls:=.type "list",dict:=(),data:=.seq Z Y,slots:=#[] }/\Q Z.toList s':=λz=>by let(U,tk,Z,Y,G,H,V,O,B):=z;show{4,U,tk,Z,Y,G,H,O,by rw[H];show K U tk Z V B}
 show mj ext (λfin s' P=>?_) (λe s' I=>?_)
 .cases fin with
  |done f =>
   let(U,tk,Z,Y,G,rfl,O,B):=T P;cases G;show aa (wpAny_load O (aj B))
  |again Y =>
   show(P.1,zg P.2 λJ X N=>?_);let(U,tk,Z,Y,G,rfl,O,B):=T N;subst G;show aa (wpAny_load O (aj B))
 .let(_,_,_,_,G,_):=T I
  cases G
def Y5{n:Nat}(R:A.handled=())(J:IsRange s.1 r a b c t u v)(T:Builtin.Range.small a b c=true)(N:Builtin.Range.rangeSize a b c=n)(Y:n<=2^24)(h:∀(Z:Heap) (tk:Nat) (acc:U1),(∀b o,s.1^b\o->Z^b\o)->ItemsOf (λi v=>∃t,v=.int (a+i*c) t) acc n->U ↥Z.objs.size { s with heap:=Z.push { cls:='U',data:=.seq acc },toks:=tk }) :
 codeAny (model prog w) A (.call (.builtin "tuple.__new__") (['U',↥r],[])) (wants U E) s:=by
 show codeAny_of_tree ?_;change wpAny _ A.in1 (do checkBuiltinCall "tuple.__new__" (['U',↥r],[]);again (.builtin "tuple.__new__" (['U',↥r],[]))) _ _ s;show aa (wpAny_of_eq (F.newCall_tuple_1 _) (aj (plainId_quiet F.plain_tuple_new _,su F.entry_tuple_new ?_)));rw[o8 F.plain_tuple_new _];let L:=sub_tuple_self;let C:=init_tuple_lookup;let P:=madeHere_tuple;let G:s.TypeIs ↥r "range":= (_,J,rfl)
 wp_walk using ux G,NF (A:=A.in1) R J T N Y
 intro Z tk acc O B;change 'A' (Builtin.Tuple.tupleExact acc.toList.toArray>>=λv=>ret v) _ _ _;unfold Builtin.Tuple.tupleExact;show aa (m8 ?_ (by change acc.toList.toArray.size<=sizeLine;erw[Array.toArray_toList];rw[B.1,vo];show Y));show aj ?_;let e:acc.toList.toArray=acc:='b'
 rw[e];show h Z tk acc O B
def Y6{n:Nat}(P:A.handled=())(O:IsRange s.1 r a b c t u v)(J:Builtin.Range.small a b c=true)(N:Builtin.Range.rangeSize a b c=n)(G:n<=2^24)(C:∀(U:Heap) (tk:Nat) (Z:U1),(∀b o,s.1^b\o->U^b\o)->ItemsOf (λi v=>∃t,v=.int (a+i*c) t) Z n->Q ↥U.objs.size { s with heap:=U.push { cls:='U',data:=.seq Z },toks:=tk }) :
 'p' (call 'U' [↥r]) Q E s:=by
 show callType_codes (Q₁:=λXR Y=>Y.TypeIs XR "tuple"/\Q XR Y) F.called_tuple (F.typeCall_tuple_1 _) F.entry_object_init
  (Y5 (A:=A.in1) P O J N G λU tk Z B L=>({1,_,cu _ rfl,rfl},C U tk Z B L)) λXR Y T=>?_
 show(T.1,F.args_object_init_2 XR _,object_init_meets F.called_tuple.init.lookup F.called_tuple.made ⋯ prog w A.in1 _ Y (T.1,rfl,T.2))
def vG(h:ItemsOf (λi v=>∃t,v=.int (0+(i:Int)*1) t) acc n):WT ('r' n%λ(k:Nat)=>V.int (k:Int)) acc.toList:=by
 let go:∀(l:Zl)(k:Nat),(∀(j:Nat)(v:Value),l[j]?\v->∃t,v=Value.int ((k+j:Nat):Int) t)->WT (List.range' k (-l)%λ(k:Nat)=>V.int (k:Int)) l:=by
  intro l
  induction l with
  |nil=>intro k _;show .nil
  |cons v l G =>
   intro k T;rw[ik,Ce,gm];show .cons ?_ (G (k+1) λj v Y=>?_)
   .exact T 0 v rfl
   .let(t,e):=T (j+1) v ('s' Y)
    show(t,by rw[e];congr 1;lia)
 let:=go acc.toList 0 (λj v Y=>by
  let(t,e):=h.2 j v ('s' Y);show(t,by rw[e];congr 1;lia))
 rw[vd,h.1,<-List.range_eq_range']at this;show this
def vH(n:Nat):um K Z H ('r' n%λ(k:Nat)=>MW.D.int (k:Int)) ('r' n%λ(k:Nat)=>V.int (k:Int)):=by
 generalize 'r' n=l
 induction l with
 |nil=>show .nil|cons k l Y=>show .cons ⇑_ Y
protected def NG(hr:Dd 8 X.A)(hg:Gl X n)(hm:X.mg n=())(hv:bootBuiltins n\'U')(hn:n≠"__name__")(Wf:(n==("__debug__": Str))=false)(qq:Gl X Z)(U:X.mg Z=())(qk:bootBuiltins Z\(.type "range"))(D:Z≠"__name__")(G:(Z==("__debug__": Str))=false)(ha:PA X [a] (aA nm W X.K (.cons a' .nil)))(he:starEach [.Call (.Name Z C) [a] [] Y] X.env=(false,eval (.Call (.Name Z C) [a] [] Y) X.env)::starEach [] X.env)(Kv:(backTo q1 (starEach [] X.env)).any (·.1)=false)(qv:starEach [a] X.env=(false,eval a X.env)::starEach [] X.env)(J:(backTo Y (starEach [] X.env)).any (·.1)=false) :
 PE X (.Call (.Name n p) [.Call (.Name Z C) [a] [] Y] [] q1) ('t' (.dy a')):=by
 intro T s P H Q I hh;symm
 let(ι,ρ,M,d,M',S,R,e,q):=hh;rw[MW.BV]at e;let(x,M1,e1,e):=gw e;left;split at e<;>try cases e
 rename_i i;split at e<;>cases e;rename_i hi;show jx (Fe I hg hm hv ?_ hn Wf);show jq (Q:=EP X T P Q) ?_ he Kv;rw[he];change 'A' (spliced ((false,eval (.Call (.Name Z C) [a] [] Y) X.env)::backTo q1 (starEach [] X.env))) _ _ s;show m7 ?_;show jx (Fe I qq U qk ?_ D G);show jq (Kd (ha Y T s P H (λF O=>∃B,F=[⇑i]/\Le ι H B O/\ql nm X.K B O M') I {5,ι,ρ,M,[⇑i],M',S,R,by simp[e1,WR.bind],λB O F le S1 r=>?_}) λus L (F,O,I1,r1,B,y,le1,S1)=>?_) qv J
 .let(v,y,rv):=Nq r rfl
  cases rv;show(B,y,le,S1)
 subst y;symm
 let(u,rfl,ru):=Y4 r1;let(t,rfl):=ru;left;show call_range_1 ?_;change 'A' (spliced []) _ _ _;show ur ?_;let keep:∀b o,L.1^b\o->(L.1.push { cls:=.type "range",data:=.fields #[.int 0 L.toks,.int i t,.int 1 (L.toks+1)] })^b\o:=λb o e=>aq _ e
 show Y6 (n:=i.toNat) hr.hd (cu _ rfl) (small_one 'a' 'a' 'a' (by omega)) (by rw[rangeSize_one];split<;>lia) 'a' λN tk E hk Ii=>?_
 let I2:WM X T P O { L with heap:=N,toks:=tk }:=I1.YM λb o e=>hk b o (keep b o e)
 let hz:-('r' i.toNat%λ(k:Nat)=>V.int (k:Int))<=sizeLine:=by simp[vo];omega
 let hf:O N.objs.size=():=I2.Dk.fresh (bz _);let I3:WM X T P (XD O N.objs.size (.WL ('r' i.toNat%λ(k:Nat)=>V.int (k:Int)))) { L with heap:=N.push { cls:='U',data:=.seq E },toks:=tk }:=
  I2.laid (a:=N.objs.size) (t':=tk) (λb o e=>aq _ e) (bz _) (show Dy X.prog X.w _ _ _ (.WL _)from(hz,E.toList,vG Ii,'s' (L2.cB.new _ _)))
 let(S2,Cj,r2):=Ks (X:=X) S1 hf (vH i.toNat);show(↥N.objs.size,_,I3,rfl,q B _ _ (le1>>Cj) S2 r2)
end Sm
namespace dO
open PySem PySem.Spec
open AutoSeq1 (wpAny_loadPart')
def NH(a:s.1.IsTupleIter it t i)(b:s.1.IsTuple t U)(e:U[i]?\x)(q:∀Z,Z.IsTupleIter it t (i+1)->Heap.SameBut it s.1 Z->Q x (s<&>Z)):'p' (Builtin.SmallTypes.nextOf ↥it) Q E s:=by let(o,T,G,Y):=id a;let(O,J,C,N,B):=b;unfold Builtin.SmallTypes.nextOf;show aa (ji (name:=Str.ofString "__next__") a.typeIs yh (iz yh a.typeIs F.entry_tuple_iterator_next ?_ (F.args_tuple_iterator_next_1 _)));change 'A' (field ↥it 0>>=_) _ _ s;show aa (jm T Y (x:=↥t) rfl ?_);change 'A' (if(Value.ref t==Value.none)=true then _ else field ↥it 1>>=_) _ _ s;rw[cz (show ¬((Value.ref t==Value.none)=true)by show Av)];show aa (jm T Y (x:=.int i 0) rfl (aa (wj J B ?_)));erw[vg,e];show aa (wpAny_setField T Y 'b' (aj {1,x,rfl,aj (q _ {1,_,qy _ T (Obj.isFreed_of_fields (Obj.data_mapFields Y _)),Obj.cls_mapFields ..>>G,?_} (kh ..))}));rw[Obj.data_mapFields Y];simp[rawInt]
def NI(G:A.handled=())(a:s.1.IsTupleIter it t i)(b:s.1.IsTuple t U)(e:U[i]?=())(q:∀Z x,Heap.ExtBut it s.1 Z->(∃o,Z^x\o/\o.cls=.type "StopIteration")->E ↥x (s<&>Z)):'p' (Builtin.SmallTypes.nextOf ↥it) Q E s:=by let(o,T,C,Y):=id a;let(O,J,N,L,B):=b;unfold Builtin.SmallTypes.nextOf;show aa (ji (name:=Str.ofString "__next__") a.typeIs yh (iz yh a.typeIs F.entry_tuple_iterator_next ?_ (F.args_tuple_iterator_next_1 _)));change 'A' (field ↥it 0>>=_) _ _ s;show aa (jm T Y (x:=↥t) rfl ?_);change 'A' (if(Value.ref t==Value.none)=true then _ else field ↥it 1>>=_) _ _ s;rw[cz (show ¬((Value.ref t==Value.none)=true)by show Av)];show aa (jm T Y (x:=.int i 0) rfl (aa (wj J B ?_)));erw[vg,e];show aa (o5 (aa (wpAny_setField T Y 'b' ?_)));change 'A' (newExc (.type "StopIteration") []>>=raiseNew) _ _ _;show aD.qC G λZ x k e=>q Z x (λb o n z=>k b o ((kh ..).extBut b o n z)) e
def aQ(b:Bool)(h:Heap)(it a:Addr)(i:Nat):Prop:=cond b (h.IsTupleIter it a i) (h.IsListIter it a i)
def ab(b:Bool)(h:Heap)(a:Addr)(Y:U1):Prop:=cond b (h.IsTuple a Y) (h.IsList a Y)
def aQ.at(x:aQ b h it a i)(k:∀o,h^it\o->Z^it\o):aQ b Z it a i:=by
 cases b with
 |true=>let(o,e,r):=x;show{1,o,k o e,r}
 |false=>let(o,e,r):=x;show{1,o,k o e,r}
def aQ.XR(x:aQ b h it a i):∃o,h^it\o/\∀v,o.data≠.cell v:=by
 cases b with
 |true=>let(o,e,c,d):=x;show(o,e,λv z=>by rw[d]at z;cases z)
 |false=>let(o,e,c,d):=x;show(o,e,λv z=>by rw[d]at z;cases z)
def nA(a:aQ b s.1 it t i)(c:ab b s.1 t U)(e:U[i]?\x)(q:∀Z,aQ b Z it t (i+1)->Heap.SameBut it s.1 Z->Q x (s<&>Z)):'p' (Builtin.SmallTypes.nextOf ↥it) Q E s:=by
 cases b with
 |true=>show NH a c e q|false=>show wpAny_nextOf_list_item a c e q
def nB(Y:A.handled=())(a:aQ b s.1 it t i)(c:ab b s.1 t U)(e:U[i]?=())(q:∀Z x,Heap.ExtBut it s.1 Z->(∃o,Z^x\o/\o.cls=.type "StopIteration")->E ↥x (s<&>Z)):'p' (Builtin.SmallTypes.nextOf ↥it) Q E s:=by
 cases b with
 |true=>show NI Y a c e q|false=>show wpAny_nextOf_list_end Y a c e q
def vJ{i:Nat}{Q:Y1}{R:Value->Heap->Prop}(X:IsEnum s.1 e it i old)(nx:∀{Q':Y1},(∀x Z,R x Z->Q' x (s<&>Z))->'p' (Builtin.SmallTypes.nextOf ↥it) Q' E s)(u:∀x Z,R x Z->IsEnum Z e it i old)
 (q:∀x Z U,R x Z->IsEnumOut U e it ((i:Int)+1) x Z.objs.size->U^Z.objs.size=some { cls:='U',data:=.seq #[.int i s.toks,x] }->U.objs.size=Z.objs.size+1->(∀y o,y≠e->Z^y\o->U^y\o)->Q ↥Z.objs.size { s with heap:=U,toks:=s.toks+1 }) :
 'p' (Builtin.«enumerate.__next__» ([↥e],[])) (λfin s'=>∃v,fin=.done (.ret v)/\Q v s') E s:=by
 let(l,g,d,L,I):=s;change 'A' (field ↥e 2>>=_) _ _ _;show aa (jm X rfl (x:=↥it) rfl (aa (nx λx Z r=>?_)));let J:IsEnum Z e it i old:=u x Z r;let lt:e<Z.objs.size:=cj J
 show aa (jm J rfl (x:=rawInt i) rfl (aa (jm J rfl (x:=.none) rfl (aa (wpAny_mkInt ?_)))));change 'A' (setField ↥e 3 (rawInt ((i:Int)+1))>>=_) _ _ (Z,g,d,L+1,I);show aa (jy J 'b' λh2 P O=>?_);let O:Heap.SameBut e Z h2:=O;let P:IsEnum h2 e it ((i:Int)+1) old:=P;show aa (jy P 'b' λh3 S C=>?_);let C:Heap.SameBut e h2 h3:=C;let S:IsEnum h3 e it ((i:Int)+1) old:=S;show aa (Ab ?_);let H:h3.objs.size=Z.objs.size:=by rw[C.1,O.1]
 obtain⟨Y,G⟩:∃Y,Y=h3.push { cls:='U',data:=.seq #[.int i L,x] }:={1,_,rfl};let F:IsEnum Y e it ((i:Int)+1) old:=by rw[G];show aq _ S
 let D:Y^Z.objs.size=some { cls:='U',data:=.seq #[.int i L,x] }:=by rw[G,<-H];show cu _ rfl
 let k3:∀y o,y≠e->Z^y\o->Y^y\o:=λy o T z=>by rw[G];show aq _ (C.extBut y o T (O.extBut y o T z))
 change 'A' (Builtin.SmallTypes.ownedTupleIsFree ↥e>>=_) _ _ (h3.push _,g,d,L+1,I);rw[H,<-G];show aa ?_;unfold Builtin.SmallTypes.ownedTupleIsFree;show aa (jm F rfl (x:=.none) rfl (aj ?_));erw[my];show aa (o5 (aa (jm F rfl (x:=old) rfl (aa (jy F 'b' λh5 W B=>?_)))));let B:Heap.SameBut e Y h5:=B;let W:IsEnum h5 e it ((i:Int)+1) x:=W;show aa ?_;unfold Builtin.SmallTypes.ownedTupleHandOut;show aa (jy W 'b' λh6 V N=>?_);let N:Heap.SameBut e h5 h6:=N;let V:IsEnumOut h6 e it ((i:Int)+1) x Z.objs.size:=V;show jy V 'b' λh7 j s7=>?_
 let s7:Heap.SameBut e h6 h7:=s7;let K:∀y o,y≠e->Y^y\o->h7^y\o:=λy o T z=>s7.extBut y o T (N.extBut y o T (B.extBut y o T z))
 show aa (wpAny_letGo (aj {1,_,rfl,q x Z h7 r j (K _ _ (yw lt) D) (by rw[s7.1,N.1,B.1,G,jh,H]) λy o M z=>K y o M (k3 y o M z)}))
def NJ{i:Nat}{Q:Y1}(B:IsEnum s.1 e it i old)(a:aQ b s.1 it t i)(c:ab b s.1 t xs)(S:xs[i]?\x)(J:e≠it)(q:∀Z,IsEnumOut Z e it ((i:Int)+1) x s⁻¹->aQ b Z it t (i+1)->Z^s⁻¹=some { cls:='U',data:=.seq #[.int i s.toks,x] }->Z.objs.size=s⁻¹+1 ->
 (∀y o,y≠e->y≠it->s.1^y\o->Z^y\o)->Q (.ref s⁻¹) { s with heap:=Z,toks:=s.toks+1 }) :
 'p' (Builtin.«enumerate.__next__» ([↥e],[])) (λfin U=>∃v,fin=.done (.ret v)/\Q v U) E s:=by
 show vJ (R:=λy Y=>y=x/\aQ b Y it t (i+1)/\Heap.SameBut it s.1 Y) B (λk=>nA a c S λY G T=>k _ _ (rfl,G,T)) (λy Y r=>r.2.2.2 e J>>B) λy Y Z r O L C N=>?_
 let(rfl,G,T):=r;let n:Y.objs.size=s⁻¹:=T.1;rw[n]at O L C⊢;show q Z O (G.at λo z=>N it o (j4 J) z) L C λy o P H z=>N y o P (T.extBut y o H z)
def NK{i:Nat}(T:IsEnum s.1 e it i old)(a:aQ b s.1 it t i)(c:ab b s.1 t U)(J:U[i]?\x)(G:e≠it)(q:∀Z,IsEnumOut Z e it ((i:Int)+1) x s⁻¹->aQ b Z it t (i+1)->Z^s⁻¹=some { cls:='U',data:=.seq #[.int i s.toks,x] }->Z.objs.size=s⁻¹+1 ->
 (∀y o,y≠e->y≠it->s.1^y\o->Z^y\o)->Q ↑(.ref s⁻¹) { s with heap:=Z,toks:=s.toks+1 }):'p' (pyNext ↥e) Q E s:=by
 let Y:s.TypeIs ↥e "enumerate":= (_,T,rfl);unfold pyNext;show aa (vf (ji (name:=Str.ofString "__next__") Y qx (iz qx Y Ad ?_ (zx _))));show NJ T a c J G λZ B N O C L=>aj (q Z B N O C L)
def NL{i:Nat}(B:A.handled=())(G:IsEnum s.1 e it i old)(a:aQ b s.1 it t i)(c:ab b s.1 t U)(O:U[i]?=())(q:∀Z,Heap.ExtBut it s.1 Z->Q () (s<&>Z)):'p' (pyNext ↥e) Q E s:=by let Y:s.TypeIs ↥e "enumerate":= (_,G,rfl);unfold pyNext;show aa (vf (ji (name:=Str.ofString "__next__") Y qx (iz qx Y Ad ?_ (zx _))));change 'A' (field ↥e 2>>=_) _ _ _;show aa (jm G rfl (x:=↥it) rfl (aa (nB B a c O λZ z k z_=>?_)));let(o,C,J):=z_;show aa (o4 (T :="StopIteration") (b:=true) (o,C,J) isSubtype_stop (aj (q _ k)))
protected def NM(t:Addr)(xs:U1)(n:Nat)(B:Option Addr)(E:Array (Option Value)) :
 Meets (Builtin.«enumerate.__new__» ([.type "enumerate",↥t],[])) (λ_ R s=>s.1^t=some { cls:='U',dict:=B,data:=.seq xs n,slots:=E } /\
  R (.ok (.ret ↥(s.1.push { cls:=.type "tuple_iterator",data:=.fields #[↥t,.int 0 0] }).objs.size))
   (s<&>(s.1.push { cls:=.type "tuple_iterator",data:=.fields #[↥t,.int 0 0] }).push { cls:=.type "enumerate",data:=.fields #[.none,.bool false,.ref s⁻¹,rawInt 0,.none,.none] })):=
 .of_wp λprog w A R s h=>by
  let(N,g,d,P,Q):=s;let(T,h):=h;let L:=sub_enumerate;let O:Heap.IsTuple (Shared.heap (N,g,d,P,Q)) t xs:=(_,T,rfl,n,rfl)
  wp_walk using xr T
  show wpAny_stack_any λst=>aj ?_
  split
  .rename_i c _ _ _ _ _
   cases(c==Value.type "enumerate")<;>(wp_walk using xr T,z6 O)<;>show{1,_,rfl,h}
  .wp_walk using xr T,z6 O
   show{1,_,rfl,h}
def NN(c:s.1.IsTuple t U)(q:∀Z,IsEnum Z (s⁻¹+1) s⁻¹ 0 .none->Z.IsTupleIter s⁻¹ t 0->Z.objs.size=s⁻¹+2 ->
 (∀y o,s.1^y\o->Z^y\o)->Q ↥(s⁻¹+1) (s<&>Z)):'p' (call (.type "enumerate") [↥t]) Q E s:=by
 let((O,J,C,N),L,G,n,T):=c;let G:O='U':= G;let T:C=.seq U n:=T;subst G T;let Y:(s.1.push { cls:=.type "tuple_iterator",data:=.fields #[↥t,.int 0 0] }).objs.size=s⁻¹+1:=jh ..;show callType_new F.called_enumerate ⋯ (F.typeCall_enumerate_1 _) (F.newCall_enumerate_1 _) (λXR=>F.args_object_init_2 XR _) F.entry_enumerate_new (NM t U n J N) (L,?_);change _/\_;rw[Y];let B:IsEnum ((s.1.push { cls:=.type "tuple_iterator",data:=.fields #[↥t,.int 0 0] }).push { cls:=.type "enumerate",data:=.fields #[.none,.bool false,.ref s⁻¹,rawInt 0,.none,.none] }) (s⁻¹+1) s⁻¹ 0 .none:=by rw[<-Y];show cu _ rfl
 show({1,_,B,rfl},q _ B (_,aq _ (cu _ rfl),rfl,rfl) (by rw[jh,Y]) λy o z=>aq _ (aq _ z))
end dO
namespace L2
open PySem PySem.Spec dO
def WM.Uq{ch:X0}(I:'i')(T:∀b∈ch,Yv X pins H b)(k:∀b o,b∉ch->s.1^b\o->Z^b\o)(O:s⁻¹<=n)(new:Dy X.prog X.w (XD H n (.WL vs)) Z n (.WL vs)):WM X pins σ (XD H n (.WL vs)) { s with heap:=Z,toks:=t' }:=by
 let fr:H n=():=I.Dk.fresh O;let G:∀b u,H b\u->b∉ch:=λb u e z=>by rw[(T b z).1]at e;cases e
 let B:∀b o,s.1^b\o->b≠n:=λb o e=>gq (iu (cj e) O)
 show I.XF (g':=s.gens) (d':=s.drawn) (ch:=ch) (λb J=>((T b J).2.2.2.1,(T b J).2.1,(T b J).2.2.2.2.1,(T b J).2.2.2.2.2)) (λb o _ _ Y e _=>k b o Y e) (λb o _ _ Y e _=>(o.slots,k b o Y e)) (λb o _ e L=>by rw[qp (B b o e)];show L)
  (λb o Y e=>(o,k b o Y e)) (λb P e=>by rw[qp (ug e fr)];show e) (λb o u e=>by rw[qp (ug e fr)];show e) (λm N=>?_) (λb u e=>?_) I._c
 .let(o,E,C,R,r):=N
  show{3,o,E,C,k _ o (λz=>(T _ z).2.1 rfl) R,r}
 .by_cases z:b=n
  .subst z;rw[z8]at e;cases e;show new
  .rw[qp z]at e
   show(I.Dk b u e).ZQ (λc v Y q=>k c v ?_ q) (λc q=>by rw[qp (ug q fr)];show q) λc P q=>by rw[qp (ug q fr)];show q
   rcases Y with y|y
   .rw[y];show G b u e
   .exact G c _ y
def WM.nE{ch:X0}(I:'i')(T:∀b∈ch,Yv X pins H b)(k:∀b o,b∉ch->s.1^b\o->Z^b\o):WM X pins σ H { s with heap:=Z,toks:=t' }:=by
 let G:∀b u,H b\u->b∉ch:=λb u e z=>by rw[(T b z).1]at e;cases e
 show I.XF (g':=s.gens) (d':=s.drawn) (ch:=ch) (λb J=>((T b J).2.2.2.1,(T b J).2.1,(T b J).2.2.2.2.1,(T b J).2.2.2.2.2)) (λb o _ _ Y e _=>k b o Y e) (λb o _ _ Y e _=>(o.slots,k b o Y e)) (λb o _ e C=>C)
  (λb o Y e=>(o,k b o Y e)) (λb E e=>e) (λb o u e=>e) (λm O=>?_) (λb u e=>?_) I._c
 .let(o,N,B,L,r):=O
  show{3,o,N,B,k _ o (λz=>(T _ z).2.1 rfl) L,r}
 .refine(I.Dk b u e).ZQ (λc v Y q=>k c v ?_ q) (λ_ q=>q) λ_ _ q=>q
  rcases Y with y|y
  .rw[y];show G b u e
  .exact G c _ y
def aR(b:Bool)(K:Fg)(H:Hp)(a:Addr)(Y:List V):Prop:=cond b (Oe K H a Y) (Kp K H a Y)
def WM.dP(I:'i')(h:aR b X.K H a U):∃Z,WT U Z/\ab b s.1 a Z.toArray:=by
 cases b with
 |true=>let(Z,Y,p,T):=I.tuple h;show(Z,Y,show s.1.IsTuple a Z.toArray from p)
 |false=>let(Z,Y,p,T):=I.list h;show(Z,Y,p.isList)
def WM.nF(I:'i')(h:aR b X.K H a Z)(g:aR b X.K H a ys):Z=ys:=by
 cases b with
 |true=>show I.sL h g|false=>show I.sJ h g
def nG(b:Bool)(K:Fg)(a:Addr):It:=
 (λi H=>∃Y x,aR b K H a Y/\Y[i]?\x,λi H v T=>∃p x,v=↥p/\H p=()/\T=XD H p (.WL [⇑(i:Nat),x])/\∀Y,aR b K H a Y->Y[i]?\x,λi H=>∃Y,aR b K H a Y/\-Y<=i)
theorem NO(a e it:Addr)(M:e≠it):Turn P w K (.Tuple ts k0 pt) (nG b K a) [e,it] e (λi h=>(∃Z,IsEnum h e it ((i:Nat):Int) Z)/\aQ b h it a i)where
 mem:='b'
 XR:=λi h st c Y=>by
  let((Z,T),G):=st;rcases dj<*Y with z|z
  .subst z;show(_,T,λv z=>by cases z)
  .let z:c=it:='s' z
   subst z;show G.XR
 keep:=λi h D st k=>by let((Z,T),G):=st;show((Z,k e 'b' _ T),G.at λo z=>k it 'b' o z)
 item:=by
  intro X L Q S Y i J s σ H E I C st R;subst L Q S;symm
  let(xs,x,O,N):=R;let(zj,V,p):=I.dP O;let(u,hu,ru):=V.get N;let((Z,T),G):=st;let lt:e<s⁻¹:=cj T
  left;show NK T G p (x:=u) ('s' hu) M λh1 o1 a1 t1 n1 A=>{1,_,rfl,?_}
  show wpAny_letOwnedTupleGo_enum o1 λh2 o2 B=>?_
  let B:Heap.SameBut e h1 h2:=B;let t2:h2^s⁻¹=some { cls:='U',data:=.seq #[.int i s.toks,u] }:=B.2 _ (yw lt)>>t1;show(.ref s⁻¹,XD H s⁻¹ (.WL [⇑(i:Nat),x]),I.Uq (t':=s.toks+1) C (λc o Y z=>?_) (bz _) (by change 2<=sizeLine;decide,[.int i s.toks,u],.cons (s.toks,rfl) (.cons ru .nil),{1,_,t2,rfl,(_,rfl,rfl)}),rfl,
   {2,_,x,rfl,I.Dk.fresh (bz _),rfl,λys hy=>by rw[I.nF hy O];show N},({1,u,?_},a1.at λo z=>B.extBut it o (j4 M) z),λc Y=>?_)
  .let F:c≠e:=λz=>Y (by simp[z])
   let U:c≠it:=λz=>Y (by simp[z])
   show B.extBut c o F (A c o F U z)
  .let q:((i+1:Nat):Int)=(i:Int)+1:=by push_cast;rfl
   rw[q];show o2
  .let W:c<s⁻¹:=by
    rcases dj<*Y with z|z
    .rw[z];show lt
    .let z:c=it:='s' z
     let(o,z2,_):=G.XR;rw[z];show cj z2
   rw[qp (gq W)];show(C c Y).1
 done:=by
  intro X L Q S Y i J s σ H E I C st R;subst L Q S;symm
  let(xs,O,N):=R;let(zj,V,p):=I.dP O;let((Z,T),G):=st;let hl:=-V;left;show NL (I.ok.hd Y) T G p (by simp;show a_ (g_ hl) N) λD eb=>(rfl,I.nE (t':=s.toks) C λc o Y z=>eb c o (λy=>Y (by simp[y])) z)
 self:=λ_ _ _ _ _ st h=>by let((Z,T),G):=st;show wpAny_pyIter_enum T h
def NP(E:Gl X "enumerate")(W:X.mg "enumerate"= ())(V:PA X [a] ta)(N:starEach [a] X.env=[(false,eval a X.env)]) :
 PI X (.Tuple ts k0 pt) (.Call (.Name "enumerate" p) [a] [] pos) (λU H R=>ta U H λvs Z=>∃b q,vs=[↥q]/\(∃xs,aR b X.K Z q xs)/\R (nG b X.K q) Z):=by
 intro G s U H R I h;show Dc (Fe I E W (show bootBuiltins "enumerate"\(.type "enumerate")by decide+kernel) (jq (Kd (V pos G s U H _ I h) λD Y (vs,Z,I1,r1,q1)=>?_) N rfl));symm
 let(b,q,rfl,(xs,Q),S):=q1;left;cases r1 with
 |cons r L =>
  cases L;cases r;let(F,M,p):=I1.dP Q;let fin:∀T,IsEnum T (Y⁻¹+1) Y⁻¹ 0 .none->aQ b T Y⁻¹ q 0->(∀y o,Y.1^y\o->T^y\o) ->
   'q' (pyIter ↥(Y⁻¹+1)) (PIE X G U (.Tuple ts k0 pt) R) X.xe (Y<&>T):=λT J O B=>by
   show wpAny_pyIter_enum J ?_;show{5,Y⁻¹+1,[Y⁻¹+1,Y⁻¹],_,_,Z,rfl,I1.YM (t':=Y.toks) B,NO (b:=b) q _ _ (Nat.succ_ne_self _),({1,.none,J},O),λc P=>?_,S};let C:Y⁻¹<=c:=by
    rcases dj<*P with z|z
    .rw[z];show xf _
    .let z:c=Y⁻¹:='s' z
     rw[z];show bz _
   show I1.fI C (I1.Dk.fresh C)
  cases b with
  |true=>show NN p λT J O _ B=>fin T J O B
  |false=>show call_enumerate_list p λT J O _ B=>fin T J O B
end L2
namespace dO
open PySem PySem.Spec
def aS(Y:Zl):Obj:={ cls:='U',data:=.seq Y.toArray }
abbrev gp(h:Heap)(z TI TO:Addr)(f0:Value)(p:Bool):Prop:=h^z=some { cls:=.type "zip",data:=.fields #[f0,.bool p,.bool false,↥TI,↥TO] }
structure ZN(b:Nat->Bool)(h0:Heap)(n:Nat)(ls:Y2)(f0:Value)(p:Bool)(ov:Zl)(k d:Nat)(g:Heap):Prop where
 z:gp g (n+-ls+2) (n+-ls) (n+-ls+1) f0 p
 o:g^(n+-ls+1)\(aS ov)
 a:∀(j:Nat) l,ls[j]?\l->aQ (b l) g (n+j) l (if j<d then k+1 else k)
 low:∀c o,(c<n\/c=n+-ls\/n+-ls+2<c)->h0^c\o->g^c\o
def ab.lt(x:ab b h a Z):a<h.objs.size:=by
 cases b with
 |true=>let(o,c,_):=x;show cj c
 |false=>let(o,c,_):=x;show cj c
def ab.at(x:ab b h a xs)(e:∀o,h^a\o->Z^a\o):ab b Z a xs:=by
 cases b with
 |true=>let(o,c,d):=x;show(o,e o c,d)
 |false=>let(o,c,d):=x;show(o,e o c,d)
def eU{Y:Y2}{j:Nat}(h:Y[j]?\l):j< -Y:=(ak<*h).1
def ZN.sz(H:ZN b h0 n ls f0 p Z k d g)(e:Heap.ExtBut (n+-ls+2) g g')(z:gp g' (n+-ls+2) (n+-ls) (n+-ls+1) f1 p'):ZN b h0 n ls f1 p' Z k d g':=
 (z,e _ _ 'a' H.o,λj l h=>(H.a j l h).at λo=>e _ o (by let:=eU h;lia),λc o Y z=>e _ _ 'a' (H.low c o Y z))
def ZN.so(H:ZN b h0 n ls f0 p Z k d g)(e:Heap.ExtBut (n+-ls+1) g g')(z:g'^(n+-ls+1)\(aS ow)):ZN b h0 n ls f0 p ow k d g':=
 (e _ _ 'a' H.z,z,λj l h=>(H.a j l h).at λo=>e _ o (by let:=eU h;lia),λc o Y z=>e _ _ 'a' (H.low c o Y z))
def ZN.sa(H:ZN b h0 n ls f0 p Z k d g)(T:d< -ls)(e:Heap.ExtBut (n+d) g g')(z:∀l,ls[d]?\l->aQ (b l) g' (n+d) l (k+1)):ZN b h0 n ls f0 p Z k (d+1) g':=
 (e _ _ 'a' H.z,e _ _ 'a' H.o,λj l h=>by
  by_cases c:j=d
  .subst c;rw[dm 'a'];show z l h
  .let:=H.a j l h
   let i:(if j<d+1 then k+1 else k)=if j<d then k+1 else k:=by
    by_cases q:j<d
    .rw[dm q,dm 'a']
    .rw[cz q,cz 'a']
   rw[i];show this.at λo=>e _ o 'a',λc o Y z=>e _ _ 'a' (H.low c o Y z))
def ZN.up(H:ZN b h0 n ls f0 p Z k d g)(e:∀c o,g^c\o->g'^c\o):ZN b h0 n ls f0 p Z k d g':=
 (e _ _ H.z,e _ _ H.o,λj l h=>(H.a j l h).at (e _),λc o Y z=>e _ _ (H.low c o Y z))
def ZN.nx(H:ZN b h0 n ls f0 p Z k (-ls) g):ZN b h0 n ls f0 p Z (k+1) 0 g:=
 (H.z,H.o,λj l h=>by let:=H.a j l h;rw[dm (eU h)]at this;show this,H.low)
def NQ{T:Addr}{Q:Unit->Shared->Prop}(Y:-U<=3)(G:s.1^T\(aS U))(h:∀Z,Z^T\(aS (U.set k x))->Heap.ExtBut T s.1 Z->Z.objs.size=s⁻¹->Q Unit.unit (s<&>Z)) :
 'p' (updateSeq T (·.setIfInBounds k x)) Q E s:=by
 let J:Heap.SameBut T s.1 (s.1.update T (Obj.mapSeq (·.setIfInBounds k x))):=kh ..;show wpAny_updateSeq G rfl (h _ ?_ J.extBut J.1) (hz:=gh ('s' Y) (show 3<=sizeLine by decide)) (_hz':=gh ('s' Y) (show 3<=sizeLine+1 by decide));rw[qy _ G rfl];simp[Obj.mapSeq,aS]
def Ga(n m:Nat):List Value:='r' m%λj=>.ref (n+j)
def vK(n m:Nat):(Ga n m).zipIdx=List.range' 0 m%λj=>(Value.ref (n+j),j):=by
 apply uf;intro i;rw[Bf]
 by_cases h:i<m
 .simp[Ga,h]
 .simp[Ga,h]
def At(b:Nat->Bool)(h:Heap)(Y:Y2)(k:Nat)(T:Zl):Prop:=-T=-Y/\∀(j:Nat) l,Y[j]?\l->∃G x,ab (b l) h l G/\G[k]?\x/\T[j]?\x
def NR{a:Addr}{Q:Option Obj->Shared->Prop}(h:Q (s.1^a) s):'p' (loadIfAlive a) Q E s:=λ_ _ _=>h
def vL{s:Shared}{Q:Bool->Shared->Prop}{z TI TO:Addr}(Y:gp s.1 z TI TO f0 p)(O:f0=.none\/∃a:Nat,f0=rawInt a)(J:Q true s)(G:f0≠.none->∀Z,gp Z z TI TO f0 true->Heap.ExtBut z s.1 Z->Z.objs.size=s⁻¹->Q false (s<&>Z)) :
 'p' (Builtin.SmallTypes.ownedTupleIsFree ↥z) Q E s:=by
 unfold Builtin.SmallTypes.ownedTupleIsFree;show aa (jm Y rfl (x:=f0) rfl ?_);rcases O with rfl|⟨a,rfl⟩
 .exact aj J
 .refine aa (NR ?_)
  split
  .exact aj J
  .refine aa (jm Y rfl (x:=.bool p) rfl ?_)
   cases p with
   |true=>show aj (G (by intro z;cases z) _ Y (λ_ _ _ e=>e) rfl)
   |false=>show aa (jy Y 'b' λZ B T=>aj (G (by intro z;cases z) Z B T.extBut T.1))
def vM{n k:Nat}{f0:Value}{p:Bool}{Q:Y1}(Zc:ls≠[])(h3:-ls<=3)(hf:f0=.none\/∃a:Nat,f0=rawInt a)(H:ZN b s.1 n ls f0 p Z k 0 s.1)(ho:-Z=-ls)(B:s.1^(n+-ls)\(aS (Ga n (-ls))))(hl:∀l∈ls,l<n)(K:At b s.1 ls k vs)
 (D:f0≠.none->∀h' ow,-ow=-ls->ZN b s.1 n ls f0 true ow (k+1) 0 h'->h'^s⁻¹\(aS vs)->h'.objs.size=s⁻¹+1->Q (.ref s⁻¹) (s<&>h'))
 (hq:∀h',ZN b s.1 n ls (rawInt s⁻¹) false vs (k+1) 0 h'->h'.objs.size=s⁻¹+1->h'^s⁻¹\(aS vs)->Q (.ref s⁻¹) (s<&>h')) :
 'p' (Builtin.«zip.__next__» ([↥(n+-ls+2)],[])) (λfin U=>∃v,fin=.done (.ret v)/\Q v U) E s:=by
 let V:=H.z;let ne:(Ga n (-ls)).toArray.isEmpty=false:=by cases ls with|nil=>show absurd rfl Zc|cons a l=>simp[Ga]
 change 'A' (field ↥(n+-ls+2) 2>>=_) _ _ _;show aa (jm V rfl (x:=.bool false) rfl (aa (jm V rfl (x:=↥(n+-ls)) rfl (aa (wj B rfl ?_)))));erw[ne,dq,jt];show aa (vL V hf ?_ λnf g0 z0 x0 n0=>?_)
 rotate_left
 .let H0:=H.sz x0 (f1:=f0) (p':=true) z0
  erw[dq,jt];let zl:n+-ls+2<g0.objs.size:=cj z0
  rw[<-Cw];show aa (ou _ (λT C U=>∃d g,T=(Ga n (-ls)).drop d/\d<=-ls/\C=((),(vs.take d).toArray)/\U=(s<&>g)/\ZN b s.1 n ls f0 true Z k d g/\g.objs.size=s⁻¹) _ (λx T C U B=>?_) (λC U B=>?_) _ _ {2,0,g0,rfl,iw _,rfl,rfl,H0,n0})
  .symm
   let(d,g,e,Y,rfl,rfl,G,J):=B;let Y:d< -ls:=by
    rcases qi d (-ls) with h|h
    .exact h
    .rw[List.drop_of_length_le (by simpa[Ga]using h)]at e;cases e
   let er:(Ga n (-ls))[d]?\↥(n+d):=by simp[Ga,Y]
   rw[yt (by simpa[Ga]using Y)]at e;injection e with P e2
   rw[bh (by simpa[Ga]using Y)]at er;let P:x=↥(n+d):=P>>(j6 er);subst e2;obtain⟨l,O⟩:∃l,ls[d]?\l:=(ls[d],by simp[Y]);let(xs,y,t1,t2,t3):=K.2 d l O;let S:=G.a d l O;rw[cz (ph _)]at S;let ll:=hl l (az O);left;rw[P];show aa (je (aa (nA (s:=(s<&>g)) S (t1.at λo=>G.low _ o 'a') t2 λI i2 W=>aj (aj {2,d+1,I,rfl,Y,?_,rfl,G.sa Y W.extBut λl' h=>by rw[O]at h;cases h;show i2,by rw[show I.objs.size=g.objs.size from W.1,J]}))));rw[zr,t3];simp
  .symm
   let(d,g,e,Y,rfl,rfl,G,J):=B;let Y:d=-ls:=by
    let:=rm List.length e;simp[Ga]at this
    lia
   subst Y;left;rw[<-K.1,An];let hv:-vs<=3:=by rw[K.1];show h3
   show aa (Ab ?_ ('s' (gh hv (show 3<=sizeLine by decide))));show aj {1,_,rfl,?_};change Q ↥g.objs.size (s<&>g.push (aS vs));rw[J];show D nf _ Z ho (G.nx.up λc o e=>aq _ e) ?_ (by rw[jh,J]);rw[<-J];show cu _ rfl
 erw[my];show aa (o5 (aa (jm V rfl (x:=↥(n+-ls+1)) rfl (aa (jy V 'b' λg1 z1 s1=>?_)))));let H1:=H.sz s1.extBut (f1:=.ellipsis) (p':=p) z1;show aa (ou _ (λT C U=>C=((),Unit.unit)/\∃d Z g,T=(List.range' d (-ls-d)%λj=>(Value.ref (n+j),j))/\d<=-ls/\U=(s<&>g)/\ZN b s.1 n ls .ellipsis p Z k d g/\-Z=-ls/\(∀i,i<d->Z[i]?=vs[i]?)/\g.objs.size=s⁻¹) _ (λx T C U B=>?_) (λC U B=>?_) _ _ (rfl,0,Z,g1,?_,iw _,rfl,H1,ho,λi hi=>absurd hi (vz _),s1.1))
 .symm
  let(rfl,d,Z,g,e,Y,rfl,G,o2,v2,J):=B;let Y:d< -ls:=by
   rcases qi d (-ls) with h|h
   .exact h
   .rw[Nat.sub_eq_zero_of_le h]at e;cases e
  obtain⟨c,hc⟩:∃c,-ls-d=c+1:=(-ls-d-1,'a');rw[hc,Ce,gm]at e;injection e with P e2
  subst P e2;obtain⟨l,O⟩:∃l,ls[d]?\l:=(ls[d],by simp[Y]);let(xs,x,t1,t2,t3):=K.2 d l O;let S:=G.a d l O;rw[cz (ph _)]at S;let ll:=hl l (az O);left;show aa (wpAny_onRaise (aa (nA (s:=(s<&>g)) S (t1.at λo=>G.low _ o 'a') t2 λI i2 W=>aj ?_)));let H3:=G.sa Y W.extBut λl' h=>by rw[O]at h;cases h;show i2
  show aa (wj H3.o rfl (aa (NQ (by rw[o2];show h3) H3.o λg3 o3 s3 n3=>?_)));let H4:=H3.so s3 o3;show aa (wpAny_letGo (aj (rfl,d+1,Z.set d x,g3,by rw[show -ls-(d+1)=c by lia],Y,rfl,H4,by rw[uh,o2],λi hi=>?_,by rw[n3,show I.objs.size=g.objs.size from W.1,J])))
  by_cases z:i=d
  .subst z
   rw[Cu 'a',t3]
  .rw[ye (j4 z)];show v2 i 'a'
 .symm
  let(rfl,d,Z,g,e,Y,rfl,G,o2,v2,J):=B;let Y:d=-ls:=by
   rcases qi d (-ls) with h|h
   .obtain⟨c,hc⟩:∃c,-ls-d=c+1:=(-ls-d-1,'a')
    rw[hc,Ce]at e;cases e
   .exact Nat.le_antisymm Y h
  subst Y;left;obtain rfl:Z=vs:=by
   apply uf;intro i;rcases qi i (-ls) with h|h
   .exact v2 i h
   .rw[jk 'a',jk (by rw[K.1];show h)]
  show aa (wj G.o rfl (aa (Ab ?_)));let H8:=G.nx.up (g':=g.push (aS Z)) λc o e=>aq _ e
  show aa ?_;unfold Builtin.SmallTypes.ownedTupleHandOut;show aa (jy H8.z 'b' λg9 z9 X=>?_);let H9:=H8.sz X.extBut (f1:=rawInt g.objs.size) (p':=p) z9;show jy H9.z 'b' λL qq N=>?_
  let F:=H9.sz N.extBut (f1:=rawInt g.objs.size) (p':=false) qq;let M:L.objs.size=g.objs.size+1:=by rw[N.1,X.1,jh]
  let zl:n+-ls+2<g.objs.size:=cj G.z
  let R:L^g.objs.size\(aS Z):=N.extBut _ _ (yw zl) (X.extBut _ _ (yw zl) (cu _ rfl));show aj {1,_,rfl,?_};change Q ↥g.objs.size _;rw[J]at F R M⊢;show hq L F M R
 .change(Ga n (-ls)).zipIdx=_
  rw[vK];rfl
def vO{n k:Nat}{f0:Value}{p:Bool}{Y:Y2}(W:A.handled=())(P:Y[0]?\l)(hf:f0=.none\/∃a:Nat,f0=rawInt a)(H:ZN b s.1 n Y f0 p ov k 0 s.1)(hI:s.1^(n+-Y)\(aS (Ga n (-Y))))(hl:l<n)(M:ab (b l) s.1 l xs)(V:xs[k]?=())
 (K:∀Z e,(∀c o,(c<n\/n+-Y+2<c)->s.1^c\o->Z^c\o)->(∃o,Z^e\o/\o.cls=.type "StopIteration")->E ↥e (s<&>Z)) :
 'p' (Builtin.«zip.__next__» ([↥(n+-Y+2)],[])) Q E s:=by
 let T:=H.z;obtain⟨c,C⟩:∃c,-Y=c+1:=(-Y-1,by let:=eU P;lia);let R:(Ga n (-Y)).toArray.isEmpty=false:=by rw[C];simp[Ga]
 change 'A' (field ↥(n+-Y+2) 2>>=_) _ _ _;show aa (jm T rfl (x:=.bool false) rfl (aa (jm T rfl (x:=↥(n+-Y)) rfl (aa (wj hI rfl ?_)))));erw[R,dq,jt];show aa (vL T hf ?_ λnf F z0 I n0=>?_)
 rotate_left
 .let H0:=H.sz I (f1:=f0) (p':=true) z0
  erw[dq,jt];let S:aQ (b l) F n l k:=H0.a 0 l P;let L:(Ga n (-Y))=Value.ref n::List.range' 1 c%λj=>Value.ref (n+j):=by rw[C,Ga,List.range_eq_range',Ce];rfl
  rw[L,<-Cw,List.toList_toArray,List.forIn_cons];show aa (aa (aa (je (aa (nB (s:=(s<&>F)) W S (M.at λo=>H0.low _ o 'a') V λN x B z_=>?_)))));let(o,G,J):=z_;show K N x (λc o y1 e=>B _ _ 'a' (I _ _ 'a' e)) (o,G,J)
 erw[my];show aa (o5 (aa (jm T rfl (x:=↥(n+-Y+1)) rfl (aa (jy T 'b' λD z1 X=>?_)))));let O:=H.sz X.extBut (f1:=.ellipsis) (p':=p) z1;let S:aQ (b l) D n l k:=O.a 0 l P;let L:(Ga n (-Y)).zipIdx=(Value.ref n,0)::List.range' 1 c%λj=>(Value.ref (n+j),j):=by rw[vK,C];rfl
 rw[L,List.forIn_cons];show aa (aa (aa (wpAny_onRaise (aa (nB (s:=(s<&>D)) W S (M.at λo=>O.low _ o 'a') V λN x B z_=>?_)))));let(o,G,J):=z_;let z2:gp N (n+-Y+2) (n+-Y) (n+-Y+1) .ellipsis p:=B _ _ 'a' O.z;let R:x≠n+-Y+2:=λy=>by subst y;rw[z2]at G;cases G;simp at J
 show jy z2 'b' λg3 _ U=>K g3 x (λc o y1 e=>U.extBut _ _ 'a' (B _ _ 'a' (X.extBut _ _ 'a' e))) (o,U.extBut _ _ R G,J)
def zI(b:Bool)(a:Addr):Obj:={ cls:=.type (cond b "tuple_iterator" "list_iterator"),data:=.fields #[↥a,.int 0 0] }
def pI(b:Nat->Bool)(h:Heap)(Y:Y2):Heap:=Y.foldl (λh l=>h.push (zI (b l) l)) h
theorem nH:∀(Y:Y2)(h:Heap),(pI b h Y).objs.size=h.objs.size+-Y
 |[],h=>rfl
 |l::Y,h=>by
  let:=nH (b:=b) Y (h.push (zI (b l) l));rw[jh]at this;rw[ik,<-Nat.add_assoc,Nat.add_right_comm];show this
theorem jW:∀{ls:Y2}{h:Heap},h^c\o->pI b h ls^c\o
 |[],_,e=>e|x::ls,h,e=>jW (ls:=ls) (h:=h.push (zI (b x) x)) (aq _ e)
theorem vP:∀{ls:Y2}{h:Heap}{j:Nat},ls[j]?\l->pI b h ls^(h.objs.size+j)\(zI (b l) l)
 |x::ls,h,0,e=>by cases e;show jW (ls:=ls) (h:=h.push (zI (b l) l)) (cu _ rfl)
 |x::ls,h,j+1,e=>by
  let:=vP (b:=b) (h:=h.push (zI (b x) x)) (ls:=ls) (j:=j) e;rw[jh]at this;rw[<-Nat.add_assoc,Nat.add_right_comm];show this
def NS(h:g^i\(zI b l)):aQ b g i l 0:=by
 cases b with
 |true=>show{1,_,h,rfl,rfl}|false=>show{1,_,h,rfl,rfl}
def NT{Q:Y1}(h:ab b s.1 a Z)(q:Q (.ref s⁻¹) (s<&>s.1.push (zI b a))):'p' (pyIter ↥a) Q E s:=by
 cases b with
 |true=>show z6 h q|false=>show Ah h q
def NU{Q:List Value->Shared->Prop}(O:∀l∈ls,∃Z,ab (b l) s.1 l Z)(q:Q (Ga s⁻¹ (-ls)) (s<&>pI b s.1 ls)):'p' (Builtin.SmallTypes.iterAll (ls% .ref)) Q E s:=by
 unfold Builtin.SmallTypes.iterAll;show aa (ou _ (λT C J=>∃d,d<=-ls/\T=ls.drop d% .ref/\C=(Ga s⁻¹ d).toArray/\J=(s<&>pI b s.1 (ls.take d))) _ (λx T B J G=>?_) (λB J G=>?_) _ _ {1,0,iw _,rfl,rfl,rfl})
 .let(d,Y,e,rfl,rfl):=G
  let Y:d< -ls:=by
   rcases qi d (-ls) with h|h
   .exact h
   .rw[List.drop_of_length_le h]at e;cases e
  rw[yt Y,gm]at e;injection e with e1 e2
  subst e1 e2;let(Z,N):=O ls[d] (j9 Y);show aa (je (NT (N.at λo e=>jW e) (aj {1,d+1,Y,rfl,?_,?_})))
  .rw[nH,Ca,Nat.min_eq_left (Aj Y)]
   simp[Ga,tu]
  .let:pI b s.1 (ls.take (d+1))=(pI b s.1 (ls.take d)).push (zI (b ls[d]) ls[d]):=by
    rw[zr,bh Y,pI,List.foldl_append];rfl
   rw[this]
 .let(d,Y,e,rfl,rfl):=G
  let Y:d=-ls:=by
   rcases qi d (-ls) with h|h
   .rw[yt h]at e;cases e
   .exact Nat.le_antisymm Y h
  subst Y;rw[An];show aj ('s' q)
def zB(b:Nat->Bool)(h:Heap)(Y:Y2):Heap:=(pI b h Y).push (aS (Ga h.objs.size (-Y)))
def zC(b:Nat->Bool)(h:Heap)(Y:Y2):Heap:=(zB b h Y).push (aS (Ga h.objs.size (-Y)%λ_=>.none))
def zD(b:Nat->Bool)(h:Heap)(Y:Y2):Heap:=(zC b h Y).push { cls:=.type "zip",data:=.fields #[.none,.bool false,.bool false,↥(pI b h Y).objs.size,↥(zB b h Y).objs.size] }
def NV(J:-ls<=3) :
 Meets (Builtin.«zip.__new__» (.type "zip"::ls% .ref,[])) (λ_ R s=>(∀l∈ls,∃Z,ab (b l) s.1 l Z)/\R (.ok (.ret ↥(zC b s.1 ls).objs.size)) (s<&>zD b s.1 ls)):=
 .of_wp λprog w A R s h=>by
  let(Y,g,d,T,G):=s;let(C,h):=h;let O:=sub_zip;let f1:∀{Q:List Value->Shared->Prop}{A E},Q (Ga Y.objs.size (-ls)) (pI b Y ls,g,d,T,G)->'p' (Builtin.SmallTypes.iterAll (ls% .ref)) Q E (Y,g,d,T,G):=λq=>NU C q
  let sz:∀(Z:Zl),-Z<=3->Z.toArray.size<=sizeLine:=λZ h=>gh ('s' h) (show 3<=sizeLine by decide)
  let f2:∀{Q:Y1}{A E}{h:Heap},Q ↥h.objs.size (h.push (aS (Ga Y.objs.size (-ls))),g,d,T,G)->'p' (newTuple (Ga Y.objs.size (-ls))) Q E (h,g,d,T,G):=λq=>Ab q (sz _ (by simpa[Ga]using J))
  let B:∀{Q:Y1}{A E}{h:Heap},Q ↥h.objs.size (h.push (aS (Ga Y.objs.size (-ls)%λ_=>.none)),g,d,T,G)->'p' (newTuple (Ga Y.objs.size (-ls)%λ_=>.none)) Q E (h,g,d,T,G):=λq=>Ab q (sz _ (by simpa[Ga]using J))
  wp_walk using f1,f2,B
  show{1,_,rfl,h}
def vQ{n:Nat}(H:-ls<=3)(Y:s⁻¹=n)(S:checkTypeCall "zip" (ls% .ref,[])=pure Unit.unit)(P:checkBuiltinCall "zip.__new__" (.type "zip"::ls% .ref,[])=pure Unit.unit)(N:∀XR,argsOk "object.__init__" (XR::ls% .ref,[]))(R:∀l∈ls,∃U,ab (b l) s.1 l U)
 (h:∀Z,ZN b Z n ls .none false (Ga n (-ls)%λ_=>.none) 0 0 Z->Z^(n+-ls)\(aS (Ga n (-ls)))->(∀c o,s.1^c\o->Z^c\o)->Q ↥(n+-ls+2) (s<&>Z)):'p' (call (.type "zip") (ls% .ref)) Q E s:=by
 show callType_new F.called_zip ⋯ S P N F.entry_zip_new (NV H) (R,?_);let J:(pI b s.1 ls).objs.size=n+-ls:=by rw[nH,Y]
 let G:(zB b s.1 ls).objs.size=n+-ls+1:=by unfold zB;rw[jh,J]
 let C:(zC b s.1 ls).objs.size=n+-ls+2:=by unfold zC;rw[jh,G]
 let up:∀{h:Heap}{L:Obj}{c:Addr}{o:Obj},h^c\o->h.push L^c\o:=λe=>aq _ e
 let T:(zD b s.1 ls)^(zC b s.1 ls).objs.size\_:=cu _ rfl;let B:(zD b s.1 ls)^(zB b s.1 ls).objs.size\_:=up (cu _ rfl);let O:(zD b s.1 ls)^(pI b s.1 ls).objs.size\_:=up (up (cu _ rfl));rw[J,G,C]at T;rw[G,Y]at B;rw[J,Y]at O;change _/\_;rw[C];show({1,_,T,rfl},h _ (T,B,λj l e=>NS (up (up (up (by rw[<-Y];show vP e)))),λ_ _ _ e=>e) O λc o e=>up (up (up (jW e))))
def NW(a b c:Value):checkTypeCall "zip" ([a,b,c],[])=pure Unit.unit:=by kernel_rfl
def NX(a b c:Value):checkBuiltinCall "zip.__new__" ([.type "zip",a,b,c],[])=pure Unit.unit:=by kernel_rfl
def NY(a b c d:Value):argsOk "object.__init__" ([a,b,c,d],[]):=by unfold argsOk;rw[signature?_of (id :="object.__init__") (n :="__tini__".toList) (o :="tcejbo".toList) (by kernel_rfl) F.owner_object];kernel_rfl
theorem vR:∀Z:List Value,-Z=2\/-Z=3->checkTypeCall "zip" (Z,[])=pure Unit.unit/\checkBuiltinCall "zip.__new__" (.type "zip"::Z,[])=pure Unit.unit/\∀XR,argsOk "object.__init__" (XR::Z,[])
 |[a,b,c],_=>(NW _ _ _,NX _ _ _,λXR=>NY XR _ _ _)
 |[a,b],_=>(F.typeCall_zip_2 _ _,F.newCall_zip_2 _ _,λXR=>F.args_object_init_3 XR _ _)
end dO
namespace L2
open PySem PySem.Spec dO
def vS(b:Nat->Bool)(K:Fg)(as:X0):It:=
 (λi H=>∃T:List V,-T=-as/\∀(j:Nat) a,as[j]?\a->∃Y x,aR (b a) K H a Y/\Y[i]?\x/\T[j]?\x,
  λi H v G=>∃p T,v=↥p/\H p=()/\G=XD H p (.WL T)/\-T=-as/\∀(j:Nat) a Y,as[j]?\a->aR (b a) K H a Y->T[j]?=Y[i]?,
  λi H=>∃a Y,as[0]?\a/\aR (b a) K H a Y/\-Y<=i)
def TN(b:Nat->Bool)(n:Nat)(as:X0)(i:Nat)(h:Heap):Prop:=(∃Y,ZN b h n as .none false Y i 0 h/\-Y=-as)/\h^(n+-as)\(aS (Ga n (-as)))
def FN(n m:Nat):List Addr:=List.range' n (m+3)
def FN.mem{n m c:Nat}:c∈FN n m↔n<=c/\c<n+m+3:=List.mem_range'_1
theorem at_of(I:'i'):∀{as:X0}{vs:List V},-vs=-as->(∀(j:Nat) a,as[j]?\a->∃U x,aR (b a) X.K H a U/\U[i]?\x/\vs[j]?\x)->∃Z,WT vs Z/\At b s.1 as i Z
 |[],[],_,_=>([],.nil,rfl,λj l h=>by simp at h)
 |a::as,v::vs,l,h=>by
  symm
  let(Z,r,e,q):=at_of I (as:=as) (vs:=vs) ('s' l) (λj a e=>h (j+1) a e);let(U,x,N,L,G):=h 0 a rfl;cases G;let(B,O,C):=I.dP N;let(Y,J,E):=O.get L;left;show(Y::Z,.cons E r,by simp[e],λj l T=>?_);cases j with
  |zero=>cases T;show{2,B.toArray,Y,C,'s' J,rfl}|succ j=>show q j l T
theorem NZ{n:Nat}(h3:-as<=3)(Zc:as≠[])(hl:∀a∈as,a<n):Turn P w K (.Tuple ts k0 pt) (vS b K as) (FN n (-as)) (n+-as+2) (TN b n as)where
 mem:=FN.mem.mpr 'a'
 XR:=λi h st e Y=>by
  let((B,H,_),G):=st;let(c1,c2):=FN.mem<*Y
  by_cases z:e<n+-as
  .let q:e-n< -as:='a'
   let z:=(H.a (e-n) as[e-n] (by simp[q])).XR;rw[show n+(e-n)=e by lia]at z;show z
  .rcases(show e=n+-as\/e=n+-as+1\/e=n+-as+2 by lia)with rfl|rfl|rfl
   .exact(_,G,λv z=>by cases z)
   .exact{1,_,H.o,λv z=>by cases z}
   .exact{1,_,H.z,λv z=>by cases z}
 keep:=λi h h' st k=>by
  let((B,H,l),G):=st;let L:∀d o,n<=d->d<n+-as+3->h^d\o->h'^d\o:=λd o V h2=>k d (FN.mem.mpr (V,h2)) o
  show((B,(L _ _ 'a' 'a' H.z,L _ _ 'a' 'a' H.o,λj l h=>(H.a j l h).at λo=>L _ o 'a' (by let:=eU h;lia),λ_ _ _ e=>e),l),L _ _ 'a' 'a' G)
 item:=by
  intro X Q M W Y i N s σ H E I S st J;subst Q M W;symm
  let((B,Z,lo),G):=st;let lt:n+-as+2<s⁻¹:=cj Z.z
  let(vs,lv,J):=J;let(U,r,ha):=at_of I lv J;let O:s.TypeIs ↥(n+-as+2) "zip":= {1,_,Z.z,rfl};left;unfold pyNext;show aa (vf (ji (name:=Str.ofString "__next__") O vm (iz vm O F.entry_zip_next ?_ (F.args_zip_next_1 _))));show vM Zc h3 (.inl rfl) Z lo G hl ha (λnf=>absurd rfl nf) λV Z1 _ t1=>aj {1,_,rfl,?_}
  show wpAny_letOwnedTupleGo_zip Z1.z λh2 z2 R=>?_
  let R:Heap.SameBut (n+-as+2) V h2:=R;let C:=Z1.sz R.extBut (f1:=.none) (p':=false) z2;let t2:h2^s⁻¹\(aS U):=R.extBut _ _ (yw lt) t1;show(.ref s⁻¹,XD H s⁻¹ (.WL vs),I.Uq (t':=s.toks) S (λc o Y D=>C.low c o (by rw[FN.mem]at Y;lia) D) (bz _) (by rw[lv];show gh h3 (show 3<=sizeLine by decide),U,r,{1,_,t2,rfl,(_,rfl,rfl)}),rfl,
   {2,_,vs,rfl,I.Dk.fresh (bz _),rfl,lv,λj a ys ja hy=>?_},({1,U,(C.z,C.o,C.a,λ_ _ _ e=>e),ha.1},C.low _ _ 'a' G),λc Y=>?_)
  .let(xs,x,A,q2,q3):=J j a ja
   rw[I.nF hy A,q2,q3]
  .rw[FN.mem]at Y
   rw[qp 'a'];show(S c (FN.mem.mpr Y)).1
 done:=by
  intro X Q M W Y i N s σ H E I S st J;subst Q M W;symm
  let((B,Z,lo),G):=st;let(a,xs,a0,A,x1):=J;let(i1,r1,p1):=I.dP A;let qq:=-r1;let O:s.TypeIs ↥(n+-as+2) "zip":= {1,_,Z.z,rfl};left;unfold pyNext;show aa (vf (ji (name:=Str.ofString "__next__") O vm (iz vm O F.entry_zip_next ?_ (F.args_zip_next_1 _))));show vO (I.ok.hd Y) a0 (.inl rfl) Z G (hl a (az a0)) (xs:=i1.toArray) p1 (by simp;lia) λh' e k z_=>?_
  let(o,o1,o2):=z_;show aa (o4 (T :="StopIteration") (b:=true) (o,o1,o2) isSubtype_stop (aj (rfl,I.nE (t':=s.toks) S λc o Y D=>k c o (by rw[FN.mem]at Y;lia) D)))
 self:=λ_ _ _ _ _ st h=>by let((B,Z,_),_):=st;show wpAny_pyIter_zip Z.z h
theorem Y7:∀{as:X0}{Y:Zl},WT (as%V.ref) Y->Y=as%Value.ref
 |[],_,h=>by cases h;rfl|_::_,_,h=>by cases h with|cons r t=>cases r;rw[Y7 t];rfl
def N_(L:Gl X "zip")(D:X.mg "zip"= ())(F:PA X (a::es) ta)(C:starEach (a::es) X.env=(false,eval a X.env)::starEach es X.env)(M:(backTo pos (starEach es X.env)).any (·.1)=false) :
 PI X (.Tuple ts k0 pt) (.Call (.Name "zip" p) (a::es) [] pos) (fun σ H R=>ta σ H λvs U=>∃(b:Nat->Bool)(as:X0),vs=as%V.ref/\(-as=2\/-as=3)/\(∀q∈as,∃xs,aR (b q) X.K U q xs)/\R (vS b X.K as) U):=by
 intro Y s σ H R I h;show Dc (Fe I L D (show bootBuiltins "zip"\(.type "zip")by decide+kernel) (jq (Kd (F pos Y s σ H _ I h) λus J z=>?_) C M));symm
 let(vs,U,I1,W,b,as,rfl,l,Q,S):=z;left;cases Y7 W;let(E,N,A):=vR (as%Value.ref) ('s' l);let B:-as<=3:='a'
 let tp:∀q∈as,∃xs,ab (b q) J.1 q xs:=λq G=>by let(xs,hx):=Q q G;let(i1,_,p1):=I1.dP hx;show(_,p1)
 show vQ B rfl E N A tp λh' Z hI O=>wpAny_pyIter_zip Z.z ?_
 show{5,J⁻¹+-as+2,_,_,_,U,rfl,I1.YM (t':=J.toks) O,NZ B (λz=>by subst z;simp at l) λq G=>by let(xs,e):=tp q G;show e.lt,({1,_,Z,by simp[Ga]},hI),λc P=>?_,S};let T:=(FN.mem<*P).1;show I1.fI T (I1.Dk.fresh T)
end L2
namespace dO
open PySem PySem.Spec
open AutoSeq1 (wpAny_loadPart')
protected def Na(z TI TO:Addr) :
 Meets (Builtin.«enumerate.__new__» ([.type "enumerate",↥z],[])) (λ_ R s=>IsZip s.1 z TI TO .none /\
  R (.ok (.ret (.ref s⁻¹))) (s<&>s.1.push { cls:=.type "enumerate",data:=.fields #[.none,.bool false,↥z,rawInt 0,.none,.none] })):=
 .of_wp λprog w A R s h=>by
  let(O,g,d,N,L):=s;let(T,h):=h;let B:=sub_enumerate
  wp_walk using xr T
  show wpAny_stack_any λst=>aj ?_
  split
  .rename_i c _ _ _ _ _
   cases(c==Value.type "enumerate")<;>(wp_walk using xr T,wpAny_pyIter_zip T)<;>show{1,_,rfl,h}
  .wp_walk using xr T,wpAny_pyIter_zip T
   show{1,_,rfl,h}
def Nc{z TI TO:Addr}(c:IsZip s.1 z TI TO .none)(q:∀Z,IsEnum Z s⁻¹ z 0 .none->(∀y o,s.1^y\o->Z^y\o)->Q (.ref s⁻¹) (s<&>Z)):'p' (call (.type "enumerate") [↥z]) Q E s:=by show callType_new F.called_enumerate ⋯ (F.typeCall_enumerate_1 _) (F.newCall_enumerate_1 _) (λXR=>F.args_object_init_2 XR _) F.entry_enumerate_new (Na z TI TO) (c,?_);change _/\_;let Y:IsEnum (s.1.push { cls:=.type "enumerate",data:=.fields #[.none,.bool false,↥z,rawInt 0,.none,.none] }) s⁻¹ z 0 .none:=cu _ rfl;show({1,_,Y,rfl},q _ Y λy o z=>aq _ z)
end dO
namespace L2
open PySem PySem.Spec dO
def vT(b:Nat->Bool)(K:Fg)(as:X0):It:=
 (λi H=>∃T:List V,-T=-as/\∀(j:Nat) a,as[j]?\a->∃Y x,aR (b a) K H a Y/\Y[i]?\x/\T[j]?\x,
  λi H v J=>∃p G T,v=↥p/\H G=()/\H p=()/\p≠G/\J=XD (XD H G (.WL T)) p (.WL [⇑(i:Nat),↥G])/\-T=-as/\∀(j:Nat) a Y,as[j]?\a->aR (b a) K H a Y->T[j]?=Y[i]?,
  λi H=>∃a Y,as[0]?\a/\aR (b a) K H a Y/\-Y<=i)
def Nd(b:Nat->Bool)(n:Nat)(as:X0)(e:Addr)(i:Nat)(h:Heap):Prop:=(∃Y,IsEnum h e (n+-as+2) ((i:Nat):Int) Y)/\(∃f0 p T,(f0=.none\/∃a:Nat,f0=rawInt a)/\ZN b h n as f0 p T i 0 h/\-T=-as)/\h^(n+-as)\(aS (Ga n (-as)))
theorem Nl{n:Nat}{e:Addr}(h3:-as<=3)(Zc:as≠[])(hl:∀a∈as,a<n)(he:n+-as+2<e):Turn P w K (.Tuple ts k0 pt) (vT b K as) (e::FN n (-as)) e (Nd b n as e)where
 mem:=dw
 XR:=λi h st c Y=>by
  let((B,G),(f0,p,V,_,H,_),L):=st;rcases dj<*Y with z|Y
  .subst z;show(_,G,λv z=>by cases z)
  .let(c1,c2):=FN.mem<*Y
   by_cases z:c<n+-as
   .let q:c-n< -as:='a'
    let z:=(H.a (c-n) as[c-n] (by simp[q])).XR;rw[show n+(c-n)=c by lia]at z;show z
   .rcases(show c=n+-as\/c=n+-as+1\/c=n+-as+2 by lia)with rfl|rfl|rfl
    .exact(_,L,λv z=>by cases z)
    .exact{1,_,H.o,λv z=>by cases z}
    .exact{1,_,H.z,λv z=>by cases z}
 keep:=λi h h' st k=>by
  let((B,G),(f0,p,V,Q,H,l),L):=st;let C:∀d o,n<=d->d<n+-as+3->h^d\o->h'^d\o:=λd o J h2=>k d (bw _ (FN.mem.mpr (J,h2))) o
  show((B,k e dw _ G),{3,f0,p,V,Q,(C _ _ 'a' 'a' H.z,C _ _ 'a' 'a' H.o,λj l h=>(H.a j l h).at λo=>C _ o 'a' (by let:=eU h;lia),λ_ _ _ e=>e),l},C _ _ 'a' 'a' L)
 item:=by
  intro X hP hw hK Y i S s σ H E I Q st M;subst hP hw hK;symm
  let((B,G),(f0,p,V,N,Z,lo),L):=st;let(U,lv,M):=M;let(us,r,ha):=at_of I lv M;let tz:s.TypeIs ↥(n+-as+2) "zip":= {1,_,Z.z,rfl};let ty:s.TypeIs ↥e "enumerate":= (_,G,rfl);let lt:e<s⁻¹:=cj G
  left;unfold pyNext;show aa (vf (ji (name:=Str.ofString "__next__") ty qx (iz qx ty Ad ?_ (zx _))));show vJ (R:=λx J=>x=.ref s⁻¹/\(∃f0 p V,(f0=.none\/∃a:Nat,f0=rawInt a)/\ZN b s.1 n as f0 p V (i+1) 0 J/\-V=-as)/\J^s⁻¹\(aS us)/\J.objs.size=s⁻¹+1) G (fun{Q'} k=>?_) (λx J r=>by
   let(_,(_,_,_,_,O,_),_):=r;show O.low _ _ 'a' G) λx J h' rr o1 A _ k1=>aj {1,_,rfl,?_}
  .unfold Builtin.SmallTypes.nextOf
   show aa (ji (name:=Str.ofString "__next__") tz vm (iz vm tz F.entry_zip_next ?_ (F.args_zip_next_1 _)));show vM Zc h3 N Z lo L hl ha (λnf J ow W O A D=>aj (k _ J (rfl,{3,f0,true,ow,N,O,W},A,D))) λJ O D A=>aj (k _ J (rfl,{3,_,false,us,.inr (_,rfl),O,ha.1},A,D))
  .symm
   let(rfl,(qk,p',qq,qv,O,W),t0,D):=rr;left;rw[D]at o1 A⊢;show wpAny_letOwnedTupleGo_enum o1 λh2 o2 s2=>?_
   let s2:Heap.SameBut e h' h2:=s2;let C:∀c o,c≠e->J^c\o->h2^c\o:=λc o Y z=>s2.extBut c o Y (k1 c o Y z)
   let t2:h2^(s⁻¹+1)=some { cls:='U',data:=.seq #[.int i s.toks,.ref s⁻¹] }:=s2.extBut _ _ 'a' A;let I1:=I.Uq (t':=s.toks) Q (λc o Y z=>O.low c o (by erw[dj,FN.mem,not_or]at Y;lia) z) (bz _) (vs:=U) (by rw[lv];show gh h3 (show 3<=sizeLine by decide),us,r,{1,_,t0,rfl,(_,rfl,rfl)});let lc:∀c∈e::FN n (-as),c<s⁻¹:=λc Y=>by
    rcases dj<*Y with z|z
    .rw[z];show lt
    .let:=(FN.mem<*z).2;lia
   let q0:∀c∈e::FN n (-as),Yv X S (XD H s⁻¹ (.WL U)) c:=λc Y=>(by rw[qp (gq (lc c Y))];show(Q c Y).1,(Q c Y).2)
   let f1:H (s⁻¹+1)=():=I.Dk.fresh (xf _);show(↥(s⁻¹+1),XD (XD H s⁻¹ (.WL U)) (s⁻¹+1) (.WL [⇑(i:Nat),.ref s⁻¹]),I1.Uq (t':=s.toks+1) q0 (λc o Y z=>C c o (λy=>Y (by simp[y])) z) (f_ D) (by change 2<=sizeLine;decide,[.int i s.toks,.ref s⁻¹],.cons (s.toks,rfl) (.cons rfl .nil),{1,_,t2,rfl,(_,rfl,rfl)}),rfl,
    (_,_,U,rfl,I.Dk.fresh (bz _),f1,Nat.succ_ne_self _,rfl,lv,λj a ys ja hy=>?_),({1,.ref s⁻¹,?_},{3,qk,p',qq,qv,(C _ _ 'a' O.z,C _ _ 'a' O.o,λj l h=>(O.a j l h).at λo=>C _ o (by let:=eU h;lia),λ_ _ _ e=>e),W},C _ _ 'a' (O.low _ _ 'a' L)),λc Y=>?_)
   .let(xs,x,q1,q2,q3):=M j a ja
    rw[I.nF hy q1,q2,q3]
   .let q:((i+1:Nat):Int)=(i:Int)+1:=by push_cast;rfl
    rw[q];show o2
   .let:=lc c Y
    rw[qp 'a',qp 'a'];show(Q c Y).1
 done:=by
  intro X hP hw hK Y i S s σ H E I Q st M;subst hP hw hK;symm
  let((B,G),(f0,p,V,N,Z,lo),L):=st;let(a,xs,a0,q1,x1):=M;let(i1,r1,p1):=I.dP q1;let q4:=-r1;let tz:s.TypeIs ↥(n+-as+2) "zip":= {1,_,Z.z,rfl};let ty:s.TypeIs ↥e "enumerate":= (_,G,rfl);left;unfold pyNext;show aa (vf (ji (name:=Str.ofString "__next__") ty qx (iz qx ty Ad ?_ (zx _))));change 'A' (field ↥e 2>>=_) _ _ _;show aa (jm G rfl (x:=↥(n+-as+2)) rfl (aa ?_));unfold Builtin.SmallTypes.nextOf;show aa (ji (name:=Str.ofString "__next__") tz vm (iz vm tz F.entry_zip_next ?_ (F.args_zip_next_1 _)));show vO (I.ok.hd Y) a0 N Z L (hl a (az a0)) (xs:=i1.toArray) p1 (by simp;lia) λh' e k z_=>?_
  let(o,o1,o2):=z_;show aa (o4 (T :="StopIteration") (b:=true) (o,o1,o2) isSubtype_stop (aj (rfl,I.nE (t':=s.toks) Q λc o Y zz=>k c o (by erw[dj,FN.mem,not_or]at Y;lia) zz)))
 self:=λ_ _ _ _ _ st h=>by let((B,G),_):=st;show wpAny_pyIter_enum G h
def Nn(W:Gl X "enumerate")(hm:X.mg "enumerate"= ())(O:Gl X "zip")(B:X.mg "zip"= ())(ha:PA X (a::U) ta)(S:starEach (a::U) X.env=(false,eval a X.env)::starEach U X.env)(Kv:(backTo pz (starEach U X.env)).any (·.1)=false)(L:starEach [.Call (.Name "zip" p2) (a::U) [] pz] X.env=[(false,eval (.Call (.Name "zip" p2) (a::U) [] pz) X.env)]) :
 PI X (.Tuple ts k0 pt) (.Call (.Name "enumerate" p) [.Call (.Name "zip" p2) (a::U) [] pz] [] pos) (fun σ H R=>ta σ H λvs H1=>∃(b:Nat->Bool)(as:X0),vs=as%V.ref/\(-as=2\/-as=3)/\(∀q∈as,∃xs,aR (b q) X.K H1 q xs)/\R (vT b X.K as) H1):=by
 intro Y s σ H R I h;show Dc (Fe I W hm (show bootBuiltins "enumerate"\(.type "enumerate")by decide+kernel) (jq ?_ L rfl));rw[L];show m7 ?_;show Dc (Fe I O B (show bootBuiltins "zip"\(.type "zip")by decide+kernel) (jq (Kd (ha pz Y s σ H _ I h) λus T z=>?_) S Kv));symm
 let(vs,H1,I1,r1,b,as,rfl,l,ht,D):=z;left;cases Y7 r1;let(F,Q,c3):=vR (as%Value.ref) ('s' l);let E:-as<=3:='a'
 let tp:∀q∈as,∃xs,ab (b q) T.1 q xs:=λq C=>by let(xs,hx):=ht q C;let(i1,_,p1):=I1.dP hx;show(_,p1)
 show vQ E rfl F Q c3 tp λJ Z hI P=>?_
 change 'A' (spliced []) _ _ _;show ur ?_;let A:T⁻¹+-as+2<J.objs.size:=cj Z.z
 show Nc (s:=(T<&>J)) Z.z λh2 N k2=>wpAny_pyIter_enum N ?_
 let k2:∀y o,J^y\o->h2^y\o:=k2;show{5,J.objs.size,_,_,_,H1,rfl,I1.YM (t':=T.toks) λc o e=>k2 c o (P c o e),Nl E (λz=>by subst z;simp at l) (λq C=>by let(xs,e):=tp q C;show e.lt) A,({1,.none,N},{3,.none,false,_,.inl rfl,(k2 _ _ Z.z,k2 _ _ Z.o,λj l h=>(Z.a j l h).at λo=>k2 _ o,λ_ _ _ e=>e),by simp[Ga]},k2 _ _ hI),λc M=>?_,D};let G:T⁻¹<=c:=by
  rcases dj<*M with z|z
  .rw[z];lia
  .exact(FN.mem<*z).1
 show I1.fI G (I1.Dk.fresh G)
end L2
namespace Sm
open PySem L2
open MW (Ex Ha ag Qz Ea nq Lv Tg WR fc MO Kh Cp bJ bD Bm Kx XN)
def Nw{i:Nat}(h:(MW.Fp ds 0)[i]?\d):∃z,ds[i]?\z/\d=.WL [⇑(i:Nat),z]:=by
 unfold MW.Fp at h;rw[ie,Bf]at h;cases e:ds[i]? with
 |none=>rw[e]at h;simp at h|some z=>rw[e]at h;simp at h;show(z,rfl,h.symm)
def N0{X:Cx}(r:um X.K ι H ds vs)(Y:∀Z U,ax ι H Z U->aR bb X.K U q vs):jO nm X.K ι H (.Ys (MW.Fp ds 0)) (nG bb X.K q):=λZ U R le E=>by
 show(λi d P B=>?_,λ_=>(vs,Y Z U le,?_))
 .symm
  let(z,G,rfl):=Nw (show(MW.Fp ds 0)[i]?\d from B);let(v,T,L):=(r.Rf le).get G;left;show({2,vs,v,Y Z U le,T},λu S (p,x,e2,e3,e4,e5)=>?_);let O:x=v:=by let:=e5 vs (Y Z U le);rw[T]at this;cases this;rfl
  subst O e2 e4;let(J,C,N):=Ks (X:=X) E e3 (.cons ⇑_ (.cons L .nil));show(C,J,N)
 .change (-vs)<=-(MW.Fp ds 0)
  rw[<--r];simp[MW.Fp]
def N3(P:Gl X "enumerate")(hm:X.mg "enumerate"= ())(ha:PE X a ('t' U))(G:X_ a=true):PI X (.Tuple Z k0 pt) (.Call (.Name "enumerate" pr) [a] [] pos) (tI nm W X.K (.cU U)):=by
 intro Y A C H O I hh;symm
 let(ι,ρ,M,s,M',S,R,e,q):=hh;rw[MW.qS]at e;let(x,B,E,e):=gw e;left;show PI.YL (NP (ts:=Z) (k0:=k0) (pt:=pt) (p:=pr) (pos:=pos) P hm (T7 ha Zx (o6 G _ _)) (o6 G _ _)) (jP:=λT L N=>T=C/\L=H/\N=O) (λT L N (z1,z2,z3)=>?_) Y A C H O I (rfl,rfl,rfl);subst z1 z2 z3;show cC (es':=.cons U .nil) (ds:=[x]) (M1:=B) S R (by rw[MW.Ij,E];simp) λJ Q vs le F R1 r=>?_
 cases r with
 |cons D r2 =>
  cases r2;cases D with
  |@WL p ds us h1 rr =>
   cases e;show{2,true,p,rfl,(us,Oe.of h1),q J Q _ le F (N0 rr λqq H2 V=>Oe.of (V.WL _ _ h1))}
  |_=>cases e
def N4{B:Nm}{W:Kh}{X:Cx}{o:Expr}{o':Ex}{pos Y:Pos}{k f:Nat}{fa C:Addr}{I:FuncData}{D:Ya}{m:Str}{J ci:Nat}{cl:MW.Cl}{pl:Sem Bool}(ho:PE X o (tE B W X.K o'))(c0:bE X.K C)(L:Meth X.K C m fa)(F:J8 X.prog X.w X.K X.mg X.base ai k fa I D (bX B W X.K 1 f))(hr:Dd k X.A)(hb:YT X.K I D [])
 (O:∀c' Z,W.cls[c']?\Z->∀g,(Z._a/J)\g->B.cls c'\C/\g=f) (N:∀i,B.ZL i≠m)
 (ht:eval (.Call (.Attribute o m Y) [] [] pos) X.env=(do
  let U<-eval o X.env
  standAt Y.atName
  let (f,first) <-holding [U] (getMethod U m pl)
  callWith pos f first (backTo pos (starEach [] X.env)) (backToKw pos (keywordEach [] X.env)))) :
 PE X (.Call (.Attribute o m Y) [] [] pos) (tE B W X.K (.meth o' J)):=
 PE.of (HD (E:=E0) ho c0 L F hr hb .nil mV ht) fun σ H Q ι ρ M d M' S R e q=>by
  rw[MW.Wn]at e;let(x,T,e1,e):=gw e;show one S R e1 λG H1 v le S1 R1 r=>?_
  obtain⟨j,hx⟩:∃j,x=↥j:=by cases x<;>first|show(_,rfl)|cases e
  subst hx;obtain⟨p,rfl,hp⟩:∃p,v=↥p/\G.l[j]?\p:=by cases r with|ref z=>show(_,rfl,z)
  let e:(match T[j]? with
   | some (.YW c _)=>(match(W.cls[c]?)*>λC=>C._a/J with
    | some f=>W.call f [↥j] T|none=>.WY)
   | _=>.WY)=WR.ok d M':=e
  cases hM:T[j]? with
  |none=>rw[hM]at e;cases e
  |some ob =>
   rw[hM]at e;cases ob with
   |YW ci fs =>
    let e:(match(W.cls[ci]?)*>λC=>C._a/J with|some f=>W.call f [↥j] T|none=>.WY)=WR.ok d M':=e;cases hL:(W.cls[ci]?)*>λC=>C._a/J with
    |none=>rw[hL]at e;cases e
    |some g =>
     rw[hL]at e;symm
     let e:W.call g [↥j] T=.ok d M':=e;let(Z,h1,h2):=ir<*hL;let(h3,rfl):=O ci Z h1 g h2;let(C',dx,l,g1,g2,g3):=S1.XR j _ p hM hp;rw[h3]at g1;cases g1;left;show{3,p,dx,l,rfl,g2,Lc N g3,(G,T,[↥j],d,M',S1,.cons r .nil,rfl,e,λP H' v V S' r'=>q P H' v (le>>V) S' r')}
   |_=>cases e
def N9:PS X st (tS nm W X.K .ZV):=λY s B H D I G=>by let(N,C,M,O,T,J,S,R,e,q):=G;rw[MW.B1]at e;cases e
def vU(h:PE X a t):PE X (.BoolOp op [a] pos) t:=λY s T H Q I q=>PyProof.Rows.BoolOp_one (h Y s T H Q I q)
def bt(H:Hp)(a:Addr):Bool:=match H a with|some (.WL _)=>true|_=>false
inductive bK(K:Fg)(ι:Io)(H:Hp):List (List Dv)->List Addr->Prop
 |nil:bK K ι H [] []
 |cons {a:Addr} {l:List Dv} {us:List V} {ls:List (List Dv)} {as:X0} (r:um K ι H l us) (st:∀ι1 H1,ax ι H ι1 H1->aR (bt H a) K H1 a us) (t:bK K ι H ls as):bK K ι H (l::ls) (a::as)
def bK.len(z:bK K Z H ls as):-ls=-as:=by
 induction z with
 |nil=>rfl|cons _ _ _ Y=>rw[ik,ik,Y]
def bK.sq(z:bK K Z H ls as):∀q∈as,∃xs,aR (bt H q) K H q xs:=by
 induction z with
 |nil=>intro q h;cases h
 |cons r st t Y =>
  intro q h;rcases dj<*h with rfl|h
  .exact(_,st _ _ (Le.refl Z H).cm)
  .exact Y q h
def bK.item{i:Nat}(z:bK K ι H ls as)(Y:∀l∈ls,i< -l)(le:ax ι H Z U):∃vs,-vs=-as/\(∀(j:Nat) a,as[j]?\a->∃xs x,aR (bt H a) K U a xs/\xs[i]?\x/\vs[j]?\x)/\um K Z U (ls%λl=>l.getD i .XQ) vs:=by
 induction z with
 |nil=>show{1,[],rfl,λj a h=>by simp at h,.nil}
 |@cons a l us ls as r st t ih =>
  symm
  let(vs,N,O,B):=ih λl h=>Y l (bw _ h)
  let T:=Y l dw;let(u,J,C):=(r.Rf le).get (bh T);let e:l.getD i .XQ=l[i]:=by simp[T]
  left;show{1,u::vs,by rw[ik,ik,N],λj b G=>?_,.cons (by change Xo K Z U (l.getD i .XQ) u;rw[e];show C) B};cases j with
  |zero=>cases G;show{2,us,u,st _ _ le,J,rfl}|succ j=>show O j b G
def OA(h:MW.fB d\l)(r:Xo K ι H d v):∃p us,v=↥p/\um K ι H l us/\∀Z U,ax ι H Z U->aR (bt H p) K U p us:=by
 cases r with
 |WL e r=>cases h;show{2,_,_,rfl,r,λZ U le=>by erw[bt,e];show Oe.of (le.WL _ _ e)}
 |vl e n r=>cases h;show{2,_,_,rfl,r,λZ U le=>by erw[bt,e];show Kp.of (le.WK _ _ n.1 e)}
 |_=>cases h
def bK.of{T:List Dv}{Y:List (List Dv)}{G:List V}(r:um K Z H T G)(e:T%MW.fB=Y%some):∃as:List Addr,G=as%V.ref/\bK K Z H Y as:=by
 induction T generalizing Y G with
 |nil=>cases r;cases Y with
  |nil=>show([],rfl,.nil)|cons _ _=>cases e
 |cons d T B=>cases Y with
  |nil=>cases e
  |cons l Y =>
   injection e with e1 e2
   cases r with
   |cons J C =>
    symm
    let(p,E,rfl,L,O):=OA e1 J;let(as,rfl,N):=B C e2;left;show(p::as,rfl,.cons L O N)
def OB:∀{Y:List Dv}{T:List (List Dv)},MW.eE Y\T->Y%MW.fB=T%some:=fun{Y T} h=>by
 induction Y generalizing T with
 |nil=>cases h;rfl
 |cons d r G =>
  unfold MW.eE at h;cases e1:MW.fB d with
  |none=>rw[e1]at h;cases h
  |some l=>cases e2:MW.eE r with
   |none=>rw[e1,e2]at h;cases h
   |some J =>
    rw[e1,e2]at h;cases h;rw[gm,gm,e1,G e2]
def vV(e:MW.Yh ds M=.ok s U):U=M/\∃Z,∃n:Nat,ds%MW.fB=Z%some/\(-Z=2\/-Z=3)/\(∀l∈Z,-l=n)/\s=.Ys (MW.Fl Z n):=by
 unfold MW.Yh at e;cases h:MW.eE ds with
 |none=>rw[h]at e;cases e
 |some Z =>
  rw[h]at e;let((Y,T),e):=jT e;cases e;show(rfl,Z,_,OB h,Y,T,rfl)
def OC(hg:Gl X "zip")(hm:X.mg "zip"= ())(ha:PA X (a::Z) (aA nm W X.K U))(hs:starEach (a::Z) X.env=(false,eval a X.env)::starEach Z X.env)(Kv:(backTo pos (starEach Z X.env)).any (·.1)=false) :
 PI X (.Tuple ts k0 pt) (.Call (.Name "zip" pr) (a::Z) [] pos) (tI nm W X.K (.zip U)):=by
 intro T s0 Q H P I hh;let(ι,ρ,M,s,M',S,R,e,q):=hh;rw[MW.lE]at e;let(ds,N1,D,e):=gw e;let(rfl,ls,n,h1,V,E,rfl):=vV e;show PI.YL (N_ (ts:=ts) (k0:=k0) (pt:=pt) (p:=pr) (pos:=pos) hg hm ha hs Kv) (jP:=λG A F=>G=Q/\A=H/\F=P) (λG A F z=>?_) T s0 Q H P I (rfl,rfl,rfl);let(rfl,rfl,rfl):=z;show cC S R D λJ N vs le S1 R1 rr=>?_
 let(as,rfl,z):=bK.of rr h1;show{2,bt N,as,rfl,by rw[<-z.len];show V,z.sq,q J N _ le S1 λqq H2 M2 L S2=>(λi d B Y=>?_,λ_=>?_)}
 .let Y:(MW.Fl ls n)[i]?\d:=Y
  let B:i<n:=by simpa[MW.Fl]using(ak<*Y).1
  rw[MW.Fl,ie,yo B]at Y;cases Y;let(vs,l1,C,l3):=z.item (λl h=>by rw[E l h];show B) L;show({1,vs,l1,C},λu' H3 y=>?_);let(t,ws,rfl,e6,rfl,e8,e9):=y;let:ws=vs:=by
   apply uf;intro j
   by_cases h:j< -as
   .let(xs,x,k1,k2,k3):=C j as[j] (bh h)
    rw[e9 j as[j] xs (bh h) k1,k2,k3]
   .rw[jk 'a',jk 'a']
  subst this;let(S3,O,r3):=Ks (X:=X) S2 e6 l3;show(O,S3,r3)
 .cases z with
  |nil=>simp at V
  | cons r st t=>show(_,_,rfl,st _ _ L,by
   change _<=-(MW.Fl _ n)
   rw[<--r,E _ dw];simp[MW.Fl])
def OD{Y:List Dv}{b:Bool}(e:MW._V Y\b):∃bs:List Bool,Y=bs%MW.D.bl/\b=bs.all id:=by
 induction Y generalizing b with
 |nil=>cases e;show([],rfl,rfl)
 |cons x r G =>
  cases x with
  |bl k =>
   symm
   let(c,T,rfl):=dg<*(show(MW._V r%(k&&·))\b from e);let(bs,rfl,rfl):=G T;left;show(k::bs,rfl,'b')
  |_=>cases e
theorem vW{J:Io}{H:Hp}{K:Fg}:∀{bs:List Bool}{Y:List V}{is:Zl},um K J H (bs%MW.D.bl) Y->WT Y is->is=bs%Value.bool
 |[],_,_,r,h=>by cases r;cases h;rfl
 |k::bs,_,_,r,h=>by
  cases r with
  |cons T G =>
   cases h with
   |cons O B =>
    cases T;cases O;rw[vW G B];rfl
def OE(hc:X.YB=true):Ff X (.builtin "all") (rB nm X.K .all):=λN s σ H vs us Q I Xz hh=>by
 symm
 let(Z,M,P,d,M',S,r,e,q):=hh;obtain⟨x,rfl,e⟩:∃x,P=[x]/\WR.wg ((MW.gr M x*>MW._V)%MW.D.bl) M=.ok d M':=by
  cases P with
  |nil=>cases e
  |cons x l=>cases l with
   |nil=>show(x,rfl,e)|cons _ _=>cases e
 let(R,rfl):=zb e;let(b,F,rfl):=dg<*R;let(xs,U,e4):=ir<*F;let(bs,rfl,rfl):=OD e4;let(v,rfl,rv):=Nq r rfl;let(u,rfl,ru):=Y4 Xz;let(p,ws,rfl,W,rl):=wz S rv U;cases ru;let(is,B,O,_):=I.list (Kp.of W);let T:=vW rl B;left;let Ib:p<s⁻¹:=by let(_,e,_):=O.isList;show cj e
 show call_all_walk (Ah O.isList ?_);show{7,_,_,_,_,_,_,λi=>bs.getD i true,rfl,Walks.list (A:=X.A.in1) (I.ok.hd hc) s⁻¹ p (gq Ib) is.toArray,({1,_,cu _ rfl,rfl,rfl},O.isList.push _),λi v s Q E V J=>?_,λh' tk Y=>?_}
 .let L:is[i]?\v:='s' V
  rw[T,ie]at L;let(k,Y,rfl):=dg<*L;show qd ?_;let J:Q (bs.getD i true) s:=J;rw[bx,Y]at J;show J
 .let ha:('r' is.toArray.size).all (λi=>bs.getD i true)=bs.all id:=by
   rw[T];erw[gn,dh];rw[Ay,jr,jr];constructor
   .intro h k Y
    let(i,G,rfl):=m9 Y;let:=h i (jg.mpr G);simpa[bx,G]using this
   .intro h i G
    let C:=jg<*G;let:=h bs[i] (j9 C);simpa[bx,C]using this
  rw[ha];show(.bl _,H,I.YM (t':=tk) (old_kept Y),rfl,q Z H _ (Le.refl _ _) S (.bl _))
def OF(hT:PySem.W.kitAny X.K 'U' ['U',.type "list"]\true)(qv:PySem.W.kitAny X.K (.type "list") ['U',.type "list"]\true)(V:PySem.W.kitAny X.K (.type "int") ['U',.type "list"]\false)(A:PySem.W.kitAny X.K (.type "bool") ['U',.type "list"]\false)(hg:Gl X n)(hm:X.mg n=())(hv:bootBuiltins n\(.builtin "isinstance"))(hn:n≠"__name__")(Wf:(n==("__debug__": Str))=false)(P:Gl X "tuple")(qk:X.mg "tuple"= ())(qq:Gl X "list")(F:X.mg "list"= ())(ha:PE X a ('t' a'))(he:starEach [a,.Tuple [.Name "tuple" U,.Name "list" Z] k pt] X.env=(false,eval a X.env)::starEach [.Tuple [.Name "tuple" U,.Name "list" Z] k pt] X.env)(Kv:(backTo pos (starEach [.Tuple [.Name "tuple" U,.Name "list" Z] k pt] X.env)).any (·.1)=false):PE X (.Call (.Name n p) [a,.Tuple [.Name "tuple" U,.Name "list" Z] k pt] [] pos) ('t' (.YC ._S (.cons a' .nil))):=by
 intro T s L H Q I hh;symm
 let(ι,ρ,M,d,M',S,R,e,q):=hh;rw[MW.Qa]at e;let(ds,M1,O,e):=gw e;rw[MW.Ij]at O;let(x,M2,e2,O):=gw O;rw[MW.Rv]at O;cases O;left;show jx (Fe I hg hm hv ?_ hn Wf);show za (Q:=EP X T L Q) ?_ he Kv;rw[he];change 'A' (spliced ((false,eval a X.env)::backTo pos (starEach [.Tuple [.Name "tuple" U,.Name "list" Z] k pt] X.env))) _ _ s;show m7 (Uw (ha T s L H (λv G=>∃Y,Le ι H Y G/\ql nm X.K Y G M1/\Xo X.K Y G x v) I {5,ι,ρ,M,x,M1,S,R,e2,λY G v le S1 r=>(Y,le,S1,r)}) λu J v G I1 E z_=>?_);let(Y,le,S1,r):=z_;change 'A' (spliced ((false,eval (.Tuple [.Name "tuple" U,.Name "list" Z] k pt) X.env)::backTo pos (starEach [] X.env))) _ _ J;show m7 (wpAny_Tuple ?_);change 'A' (spliced ((false,eval (.Name "tuple" U) X.env)::backTo pt (starEach [.Name "list" Z] X.env))) _ _ J;show m7 (Fe I1 P qk (show bootBuiltins "tuple"\'U'by decide+kernel) ?_ ∅ ∅);change 'A' (spliced ((false,eval (.Name "list" Z) X.env)::backTo pt (starEach [] X.env))) _ _ J;show m7 (Fe I1 qq F (show bootBuiltins "list"\(.type "list")by decide+kernel) ?_ ∅ ∅);show ur (by change 2<=sizeLine;decide,?_);show ur ?_;symm
 let I2:WM X T L G (J<&>J.1.push { cls:='U',data:=.seq #['U',.type "list"] }):=I1.YM (t':=J.toks) λb u e=>aq _ e
 let B:(J.1.push { cls:='U',data:=.seq #['U',.type "list"] })^J⁻¹=some { cls:='U',data:=.seq #['U',.type "list"] }:=cu _ rfl;let e:WR.wg ((MW.qJ ↑true ↑true ↑false ↑false x)%MW.D.bl) M1=.ok d M':=e;let(e4,e5):=zb e;subst e5;let(b,C,rfl):=dg<*e4;let fin:∀tk,EP X T L Q (.bool b) { J with heap:=J.1.push { cls:='U',data:=.seq #['U',.type "list"] },toks:=tk }:=λtk=>(.bl b,G,I2.tok _,rfl,q Y G _ le S1 (.bl b))
 left;cases r with
 |int i=>cases C;let(t,q):=(show ∃t,u=Value.int i t from E);cases q;show PySem.W.kia_tup PySem.W.kitx_int I2.aP True.intro B V (λz=>nomatch z) fin
 |bl i=>cases C;cases(show u=Value.bool i from E);show PySem.W.kia_tup PySem.W.kitx_bool I2.aP True.intro B A (λz=>nomatch z) fin
 |@WL p ds us N rr =>
  cases C;cases(show u=Value.ref p from E);symm
  let(_,_,_,N):=(show Dy X.prog X.w G _ p (.WL us)from I2.Dk p _ N);let(o,g1,g2,_):=N;left;show PySem.W.kia_tup PySem.W.kitx_tuple I2.aP {1,o,g1,g2} B hT (λz=>nomatch z) fin
 |@vl p ds us N _ rr =>
  cases C;cases(show u=Value.ref p from E);let(_,_,n,_,g):=(show Dy X.prog X.w G _ p (.WK us)from I2.Dk p _ N);show PySem.W.kia_tup PySem.W.kitx_list I2.aP {1,_,g,rfl} B qv (λz=>nomatch z) fin
 |_=>cases C
def OG(e:MW.Kg .get x ds M=.ok d M'):∃n k U,x=↥n/\ds=[k,U]/\M'=M/\((∃Z q,M[n]?\(.dK Z)/\MW.Z8 k\q/\d=(MW.Am Z q).getD U)\/∃Z q,M[n]?\(.dT Z)/\MW.Ut k\q/\d=(MW.Am Z q).getD U):=by
 match ds,e with
 |[k,U],e =>
  let(B,O):=zb (show WR.wg (MW.gG x k M%(·.getD U)) M=.ok d M' from e);let(z,Y,J):=dg<*B;cases x with
  |ref n =>
   show{3,n,k,U,rfl,rfl,O,?_};erw[MW.gG]at Y;cases hM:M[n]? with
   |none=>rw[hM]at Y;cases Y
   |some o=>cases o with
    |dK Z =>
     rw[hM]at Y;let(q,T,G):=dg<*Y;show .inl {2,Z,q,rfl,T,by rw[G];show J.symm}
    |dT Z =>
     rw[hM]at Y;let(q,T,G):=dg<*Y;show .inr {2,Z,q,rfl,T,by rw[G];show J.symm}
    |_=>rw[hM]at Y;cases Y
  |_=>cases Y
 |[],e1=>cases e1|[_],e1=>cases e1|_::_::_::_,e1=>cases e1
def ty_dict{X:Cx}(S:ql nm X.K Z H M)(r:Xo X.K Z H x v)(h:MW.Oo .get x M=true):gT X.K "dict" v H:=by
 cases r with
 |@ref n p hp =>
  let h:(match M[n]? with|some (.dK _)=>true|some (.dT _)=>true|_=>false)=true:=h;split at h
  .rename_i T
   let(l,Y,_):=S.XR n _ p T hp;show .inr (.inr (rfl,.inl (_,Y)))
  .rename_i T
   let(l,Y,_):=S.XR n _ p T hp;show .inr (.inr (rfl,.inr (_,Y)))
  .cases h
 |_=>cases h
def OH(F:X.A.units+1<cLine):dM X "dict.get" (rM nm X.K .get):=λZ s σ H v vs u us Q I ru Xz hh=>by
 let(D,M,x,ds,d,M',S,r,rs,e,q):=hh;let(n,k,d0,rfl,rfl,rfl,e):=OG e;cases rs with
 |cons U C =>
  cases C with
  |cons rd C =>
   cases C;cases Xz with
   |cons J Y =>
    cases Y with
    |cons B Y =>
     cases Y;cases r with
     |ref ha =>
      cases ru;rcases e with⟨R,G,N,P,rfl⟩|⟨R,G,N,P,rfl⟩
      .let(l,E,O):=S.XR n _ _ N ha
       let hy:=gX U P;subst hy;show tH F I (Rm.k E) J B λw' s' L T=>(_,H,L,T,q D H _ (Le.refl _ _) S ?_)
       cases hl:MW.Am R G with
       |none=>rw[(O.YD (k:=G)).2 hl];show rd|some d=>let(z,V,W):=(O.YD (k:=G)).1 d hl;rw[V];show W
      .let(l,E,O):=S.XR n _ _ N ha
       let(bb,rfl,hb):=gY U P;show tH F I (Rm.t E hb) J B λw' s' L T=>(_,H,L,T,q D H _ (Le.refl _ _) S ?_)
       cases hl:MW.Am R G with
       |none=>rw[(O.YD (k:=G)).2 hl];show rd|some d=>let(z,V,W):=(O.YD (k:=G)).1 d hl;rw[V];show W
protected def OI(hr:Dd 8 X.A)(hg:Gl X n)(hm:X.mg n=())(hv:bootBuiltins n\(.type "list"))(hn:n≠"__name__")(Wf:(n==("__debug__": Str))=false)(qq:Gl X Z)(y:X.mg Z=())(qk:bootBuiltins Z\(.type "range"))(J:Z≠"__name__")(U:(Z==("__debug__": Str))=false)(ha:PA X [a] (aA nm W X.K (.cons a' .nil)))(he:starEach [.Call (.Name Z p') [a] [] Y] X.env=(false,eval (.Call (.Name Z p') [a] [] Y) X.env)::starEach [] X.env)(Kv:(backTo q1 (starEach [] X.env)).any (·.1)=false)(qv:starEach [a] X.env=(false,eval a X.env)::starEach [] X.env)(C:(backTo Y (starEach [] X.env)).any (·.1)=false) :
 PE X (.Call (.Name n p) [.Call (.Name Z p') [a] [] Y] [] q1) ('t' (.eA a')):=by
 intro B s F H Q I hh;symm
 let(ι,ρ,M,d,M',S,R,e,q):=hh;rw[MW.BW]at e;let(x,M1,e1,e):=gw e;left;split at e<;>try cases e
 rename_i i;split at e<;>cases e;rename_i hi;show jx (Fe I hg hm hv ?_ hn Wf);show jq (Q:=EP X B F Q) ?_ he Kv;rw[he];change 'A' (spliced ((false,eval (.Call (.Name Z p') [a] [] Y) X.env)::backTo q1 (starEach [] X.env))) _ _ s;show m7 ?_;show jx (Fe I qq y qk ?_ J U);show jq (Kd (ha Y B s F H (λG N=>∃O,G=[⇑i]/\Le ι H O N/\ql nm X.K O N M1) I {5,ι,ρ,M,[⇑i],M1,S,R,by simp[e1,WR.bind],λO N G le S1 r=>?_}) λus T (G,N,I1,r1,O,ev,le1,S1)=>?_) qv C
 .let(v,ev,rv):=Nq r rfl
  cases rv;show(O,ev,le,S1)
 subst ev;symm
 let(u,rfl,ru):=Y4 r1;let(t,rfl):=ru;left;show call_range_1 ?_;change 'A' (spliced []) _ _ _;show ur ?_;let keep:∀b o,T.1^b\o->(T.1.push { cls:=.type "range",data:=.fields #[.int 0 T.toks,.int i t,.int 1 (T.toks+1)] })^b\o:=λb o e=>aq _ e
 show call_list_range (n:=i.toNat) hr.hd (cu _ rfl) (small_one 'a' 'a' 'a' (by omega)) (by rw[rangeSize_one];split<;>lia) 'a' λh' tk L c' hk P Ii=>?_
 let D:(T.1.push { cls:=.type "range",data:=.fields #[.int 0 T.toks,.int i t,.int 1 (T.toks+1)] }).objs.size=T⁻¹+1:=jh ..;let P:h'^(T.1.push { cls:=.type "range",data:=.fields #[.int 0 T.toks,.int i t,.int 1 (T.toks+1)] }).objs.size=some { cls:=.type "list",dict:=(),data:=.seq L c',slots:=#[] }:=P;change EP X B F Q ↥(T.1.push { cls:=.type "range",data:=.fields #[.int 0 T.toks,.int i t,.int 1 (T.toks+1)] }).objs.size _;rw[D]at P⊢;let hz:-('r' i.toNat%λ(k:Nat)=>V.int (k:Int))<=sizeLine:=by simp[vo];omega
 let E:T⁻¹<=T⁻¹+1:=xf _
 let hf:N (T⁻¹+1)=():=I1.Dk.fresh E;let I3:WM X B F (XD N (T⁻¹+1) (.WK ('r' i.toNat%λ(k:Nat)=>V.int (k:Int)))) { T with heap:=h',toks:=tk }:=
  I1.laid (a:=T⁻¹+1) (t':=tk) (λb o e=>hk b o (keep b o e)) E (show Dy X.prog X.w _ _ _ (.WK _)from(hz,L.toList,c',vG Ii,'s' P))
 let(S2,Cj,r2):=mi (X:=X) S1 hf (vH i.toNat);show(↥(T⁻¹+1),_,I3,rfl,q _ _ _ (le1>>Cj) S2 r2)
end Sm
namespace PySem.SeqAt
open AutoSeq1 (wpAny_loadPart')
open MeetsSeq MeetsSeq2 MeetsSeq3 SeqRoads2
def OJ(I:Nat->β->Shared->Prop)(turn:∀i c s,i<b->I i c s->wpAny M A (f i c) (λr U=>match r with|.yield Z=>I (i+1) Z U|.done Z=>Q Z U) E s)(fin:∀c s,I b c s->Q c s)(T:I 0 c s):wpAny M A (forIn [:b] c f) Q E s:=by
 rw[yx];let G:([:b]:Std.Legacy.Range).size=b:=by simp[Std.Legacy.Range.size]
 change wpAny M A (forIn (List.range' 0 ([:b]:Std.Legacy.Range).size 1) c f) Q E s;rw[G];show ou f (λl c s=>∃i,i<=b/\l=List.range' i (b-i) 1/\I i c s) Q ?_ ?_ _ c {1,0,iw _,'b',T}
 .rintro x N c s ⟨i,C,Y,h⟩
  let B:i<b:=by
   rcases qi i b with z|z
   .exact z
   .rw[show b-i=0 by lia]at Y;simp at Y
  obtain⟨n,J⟩:∃n,b-i=n+1:=(b-i-1,'a');rw[J,Ce]at Y;let(rfl,rfl):=List.cons.inj Y;show mj (turn x c s B h) (λr U O=>?_) λ_ _ z=>z
  cases r with
  |done Z=>show O|yield Z=>show{1,x+1,B,by congr 1;lia,O}
 .rintro c s ⟨i,C,Y,h⟩
  let:i=b:=by
   rcases qi i b with z|z
   .obtain⟨n,J⟩:∃n,b-i=n+1:=(b-i-1,'a')
    rw[J,Ce]at Y;simp at Y
   .exact u_ C z
  subst this;show fin _ _ h
def OK(l:Addr)(Y:U1)(n:Nat)(L:Option Addr)(E:Array (Option Value))(x:Value)(e:Value->Bool)(j:Nat)(S:j<Y.size)
 (O:e Y[j]=true) (J:∀m (Z:m<Y.size),m<j->e Y[m]=false) :
 Meets (Builtin.«tuple.index» ([↥l,x],[]))
  (λA R s=>s.1^l=some { cls:='U',dict:=L,data:=.seq Y n,slots:=E }/\(∀y,y∈Y->EqAt A.in1 s y x (e y))/\R (.ok (.ret (.int j s.toks))) { s with toks:=s.toks+1 }):=
 .of_wp λprog w A R s h=>by
  let(C,g,d,Q,V):=s;let(P,N,h):=h
  wp_walk using xr P,OJ (λi b B=>b.1=()/\B=(C,g,d,Q,V)/\i<=j)
  ·
   rintro i b B W ⟨H,rfl,T⟩;let G:i<Y.size:=c_ T S
   rw[show Y[i]?=↑Y[i]from Array.getElem?_eq_getElem G];show aa (N _ (Array.getElem_mem G) prog w _ _ ?_);rcases qi i j with z|z
   .rw[J i G z]
    wp_walk
    show(rfl,rfl,z)
   .obtain rfl:i=j:=u_ T z
    rw[O]
    wp_walk
    show{1,_,rfl,h}
  ·
   rintro b B ⟨H,rfl,T⟩
   lia
  .exact(rfl,rfl,iw _)
end PySem.SeqAt
namespace Sm
open PySem L2
open MW (Ex Ha ag Qz Ea nq Lv Tg WR fc MO Kh Cp bJ bD Bm Kx XN)
def OL(e:MW.Kg .Py x ds M=.ok d M'):∃Z U j,ds=[Z]/\x=.WL U/\MW.b0 M Z U\j/\d=⇑((j:Nat):Int)/\M'=M:=by
 let(Z,rfl,Y):=gk e;cases x with
 |WL U =>
  let(T,rfl):=zb (show WR.wg (MW.b0 M Z U%λ(j:Nat)=>MW.D.int (j:Int)) M=.ok d M' from Y);let(j,J,G):=dg<*T;show{3,Z,U,j,rfl,rfl,J,G.symm,rfl}
 |_=>cases Y
def OM(hr:Dd 8 X.A):dM X "tuple.index" (rM nm X.K .Py):=λP s σ H v vs u us Q I ru Xz hh=>by
 let(ι,M,x,ds,d,Z,S,r,rs,e,q):=hh;let(d0,xs,j,rfl,rfl,e2,rfl,rfl):=OL e;cases rs with
 |cons U ht =>
  cases ht;cases Xz with
  |cons hu B =>
   cases B;let(bs,N,e4):=ir<*(show(MW.Pz Z d0 xs*>(·.findIdx? id))\j from e2);cases r with
   |WL hp V =>
    cases ru;let(z,is,L,(qk,dd,C,sl),O,E,n,T,qq):=(show Dy X.prog X.w H s.1 _ (.WL _)from I.Dk _ _ hp);simp only at E T;subst E T;let(f,g1,g2):=jR (A:=X.A.in1) I S ((hr.mono (by decide:7<=8)).in1) V L U hu N;let(f1,f2):=Xf e4;let G:-is=-bs:=by rw[(Pn N).1,V.length,L.length]
    let D:j< -is:=by rw[G];show(ak<*f1).1
    let W:∀m (Y:m< -is),bs[m]?\(f is[m]):=λm Y=>g2 m _ (bh Y)
    show call_meetsIn F.slot_tuple_index (_,O,rfl) F.entry_tuple_index (F.args_tuple_index_2 _ _) (λA R s h=>SeqAt.OK _ is.toArray n dd sl _ f j ('s' D) ?_ ?_ _ _ A R s h) (O,g1,?_)
    .let:=W j D;rw[f1]at this;simpa using(j6 this).symm
    .intro m Y J
     let Y:m< -is:='s' Y
     let:=W m Y;rw[f2 m J]at this;simpa using(j6 this).symm
    .exact(⇑j,H,I.tok _,(_,rfl),q ι H _ (Le.refl _ _) S ⇑_)
theorem nI{C:Io}{H:Hp}{K:Fg}:∀{Y:List Dv}{T:List V}{is:Zl}{G:X9},um K C H Y T->WT T is->MW.Yd Y\G->PyProof.Rows.IntsAre is G
 |_,_,_,_,.nil,.nil,h=>by cases h;show .nil
 |_,_,_,_,.cons r t,.cons rv tv,h=>by
  cases r<;>erw[MW.Yd]at h<;>try cases h
  symm
  let(B,J,O):=dg<*h;subst O;let(N,rfl):=rv;left;show .cons _ _ (nI t tv J)
theorem vX:∀{is:Zl}{Y:X9},PyProof.Rows.IntsAre is Y->WT (Y%V.int) is
 |_,_,.nil=>.nil|_,_,.cons n t h=>.cons (t,rfl) (vX h)
theorem vY{Y:Io}{H:Hp}{K:Fg}:∀Z:List Int,um K Y H (Z%MW.D.int) (Z%V.int)
 |[]=>.nil|n::Z=>.cons ⇑n (vY Z)
def ON(e:MW.qu .Ey ds M=.ok d M'):∃x U Z,ds=[x]/\MW.Cm M x\U/\MW.Yd U\Z/\-(MW.yz Z)<31/\d=.vl (MW.YS (MW.yz Z)%MW.D.int)/\M'=M:=by
 match ds,e with
 |[x],e =>
  symm
  let e:WR.wg ((MW.Cm M x*>MW.Yd)*>λis=>if-(MW.yz is)<31 then ↑(MW.D.vl (MW.YS (MW.yz is)%MW.D.int))else ()) M=.ok d M':=e;let(T,J):=zb e;let(Z,C,Y):=ir<*T;let(U,G,O):=ir<*C;left;split at Y
  .rename_i B
   show{3,x,U,Z,rfl,G,O,B,(j6 Y).symm,J}
  .cases Y
 |[],e=>cases e|_::_::_,e=>cases e
def OO(O:Dd 8 X.A)(I:'i')(S:ql nm X.K ι H M)(P:Xo X.K ι H x v)(E:WX v u)(L:MW.Cm M x\xs)(N:MW.Yd xs\ns)(C:-(MW.yz ns)<31)(h:∀Z tk U,(∀b o,s.1^b\o->Z^b\o)->aD.Es X.w Z s⁻¹ (λk=>k∈ns) U->U<=-(MW.yz ns)->Q (.ref s⁻¹) { s with heap:=Z,toks:=tk }) :
 'q' (call (.type "set") [u]) Q X.xe s:=by
 symm
 let(p,R,rfl,T,B):=Pj S P L;cases E;left;rcases T with T|T
 .let(is,Y,J,_):=I.list (Kp.of T)
  show aD.AZ O.hd J.isList ('s' (nI B Y N)) (λk G=>(MW.Vq k ns).mpr G) C h
 .let(is,Y,J,_):=I.tuple (Oe.of T)
  show aD.Ap O.hd J ('s' (nI B Y N)) (λk G=>(MW.Vq k ns).mpr G) C h
def OP(H:Dd 8 X.A)(I1:WM X pins σ H1 s1)(S:ql nm X.K qq H1 M')(B:aD.Es X.w h' a (λk=>k∈ns) n')(M:s1⁻¹<=a)(keep:∀b o,s1.1^b\o->h'^b\o)(L:n'<31)(q:∀Z U v,Le qq H1 Z U->ql nm X.K Z U M'->Xo X.K Z U (.vl (MW.YS (MW.yz ns)%MW.D.int)) v->Q v U) :
 'q' (call (.builtin "sorted") [↥a]) (EP X pins σ Q) X.xe { s1 with heap:=h',toks:=tk }:=by
 show aD.BB (s:={ s1 with heap:=h',toks:=tk }) H.hd B L λW Y p2 W_ j N J O so nd mem z_=>?_
 let(c,g):=z_;let C:-(MW.yz ns)<=n':=by
  symm
  let(u,o,l,r,t,X,I,rfl,_):=B;let:=aD.k7 (MW.gH ns) λk P=>I k<*(MW.Vq k ns<*P)
  rw[dh]at this;left;show this
 obtain rfl:=MW.lJ so nd mem;symm
 let(d,_,_,_,z,_):=B.get;let T:s1⁻¹<=p2:=gh (gh M (Aj (cj z))) J
 let F:H1 p2=():=I1.Dk.fresh T;let G:-(MW.YS (MW.yz ns)%V.int)<=sizeLine:=by rw[dh,(MW.Il _).length_eq,vo];show e_ (c_ C (b_ L ⋯))
 let I3:WM X pins σ (XD H1 p2 (.WK (MW.YS (MW.yz ns)%V.int))) { s1 with heap:=W,toks:=Y }:=
  I1.laid (a:=p2) (t':=Y) (λb o e=>N b o (keep b o e)) T (show Dy X.prog X.w _ _ _ (.WK _)from(G,W_.toList,c,vX O,'s' g))
 let(E,R,y):=gW (X:=X) S F (vY _);left;show(↥p2,_,I3,rfl,q _ _ _ R E y)
def OQ(t:Dd 8 X.A)(i:Gl X n)(hm:X.mg n=())(hv:bootBuiltins n\(.builtin "sorted"))(hn:n≠"__name__")(Wf:(n==("__debug__": Str))=false)(E:Gl X Z)(L:X.mg Z=())(V:bootBuiltins Z\(.type "set"))(O:Z≠"__name__")(C:(Z==("__debug__": Str))=false)(ha:PA X [a] (aA nm W X.K (.cons a' .nil)))(j:starEach [.Call (.Name Z p') [a] [] U] X.env=(false,eval (.Call (.Name Z p') [a] [] U) X.env)::starEach [] X.env)(Kv:(backTo q1 (starEach [] X.env)).any (·.1)=false)(F:starEach [a] X.env=(false,eval a X.env)::starEach [] X.env)(N:(backTo U (starEach [] X.env)).any (·.1)=false) :
 PE X (.Call (.Name n p) [.Call (.Name Z p') [a] [] U] [] q1) ('t' (.YC .Ey (.cons a' .nil))):=by
 intro T s c H Q I hh;symm
 let(g,ρ,M,d,y,S,R,e,q):=hh;rw[MW.Qa]at e;let(ds,M1,k,e):=gw e;let(x,xs,ns,rfl,m,b,l,rfl,rfl):=ON e;left;show jx (Fe I i hm hv ?_ hn Wf);show za (Q:=EP X T c Q) ?_ j Kv;rw[j];change 'A' (spliced ((false,eval (.Call (.Name Z p') [a] [] U) X.env)::backTo q1 (starEach [] X.env))) _ _ s;show m7 ?_;show jx (Fe I E L V ?_ O C);show jq (Kd (ha U T s c H (λB G=>∃Y v,B=[v]/\Xo X.K Y G x v/\Le g H Y G/\ql nm X.K Y G y) I {5,g,ρ,M,[x],y,S,R,k,λY G B le J r=>?_}) λus s1 z=>?_) F N
 .let(v,ev,rv):=Nq r rfl
  show{2,Y,v,ev,rv,le,J}
 symm
 let(B,G,I1,r1,Y,v,rfl,o,D,J):=z;let(u,rfl,ru):=Y4 r1;left;show OO t I1 J o ru m b l λh' tk n' keep hS Rj=>?_
 change 'A' (spliced []) _ _ _;show ur ?_;show OP t I1 J hS (bz _) keep (c_ Rj l) λP f v le=>q P f v (D>>le)
open MW (Ex Ha ag Qz Ea nq Lv Tg WR fc MO Kh Cp bJ bD Bm Kx)
section
variable{nm:Nm}{X:Cx}
protected def vZ(O:Xo K G H x v)(N:Xo K G H y u)(T:WX v Y)(B:WX u Z)(e:MW.gD x y\k):plainIs Y Z=true/\(Y==Z)=k:=by
 cases N<;>try(cases e;done)
 .cases B
  cases O<;>first|(cases e;done)|(cases T;cases e;show(rfl,rfl))
 .cases B
  cases O<;>try(cases e;done)
  rename_i b c;cases T;cases e;cases b<;>cases c<;>show(rfl,rfl)
def OR:Gx X (compareOp .Is) (aE nm X.K .is):=λY s L H v u E N Q I G J C=>by let(P,M,x,y,b,S,B,T,e,q):=C;let e:MW.gD x y\b:=e;let(p,O):=vZ B T G J e;show wpAny_is_plain p (Yx I q O.symm)
def OS:Gx X (compareOp .IsNot) (aE nm X.K .Wi):=λY s E H v u P L Q I J B N=>by let(R,M,x,y,b,S,O,G,e,q):=N;let e:(MW.gD x y).map not\b:=e;let(c,T,rfl):=dg<*e;let(p,C):=vZ O G J B T;show wpAny_isNot_plain p (Yx I q (by rw[C]))
end
def OT(e:MW.Yd Z\is)(r:um K ι H Z U):U=is%V.int:=by
 induction Z generalizing is U with
 |nil=>cases e;cases r;rfl
 |cons d Z Y =>
  cases r with
  |cons T r =>
   cases T<;>try(cases e;done)
   let(is,G,rfl):=dg<*(show(MW.Yd Z%(_::·))\is from e);rw[Y G r];rfl
def OU(e:MW.iO d\c)(r:Xo K Z H d v):∃a,∃g:Nat->Int,v=↥a/\H a\(.WL (('r' c%g)%V.int)):=by
 cases r with
 |@WL a ds vs h rl =>
  let(is,T,rfl):=dg<*(show(MW.Yd ds%(-·))\c from e);show{2,a,λj=>is.getD j 0,rfl,?_};rw[h,OT T rl]
  congr 3
  apply uf;intro j
  by_cases Y:j< -is
  .simp[Y]
  .simp[Y]
 |_=>cases e
def OV(e:MW.Wk Z\ls)(r:um K ι H Z U):∃g:Nat->Nat->Int,-U=-ls/\∀(k c:Nat),ls[k]?\c->∃b,U[k]?\↥b/\H b\(.WL (('r' c%(g k))%V.int)):=by
 induction Z generalizing ls U with
 |nil=>cases e;cases r;show{1,λ_ _=>0,rfl,'b'}
 |cons d Z G =>
  cases r with
  |cons O r =>
   erw[MW.Wk]at e;cases e1:MW.iO d with
   |none=>rw[e1]at e;cases e
   |some c =>
    cases e2:MW.Wk Z with
    |none=>rw[e1,e2]at e;cases e
    |some L =>
     rw[e1,e2]at e;cases e;symm
     let(g,N,B):=G e2 r;let(b,T,rfl,C):=OU e1 O;left;show⟨λk=>match k with|0=>T|k+1=>g k,by simp[N],λk J Y=>?_⟩;cases k with
     |zero=>cases Y;show{1,b,rfl,C}|succ k=>show B k J Y
def jX(H:Hp)(T:Y2)(v:V)(g:Nat->Nat->Int):Prop:=∃a Y,v=↥a/\H a\(.WL Y)/\-Y=-T/\∀(k c:Nat),T[k]?\c->∃b,Y[k]?\↥b/\H b\(.WL (('r' c%(g k))%V.int))
def OW(e:MW.eB d\ls)(r:Xo K Z H d v):∃g,jX H ls v g:=by
 cases r with
 |@WL a ds vs h rl =>
  let(g,Y,T):=OV (show MW.Wk ds\ls from e) rl;show(g,a,vs,rfl,h,Y,T)
 |_=>cases e
def OX{X:Cx}{r:X9}{us:Zl}(h:WT (r%V.int) us):ItemsAre (intKind X.prog X.w) r us:=by
 induction r generalizing us with
 |nil=>cases h;show .nil
 |cons i r T =>
  cases h with
  |cons Y t =>
   let(G,rfl):=Y;show .cons (by simp[intKind,Value.isInt]) (T t)
theorem jX.at{X:Cx}(h:jX H ls v g)(I:'i')(M:ls≠[])(r:WX v u):Sr.dY X.prog X.w s.1 u:=by
 symm
 let(a,U,rfl,L,W,Q):=h;cases r;let(T,J,(o,V,D,n,R),_):=I.tuple (Oe.of L);let B:-T=-ls:=J.length.symm>>W;left;show{4,a,o,_,n,rfl,V,D,R,by rw[gn,B];show List.length_pos_iff.mpr M,λx Z=>?_};let(k,G):=xm<*(show x∈T from Z);let kl:k< -ls:=by rw[<-B];show(ak<*G).1
 symm
 let(b,O,C):=Q k _ (bh kl);let(x',Y,F):=J.get O;rw[G]at Y;cases Y;cases F;let(js,K,(E,N,A,S,P),_):=I.tuple (Oe.of C);left;show{2,b,_,rfl,(E,_,S,N,A,P,OX K)}
def OY(e:MW.gF Z M=.ok d M'):∃U,d=↥(-M)/\M'=M++[.Ui Z]/\(∀x∈Z,MW.eB x\U/\U≠[])/\-Z<6000000:=by
 cases Z with
 |nil=>cases e;show{1,[],rfl,rfl,'b',by decide}
 |cons x Z =>
  erw[MW.gF]at e;cases e1:MW.eB x with
  |none=>rw[e1]at e;cases e
  |some U =>
   rw[e1]at e;let((G,Y,T),e):=jT e;cases e;show{1,U,rfl,rfl,λx J=>(Y x J,G),T}
def OZ{f:Nat->Dv}{g:Nat->V}{l:Y2}(h:∀i∈l,Xo K Z H (f i) (g i)):um K Z H (l%f) (l%g):=by
 induction l with
 |nil=>show .nil|cons i l T=>show .cons (h i 'b') (T λi Y=>h i (bw _ Y))
def O_{f:Nat->V}{us:Zl}(h:∀(i:Nat) u,us[i]?\u->WX (f i) u):WT ('r' (-us)%f) us:=by
 induction us generalizing f with
 |nil=>show .nil
 |cons u us T =>
  rw[ik,List.range_succ_eq_map,gm,q9];show .cons (h 0 u rfl) (T λi u Y=>h (i+1) u Y)
def Od(hr:Dd 8 X.A):Ff X (.builtin "sorted") (rB nm X.K .sorted):=λqv s σ H vs us Q I Xz hh=>by
 symm
 let(ι,M,ds,d,M',S,r,e,q):=hh;let(x,rfl,Z):=gk e;left;cases hx:MW.gr M x with
 |none=>rw[hx]at Z;cases Z
 |some C =>
  rw[hx]at Z;symm
  let(ls,rfl,rfl,hm,hl):=OY Z;let(v,rfl,rv):=Nq r rfl;let(u,rfl,ru):=Y4 Xz;let(p,ws,rfl,hp,rl):=wz S rv hx;cases ru;let(J,W,pl,_):=I.list (Kp.of hp);let l1:-J=-C:=by rw[<--W,<--rl]
  let P:∀u∈J,∃v g x,WX v u/\jX H ls v g/\ls≠[]/\x∈C/\Xo X.K ι H x v:=λu G=>by
   let(i,T):=xm<*G;let Zb:i< -C:=by rw[<-l1];show(ak<*T).1
   symm
   let(v,N,O):=rl.get (bh Zb);let(u',B,h4):=W.get N;rw[T]at B;cases B;let(h5,h6):=hm _ (j9 Zb);let(g,h7):=OW h5 O;left;show{3,v,g,_,h4,h7,h6,j9 Zb,O}
  let G:X.A.in1.in1.units<cLine:=Nat.lt_of_succ_lt (Zu hr.in1.in1)
  left;show Calls.call_function_entry PyProof.Rows.kind_sorted PyProof.Rows.plain_sorted PyProof.Rows.entry_sorted (PyProof.Rows.args_sorted1 _) ?_;unfold Builtin.«sorted»;show aa (m:=checkCount "sorted" 1 1 _) (aj ?_);let z:-J<=sizeLine:=by rw[l1];show gh (Aj hl) ⋯
  show aa (PyProof.Rows.collect_list pl.isList ?_ ('s' z));generalize hh':(s.1.push (PyProof.Rows.seqObj "list" #[] 0)).update s⁻¹ (Obj.mapSeq (·++J.toArray))=h';let R:s⁻¹<=h'.objs.size:=by rw[<-hh',Heap.size_update,PyProof.Rows.size_push'];show xf _
  let U:∀b o,s.1^b\o->h'^b\o:=λb o q=>by
   let Ib:b<s⁻¹:=cj q
   rw[<-hh',Heap.get?_update_ne _ _ _ _ (gq Ib),Heap.get?_push_ne _ _ _ (gq Ib)];show q
  clear hh';show aa (wpAny_newList ?_ ('s' z));let L:(h'.push ('l' J.toArray))^h'.objs.size=some ('l' J.toArray):=cu _ rfl;let D:∀b o,h'^b\o->h'.push ('l' J.toArray)^b\o:=λb o e=>aq _ e
  show aa (je (iz PyProof.Rows.slot_list_sort {1,_,L,rfl} PyProof.Rows.entry_list_sort (Sr.zG (n:=0) G L z (λu G=>?_) λqq c Y qk hD F hs=>{1,_,rfl,aj {1,_,rfl,?_}}) (PyProof.Rows.args_list_sort _)))
  .let(v,g,_,N,O,B,_):=P u G
   show(O.at I B N).keep λb o _ e=>D b o (U b o e)
  .let ex:∀i:Nat,∃z:V×Dv,∀u,Y[i]?\u->WX z.1 u/\z.2∈C/\Xo X.K ι H z.2 z.1:=λi=>by
    cases T:Y[i]? with
    |none=>show((.XQ,.XQ),λu h=>by cases h)
    |some u =>
     let(v,g,x,N,_,_,O,B):=P u (hs u (az T));show{1,(v,x),λu' h=>by cases h;show(N,O,B)}
   let(f,hf):=Classical.axiomOfChoice ex;let E:=I.Dk.fresh R;let(S2,Cj):=S.new (p:=h'.objs.size) (H':=XD H h'.objs.size (.WK ('r' (-Y)%λi=>(f i).1))) (o:=.Ui C) E (λa u e=>by rw[qp (ug e E)];show e) λle=>('r' (-Y)%λi=>(f i).2,_,by rw[dh,Ag,F,l1],λd hd=>by
    let(i,T,rfl):=bu<*hd;show(hf i _ (bh (jg<*T))).2.1,z8,OZ λi T=>(hf i _ (bh (jg<*T))).2.2.mono le)
   show(↥h'.objs.size,_,I.laid (t':=s.toks) (λb o e=>qk b o (gq (cj (U b o e))) (D b o (U b o e))) R (show Dy X.prog X.w _ qq _ (.WK _)from(by rw[dh,Ag,F];show z,Y,c,O_ λi u G=>(hf i u G).1,hD)),rfl,q _ _ _ Cj S2 ↥?_);change(ι.l++[h'.objs.size])[M.length]?=_;rw[<-S.len];simp
def tup_is(I:'i')(r:WX ↥p v)(h:H p\(.WL U)):s.TypeIs v "tuple"/\∀a,v=↥a->∃Z,s.1^a\Z/\Z.dict=():=by cases r;let(_,_,_,o,Y,T,_,_,G):=(show Dy X.prog X.w H s.1 p (.WL U)from I.Dk p _ h);show((o,Y,T),λa e=>by cases e;show(o,Y,G))
theorem Of{id:String}(hT:∀x M,MW.Oo m x M=true->∃ds,x=.WL ds)(pa:PlainAttrs "tuple")(B:Slot "tuple" name id)(N:typeOf (.builtin id)=pure (.type "method_descriptor"))(hm:dM X id (rM nm X.K m))(ho:PE X o ('t' o'))(ha:PA X (e::Z) (aA nm W X.K qq))(A:attributeBase o name X.env (eval o X.env)=eval o X.env)(qv:((backTo U (starEach (e::Z) X.env)).all (λx=>!x.1)&&(backToKw U (keywordEach [] X.env)).all (λx=>x.1.isSome)
&&decide (-(e::Z)+-([]:List Keyword)+(if([]:List Keyword).isEmpty then 0 else 1)<30))=true)(qk:(apos.endLine==U.line)=true)(hs:starEach (e::Z) X.env=(false,eval e X.env)::starEach Z X.env)(P:(backTo U (starEach Z X.env)).any (·.1)=false) :
 PE X (.Call (.Attribute o name apos) (e::Z) [] U) ('t' (.bm m o' qq)):=by
 intro Y s O H Q I hh;let(ι,ρ,M,d,M',S,R,T,q):=hh;rw[MW.qQ]at T;let(x,M1,e1,T):=gw T;split at T
 .rename_i ht
  let(ds,M2,e2,T):=gw T;let(ts,rfl):=hT _ _ ht;show wpAny_Call_method_late A qv qk rfl (Kd (ho Y s O H (λv J=>(∃p G,v=↥p/\J p\(.WL G))/\aA nm W X.K qq O J λG C=>rM nm X.K m v G C Q) I (one S R e1 λL J v le S1 R1 r=>?_)) λv s1 (xv,J,I1,r1,(p,G,ev,hp),q1)=>?_)
  .refine(?_,L,ρ,M1,ds,M2,S1,R1,e2,λD C G Cj S2 rs=>{6,D,M2,.WL ts,ds,d,M',S2,r.mono Cj,rs,T,λV H' w F S' r'=>q V H' w ((le>>Cj)>>F) S' r'})
   cases r with
   |WL E h2=>show{2,_,_,rfl,E}
  .subst ev
   let(E,h2):=tup_is I1 r1 hp;show{2,"tuple",id,pa,B,N,E,h2,?_};let hA:=ha U Y s1 O J _ I1 q1;rw[hs]at hA⊢;show Calls.callWith_builtin (by change(false||(backTo U (starEach Z X.env)).any (·.1))=false;rw[P]<;>rfl) (Calls.evalArgs_plain ?_);show Kd hA λus s2 (G,C,I2,r2,q2)=>hm Y s2 O C _ G v us Q I2 r1 r2 q2
 .cases T
end Sm
namespace L2
open PySem PySem.Spec PyProof.Rows HT
def Oy{Y:List V}{G:Zl}(h:WT Y G):WT Y.reverse G.reverse:=by
 induction Y generalizing G with
 |nil=>cases h;show .nil
 |cons x Y T=>cases h with
  |cons a t =>
   rw[List.reverse_cons,List.reverse_cons];let ZP:∀{a b:List V}{c d:Zl},WT a c->WT b d->WT (a++b) (c++d):=fun{a b c d} h k=>by
    induction a generalizing c with
    |nil=>cases h;show k|cons x a T=>cases h with|cons p t=>show .cons p (T t)
   show ZP (T t) (.cons a .nil)
def O0{X:Cx}{e st:Expr}{C:TE}{B pos:Pos}(E:PE X e C)(L:PE X st (tC ⇑(-1))):PE X (.Subscript e (.Slice () () ↑st B) pos) (λU H Q=>C U H λv Z=>∃a xs,v=↥a/\Kp X.K Z a xs/\∀p,Z p=()->Q ↥p (XD Z p (.WK xs.reverse))):=by
 intro Y s U H Q I h;show Subscript_ (Kd (E Y s U H _ I h) λv S z_=>?_);let(F,Z,I1,R,a,xs,rfl,P,q):=z_;cases R;show wpAny_Slice ?_;rw[evalPart_none];show aj (aj ?_);let V:=tL L Y S U Z (λo J=>o\(-1)/\J=Z) I1 {1,-1,rfl,(rfl,rfl)};show Kd V λu T z=>?_
 let(o,J,I2,pt,rfl,rfl):=z;let G:WM X Y U J (T<&>T.1.push { cls:=.type "slice",data:=.fields #[.none,.none,u] }):=I2.YM (t':=T.toks) λb N q=>aq _ q
 let(M,r,tp,O):=G.list P;change 'q' (subscriptTail e (.Slice () () ↑st B) ↥a (.ref T⁻¹)) (EP X Y U Q) X.xe (T<&>T.1.push { cls:=.type "slice",data:=.fields #[.none,.none,u] });show tail_any (ops:=[↥a,.ref T⁻¹]) tp.isList.typeIs slot_list_getitem.lookup (wpAny_getItem_list_slice tp.isList (Heap.IsSliceOf.new ..) .none .none pt ⋯ ?_ (by rw[gn,<--r];show O)) (by with_unfolding_all rfl);rw[PySem.W.krv_pick];show(↥_,_,G.laid (t':=T.toks) (o:=.WK xs.reverse) (λb N q=>aq _ q) (bz _) ?_,rfl,q _ (G.Dk.fresh (bz _)));show(by rw[List.length_reverse];show O,_,0,Oy r,cu _ rfl)
end L2
namespace Sm
open PySem L2
open MW (Ex Ha ag Qz Ea nq Lv Tg WR fc MO Kh Cp bJ bD Bm Kx XN)
def um.rev{K:Fg}{G:Io}{H:Hp}{Y:List Dv}{T:List V}(h:um K G H Y T):um K G H Y.reverse T.reverse:=by
 induction Y generalizing T with
 |nil=>cases h;show .nil
 |cons d Y J=>cases h with
  |cons a t =>
   rw[List.reverse_cons,List.reverse_cons];show(J t).append (.cons a .nil)
def PB{X:Cx}(U:PE X a ('t' a'))(L:PE X st (tC ⇑(-1))):PE X (.Subscript a (.Slice () () ↑st p2) pos) ('t' (.YC .rev (.cons a' .nil))):=
 PE.of (O0 U L) fun σ H Q ι ρ M d C S R e q=>by
  rw[MW.Qa]at e;let(ds,B,Y,e):=gw e;rw[MW.Ij]at Y;let(x,M2,E,Y):=gw Y;rw[MW.Rv]at Y;cases Y;let(V,rfl):=zb (show WR.wg (MW.gr B x%λJ=>MW.D.vl J.reverse) B=.ok d C from e);let(J,Z,rfl):=dg<*V;show one S R E λT H1 v le O R1 r=>?_
  let(p,P,rfl,N,I):=wz O r Z;show{2,p,P,rfl,Kp.of N,λp' G=>?_};let(F,A,r2):=gW (X:=X) O G I.rev;show q T _ _ (le>>A) F r2
theorem ql.ZF(S:ql nm K Z H M)(k:Nat):ql nm K Z H (MW.ZF k M):=by
 show(by rw[S.len];simp[MW.ZF];lia,S.nd,S._p,λn o a h Y=>?_);unfold MW.ZF at h;rcases qi n (-M.take k) with y|y
 .rw[gf y]at h
  rw[Cz]at h;split at h
  .exact S.XR n o a h Y
  .cases h
 .rw[jf y,Bq]at h
  split at h
  .cases h
   let T:n< -M:=by rw[<-S.len];show(ak<*Y).1
   let(u,e,m):=(S.XR n M[n] a (by simp[T]) Y).some;show(u,e,by rw[<-e];show m)
  .cases h
def yr.forget{K:Fg}{J Y:Io}{H B:Hp}{G:En}{σ:St}(h:yr K J H G σ):yr K Y B (G%λ_=>()) σ:=by
 induction h with
 |nil=>show .nil|bI t T=>show .bI T|has h t T=>show .bI T
def PF(h:MW.fA f i x ρ k M=.ok (fl,qq) M'):∃n ds d,x=↥n/\M[n]?\(.Ui ds)/\fl=.ret d/\qq=(ρ%λ_=>())/\∀U:List Dv,-U=-ds->(∀d∈U,d∈ds)->∃Z M3,f (ρ.set i ↑x) (M.set n (.WK U))=.ok (.ret d,Z) M3/\M'=MW.ZF k M3:=by
 unfold MW.fA at h;split at h
 .split at h
  .split at h
   .split at h
    .rename_i c
     cases h;show{3,_,_,_,rfl,‹_›,rfl,rfl,λU J T=>?_};let(Z,M3,G,Y):=c U J T;show{2,Z,M3,G,Y.symm}
    .cases h
   .cases h
  .cases h
 .cases h
def PH{T:List Stmt}(he:PE X a ('t' U))(hg:PG X tg (bF nm X.K (.name i)))(A:swapsWithSole [tg] a pos.line X.env=pure false)(hw:swappedStores [tg] a X.env=pure ())(h1:(assignEach [tg] X.env)%(·.2)=[assign tg X.env])(h2:Uv X T (bW nm W X.K Z)) :
 Uv X (.Assign [tg] a pos::T) (bW nm W X.K (.cons (.all i U Z) .nil)):=
 Uv.of (sM (mK he hg A hw h1) h2) λD σ H ι B M fl L M' S R e q=>by
  rw[MW.B4]at e;let e:MW.eF W .nil (U.WD W B M*>λx O=>MW.fA (Z.WD W) i x B (-M) O)=.ok (fl,L) M':=e;unfold MW.eF at e;let(p,M2,e0,e):=gw e;let(x,O,F,e2):=gw e0;let(qq,qk):=p;let(n,ds,d,rfl,V,rfl,rfl,c):=PF e2;cases e;show one S R F λJ H1 v le G R1 r=>{5,J,B,O,↥n,B.set i ↑↥n,G,R1,r,rfl,λI R' _ _=>?_}
  let(b,hb,Q,vs,hl,hm,hH,rl):=G.addr V;let(N,M3,e3,rfl):=c Q hl hm;show(J,_,O.set n (.WK Q),.ret d,N,M3,(by rw[uh];show G.len,G.nd,G._p,λm o a Y P=>?_),R',e3,λE H' qv Cj S2 R2 v2 C=>q E H' σ (le>>Cj) (S2.ZF _) R.forget v2 C)
  by_cases z:m=n
  .subst z
   rw[MW.m6 V]at Y;cases Y;rw[hb]at P;cases P;show(vs,hH,rl)
  .rw[MW.jw (j4 z)]at Y
   show G.XR m o a Y P
def PJ(C:Gl X "enumerate")(L:X.mg "enumerate"= ())(hg:Gl X "zip")(hm:X.mg "zip"= ())(ha:PA X (a::Z) (aA nm W X.K U))(hs:starEach (a::Z) X.env=(false,eval a X.env)::starEach Z X.env)(Kv:(backTo pz (starEach Z X.env)).any (·.1)=false)(he:starEach [.Call (.Name "zip" p2) (a::Z) [] pz] X.env=[(false,eval (.Call (.Name "zip" p2) (a::Z) [] pz) X.env)]) :
 PI X (.Tuple ts k0 pt) (.Call (.Name "enumerate" pr) [.Call (.Name "zip" p2) (a::Z) [] pz] [] pos) (tI nm W X.K (.eu U)):=by
 intro T s0 D H A I hh;let(ι,ρ,M,s,M',S,R,e,q):=hh;let e:(U.WD W ρ M)*>(λds M1=>MW.Yh ds M1*>MW.iP)=.ok s M':=e;let(ds,N1,e1,e):=gw e;let(s',N2,e2,e):=gw e;let(rfl,O,n,h1,h2,F,rfl):=vV e2;let e:WR.ok (XN.Ys (MW.Fp (MW.Fl O n) 0)) N2=WR.ok s M':=e;cases e;show PI.YL (Nn (ts:=ts) (k0:=k0) (pt:=pt) (p:=pr) (p2:=p2) (pos:=pos) C L hg hm ha hs Kv he) (jP:=λG H0 R0=>G=D/\H0=H/\R0=A) (λG H0 R0 z=>?_) T s0 D H A I (rfl,rfl,rfl);let(rfl,rfl,rfl):=z;show cC S R e1 λJ Q vs le S1 R1 rr=>?_
 let(as,rfl,z):=bK.of rr h1;show{2,bt Q,as,rfl,by rw[<-z.len];show h2,z.sq,q J Q _ le S1 λqq H2 M2 V S2=>(λi d B Y=>?_,λ_=>?_)}
 .let Y:(MW.Fp (MW.Fl O n) 0)[i]?\d:=Y
  let B:i<n:=by simpa[MW.Fl,MW.Fp]using(ak<*Y).1
  let Y:d=.WL [⇑i,.WL (O%λl=>l.getD i .XQ)]:=by simp[MW.Fp,MW.Fl,B]at Y;show Y.symm
  subst Y;let(vs,l1,P,l3):=z.item (λl h=>by rw[F l h];show B) V;show({1,vs,l1,P},λu' H3 y=>?_);let(t,t',ws,rfl,e5,e6,e7,rfl,e8,e9):=y;let:ws=vs:=by
   apply uf;intro j
   by_cases h:j< -as
   .let(xs,x,k1,k2,k3):=P j as[j] (bh h)
    rw[e9 j as[j] xs (bh h) k1,k2,k3]
   .rw[jk 'a',jk 'a']
  subst this;let(S3,E,r3):=Ks (X:=X) S2 e5 l3;let(S4,N,r4):=Ks (X:=X) S3 (p:=t) (by rw[qp e7];show e6) (.cons ⇑(i:Nat) (.cons r3 .nil));show(E>>N,S4,r4)
 .cases z with
  |nil=>simp at h2
  | cons r st t=>show(_,_,rfl,st _ _ V,by
   change _<=-(MW.Fp (MW.Fl _ n) 0)
   rw[<--r,F _ dw];simp[MW.Fl,MW.Fp])
end Sm
namespace Ck
open PySem L2 Sm
open MW (Ex Ha ag Qz Ea nq Lv Tg WR fc MO Kh Cp bJ bD Bm Kx XN)
structure _Z where
 _C:List (Option (Str×Nat))
 cls:List (Option (Str×Nat))
 cR:List (Str×Nat)
 Vy:List Str
 jY:List (Str×Int)
def Ub:List Str:=["len","tuple","list","dict","max","min","isinstance","range","enumerate","set","zip","all","bool","int","sum","sorted"]
structure nJ(T:_Z)(nm:Nm)(W:Kh)(k:Nat)(P:Program)(w:World)(K:Fg)(mg:Zs)(base:Heap):Prop where
 fn:∀f x n,T._C[f]?\↑(x,n)->∃fa fd ps,J8 P w K mg base ai k fa fd ps (bX nm W K n f)/\mg x\↥fa/\PySem.W.keepIn K ↥fa=true/\YT K fd ps []
 cl:∀c x n,T.cls[c]?\↑(x,n)->∃C fa fd ps cl,Mk K C fa/\J8 P w K mg base ai k fa fd ps (bX nm W K (n+1) cl.init)/\mg x\↥C/\YT K fd ps []/\W.cls[c]?\cl/\nm.cls c\C
 mt:∀m x n,T.cR[m]?\(x,n)->∃C fa fd ps f,bE K C/\Meth K C x fa/\J8 P w K mg base ai k fa fd ps (bX nm W K (n+1) f)/\YT K fd ps [] /\
  (∀c' vb,W.cls[c']?\vb->∀g,(vb._a/m)\g->nm.cls c'\C/\g=f)/\∀i,nm.ZL i≠x
 fl:∀f x,T.Vy[f]?\x->x=nm.ZL f/\∀c C,nm.cls c\C->bE K C/\Og K C x
 cs:∀x i,(x,i)∈T.jY->∃t,mg x\(.int i t)
 bt:∀x∈Ub,mg x=()
structure ZZ where
 N:List Str
 sc:List (Str×NameKind)
 fn:Bool
 _W:List Str
structure Hv(T:_Z)(nm:Nm)(W:Kh)(k:Nat)(c:ZZ)(X:Cx):Prop where
 N:X.N=c.N
 nd:c.N.Nodup
 sc:X.env.scope.names=c.sc
 kd:X.env.scope.kind=.function
 YB:X.YB=true
 ZJ:Dd (k+16) X.A
 nK:c.fn=true->(∀n,X.fn n=true)/\PassesOwn (model X.prog X.w) X.A X.env X.xe
 YF:nJ T nm W k X.prog X.w X.K X.mg X.base
 ow:∀n,c._W.contains n=true->X.fn n=true
def Qt{Y U:String}(K:Fg)(h:(if(Value.type Y==Value.type U)=true then ↑true else if PySem.W.kitMeta U=true then(fastBuiltinMro Y)%(·.contains (.type U))else ())\b):PySem.W.kitOne K (.type Y) (.type U)\b:=h
def Xh(Y:PySem.W.kitOne K (.type Ty) 'U'\a)(T:PySem.W.kitOne K (.type Ty) (.type "list")\b):PySem.W.kitAny K (.type Ty) ['U',.type "list"]\(a||b):=by cases a<;>cases b<;>simp[PySem.W.kitAny,Y,T]
def gu(n:Str):Bool:=!(n==("__debug__": Str))&&(!(n==("__classdict__": Str))&&!(n==("__name__": Str)))
def fU(c:ZZ)(n:Str):Bool:=match c.sc/n with|some .local=>true|some .cell=>true|some .free=>true|_=>false
def nL(c:ZZ)(n:Str):Bool:=match c.sc/n with|some .local=>true|some .cell=>c.fn||c._W.contains n|_=>false
def Vl(c:ZZ)(n:Str):Bool:=gu n&&(match c.sc/n with|some .globalImplicit=>true|_=>false)
def jZ(c:ZZ)(i:Nat)(n:Str):Bool:=match c.N[i]? with|some m=>m==n|none=>false
def Dz:List Expr->Bool
 |[]=>true|e::r=>X_ e&&Dz r
def gx:Expr->Bool
 |.Name ..=>true|.Attribute ..=>true|.Subscript ..=>true|.Call (.Attribute ..) ..=>true|_=>false
def wk(h:gu n=true):(n==("__debug__": Str))=false/\(n==("__classdict__": Str))=false/\n≠"__name__":= by erw[gu,bf,Bool.not_eq_true']at h;show(h.1,h.2.1,λz=>by let:=h.2.2;rw[z]at this;simp at this)
protected def PK(h:Hv T nm W k c X)(B:fU c n=true):dI X.env.scope n:=by unfold dI;rw[h.sc];unfold fU at B;split at B<;>rename_i e<;>first|show .inl e|show .inr (.inl e)|show .inr (.inr e)|cases B
def PL(h:Hv T nm W k c X)(Y:nL c n=true):L2.Loc X.env.scope n/\(X.fn n=true\/(X.env.scope.names/n)\.local):=by
 unfold L2.Loc;rw[h.sc];unfold nL at Y;split at Y
 .rename_i e;show(.inl e,.inr e)
 .rename_i e;rcases(Bool.or_eq_true _ _)<*Y with z|z
  .exact(.inr e,.inl ((h.nK z).1 n))
  .exact(.inr e,.inl (h.ow n z))
 .cases Y
def G8(h:Hv T nm W k c X)(Y:Vl c n=true):Gl X n/\gu n=true:=by
 unfold Vl at Y;rw[bf]at Y;show(?_,Y.1);let Y:=Y.2;unfold Gl Env.kindOf;rw[h.sc];split at Y
 .rename_i e;show e
 .cases Y
protected def slot_of(h:Hv T nm W k c X)(B:jZ c i n=true):X.N[i]?\n:=by
 rw[h.N];unfold jZ at B;split at B
 .rename_i m e;rw[e,eq_of_beq B]
 .cases B
theorem nM{Y:Env}:∀{T:Y3},Dz T=true->starEach T Y=T%λe=>(false,eval e Y)
 |[],_=>rfl
 |e::r,h=>by
  erw[Dz,bf]at h;rw[o6 h.1,nM h.2];rfl
def yg(h:Dz Z=true):(backTo pos (starEach Z env)).any (·.1)=false:=by rw[nM h];simp[backTo]
def PM(h:Dz Z=true):(backTo pos (starEach Z env)).all (λx=>!x.1)=true:=by rw[nM h];simp[backTo]
protected def Jl(h:gx o=true):attributeBase o n env (eval o env)=eval o env:=by
 cases o<;>try first|rfl|(cases h;done)
 rename_i f as T p;cases f<;>first|rfl|(cases h)
def PQ(h:gx o=true)(T:(apos.endLine==pos.line)=true) :
 eval (.Call (.Attribute o m apos) [] [] pos) env=(do
  let Z<-eval o env
  standAt apos.atName
  let (f,first) <-holding [Z] (getMethod Z m (do return (<-importBound o env).getD true))
  callWith pos f first (backTo pos (starEach [] env)) (backToKw pos (keywordEach [] env))):=by
 let G:methodCallForm 0 (backTo pos (starEach [] env)) (backToKw pos (keywordEach [] env))=true:=rfl;change(do
  let Z<-attributeBase o m env (eval o env)
  standAt apos.atName
  methodCall o m apos pos env Z 0 (backTo pos (starEach [] env)) (backToKw pos (keywordEach [] env)))=_
 rw[Jl h];unfold methodCall;rw[G];let Y:methodCallPos true o env apos pos=pure pos:=by unfold methodCallPos;rw[T];rfl
 rw[Y];erw[calleeOf,my,pure_bind]
def Fj{Y:Type}(o:Option Y)(f:Y->Bool):Bool:=match o with|some x=>f x|none=>false
def j5(h:Fj o f=true):∃x,o\x/\f x=true:=by
 cases o with
 |none=>cases h|some x=>show(x,rfl,h)
def Uc{α:Type}(l:List α):Option α:=match l with|[x]=>↑x|_=>()
def Ed(h:Uc l\x):l=[x]:=by
 cases l with
 |nil=>cases h
 |cons y r=>cases r with
  |nil=>cases h;rfl|cons _ _=>cases h
def aN{Y:Type}{P:Y->Prop}{o:Option {x//P x}}{q:Y}(h:(o%Subtype.val)\q):P q:=by
 cases o with
 |none=>cases h|some x=>cases h;show x.2
def Rg(a:Expr):Option Str:=Option.map Subtype.val (α:={q:Str//∃p,a=.Name q p}) (match a with|.Name n p=>↑(n,p,rfl)|_=>())
def gy(a:Expr):Option Const:=Option.map Subtype.val (α:={q:Const//∃k p,a=.Constant q k p}) (match a with|.Constant n k p=>↑(n,k,p,rfl)|_=>())
def vc(a:Expr):Option (Expr×Operator×Expr):=Option.map Subtype.val (α:={q:Expr×Operator×Expr//∃p,a=.BinOp q.1 q.2.1 q.2.2 p}) (match a with|.BinOp l o r p=>↑((l,o,r),p,rfl)|_=>())
def kB(a:Expr):Option (UnaryOp×Expr):=Option.map Subtype.val (α:={q:UnaryOp×Expr//∃p,a=.UnaryOp q.1 q.2 p}) (match a with|.UnaryOp o l p=>↑((o,l),p,rfl)|_=>())
def kC(a:Expr):Option (Expr×List CmpOp×List Expr):=Option.map Subtype.val (α:={q:Expr×List CmpOp×List Expr//∃p,a=.Compare q.1 q.2.1 q.2.2 p}) (match a with|.Compare l o r p=>↑((l,o,r),p,rfl)|_=>())
def ve(a:Expr):Option (BoolOp×List Expr×Pos):=Option.map Subtype.val (α:={q:BoolOp×List Expr×Pos//a=.BoolOp q.1 q.2.1 q.2.2}) (match a with|.BoolOp o l p=>↑((o,l,p),rfl)|_=>())
def nO(a:Expr):Option (Expr×Expr×Expr):=Option.map Subtype.val (α:={q:Expr×Expr×Expr//∃p,a=.IfExp q.1 q.2.1 q.2.2 p}) (match a with|.IfExp t l r p=>↑((t,l,r),p,rfl)|_=>())
def cq(a:Expr):Option (List Expr):=Option.map Subtype.val (α:={q:List Expr//∃k p,a=.Tuple q k p}) (match a with|.Tuple l k p=>↑(l,k,p,rfl)|_=>())
def nP(a:Expr):Option (List Expr):=Option.map Subtype.val (α:={q:List Expr//∃p,a=.List q p}) (match a with|.List l p=>↑(l,p,rfl)|_=>())
def nQ(a:Expr):Option (List (Option Expr)×List Expr):=Option.map Subtype.val (α:={q:List (Option Expr)×List Expr//∃p,a=.Dict q.1 q.2 p}) (match a with|.Dict k v p=>↑((k,v),p,rfl)|_=>())
def fV(a:Expr):Option (Expr×Expr):=Option.map Subtype.val (α:={q:Expr×Expr//∃p,a=.Subscript q.1 q.2 p}) (match a with|.Subscript l r p=>↑((l,r),p,rfl)|_=>())
def nR(a:Expr):Option (Option Expr×Option Expr×Option Expr):=Option.map Subtype.val (α:={q:Option Expr×Option Expr×Option Expr//∃p,a=.Slice q.1 q.2.1 q.2.2 p}) (match a with|.Slice l r s p=>↑((l,r,s),p,rfl)|_=>())
def nS(a:Expr):Option (Expr×List Expr×List Keyword×Pos):=Option.map Subtype.val (α:={q:Expr×List Expr×List Keyword×Pos//a=.Call q.1 q.2.1 q.2.2.1 q.2.2.2}) (match a with|.Call f l k p=>↑((f,l,k,p),rfl)|_=>())
def hE(a:Expr):Option (Expr×Str×Pos):=Option.map Subtype.val (α:={q:Expr×Str×Pos//a=.Attribute q.1 q.2.1 q.2.2}) (match a with|.Attribute l n p=>↑((l,n,p),rfl)|_=>())
def hJ(a:Expr):Option (Expr×List Comprehension×Scope):=Option.map Subtype.val (α:={q:Expr×List Comprehension×Scope//∃p,a=.ListComp q.1 q.2.1 q.2.2 p}) (match a with|.ListComp e g s p=>↑((e,g,s),p,rfl)|_=>())
def Hw(h:Rg a\n):∃p,a=.Name n p:=(aN h :)
def kD(h:gy a\n):∃k p,a=.Constant n k p:=(aN h :)
def PR(h:vc a\(l,o,r)):∃p,a=.BinOp l o r p:=(aN h :)
def nT(h:kB a\(o,l)):∃p,a=.UnaryOp o l p:=(aN h :)
def nU(h:kC a\(l,o,r)):∃p,a=.Compare l o r p:=(aN h :)
def PU(h:ve a\(o,r,p)):a=.BoolOp o r p:=(aN h :)
def PV(h:nO a\(t,l,r)):∃p,a=.IfExp t l r p:=(aN h :)
def Nt(h:cq a\l):∃k p,a=.Tuple l k p:=(aN h :)
def vi(h:nP a\l):∃p,a=.List l p:=(aN h :)
def vj(h:nQ a\(k,l)):∃p,a=.Dict k l p:=(aN h :)
def kE(h:fV a\(l,r)):∃p,a=.Subscript l r p:=(aN h :)
def vk(h:nR a\(l,r,s)):∃p,a=.Slice l r s p:=(aN h :)
def vn(h:nS a\(f,l,k,p)):a=.Call f l k p:=(aN h :)
def nV(h:hE a\(l,n,p)):a=.Attribute l n p:=(aN h :)
def Xi(h:hJ a\(e,g,s)):∃p,a=.ListComp e g s p:=(aN h :)
def bA(a:Expr):Option (Str×List Expr):=nS a*>λq=>if q.2.2.1.isEmpty then(Rg q.1)%λn=>(n,q.2.1)else ()
def Hx(h:bA a\(n,l)):∃p p',a=.Call (.Name n p) l [] p':=by
 let((f,O,k,p),J,T):=ir<*h;split at T
 .rename_i Y
  let(C,G,B):=dg<*T;let(p',e):=Hw G;let e:f=_:=e;let Y:k=[]:=u5<*Y;cases B;show{2,p',p,by rw[vn J,e,Y]}
 .cases T
def nW(a:Expr):Option (Expr×Str×Pos×List Expr×Pos):=nS a*>λq=>if q.2.2.1.isEmpty then(hE q.1)%λn=>(n.1,n.2.1,n.2.2,q.2.1,q.2.2.2)else ()
def vr(h:nW a\(o,n,ap,l,p)):a=.Call (.Attribute o n ap) l [] p:=by
 let((f,N,k,L),B,T):=ir<*h;split at T
 .rename_i Y
  let((C,E,G),J,O):=dg<*T;let e:f=_:=nV J;let Y:k=[]:=u5<*Y;cases O;rw[vn B,e,Y]
 .cases T
def vt(l:Y3):List Str:=l.filterMap Rg
def Hy(e:Expr):List Str:=match cq e with|some l=>vt l|none=>vt [e]
def hid(i:Nat):Str:=⟨#[0,i]⟩
def fW(Y:Ya)(p:Str×Nat):Str:=if Y.contains p.1=true then hid p.2 else p.1
def bY(N Y:Ya):List Str:=N.zipIdx%(fW Y)++Y
def kF(c:ZZ)(Y:Yf):List (Str×NameKind):=Y%λy=>if(y.2==NameKind.free&&c.sc/y.1==↑.cell)then(y.1,NameKind.cell)else(y.1,y.2)
def dQ(c:ZZ)(Y:Scope)(T:Ya):ZZ:=(bY c.N T,kF c Y.names,false,(Y.names.filter λy=>y.2==NameKind.cell)%(·.1))
def nX(c:ZZ)(Y:Scope)(T:Ya):Bool:=
 decide (Y.kind=.function)&&(Y.names.all (λy=>Y.names/y.1==↑y.2) &&
 (Y.names.all (λy=>!(y.2==NameKind.free)||(c.sc/y.1==↑.cell||c.sc/y.1==↑.free))&&(decide ((bY c.N T).Nodup) &&
 c.N.zipIdx.all (λp=>!(fU (dQ c Y T) (fW T p))||(fW T p==p.1&&Y.names/(fW T p)==↑.free)))))
def vw:bJ->Operator
 |.XS=>.Add|.sub=>.Sub|.mul=>.Mult|.fdiv=>.FloorDiv|._l=>.Mod|.pow=>.Pow
def kG:Cp->Option CmpOp
 |.eq=>↑.Eq|.ne=>↑.NotEq|.lt=>↑.Lt|.le=>↑.LtE|.gt=>↑.Gt|.ge=>↑.GtE|.inn=>↑.In|.Uz=>↑.NotIn|.is=>↑.Is|.Wi=>↑.IsNot
def nY:bD->Option Str
 |.len=>some "len"|.tuple=>some "tuple"|.list=>some "list"|.dict=>some "dict"|.max=>some "max"|.min=>some "min"
 |.all=>some "all"|.sorted=>some "sorted"
 |_=>()
def bmN:Bm->Option Str
 |.append=>some "append"|.extend=>some "extend"|.index=>some "index"|.get=>some "get"|.Py=>some "index"
def nZ(T:_Z)(c:ZZ)(d:MW.D)(a:Expr):Bool:=
 match d with
 |⇑i=>Fj (gy a) (λk=>decide (k=⇑i))||Fj (Rg a) λn=>Vl c n&&T.jY.contains (n,i)
 |.bl i=>Fj (gy a) λk=>decide (k=.bool i)
 |.XQ=>Fj (gy a) λk=>decide (k=.none)
 |_=>false
def nc(c:ZZ)(Y i:Nat)(e:Expr):Bool:=Fj (Rg e) λn=>jZ c i n&&(nL c n&&decide (Y<=i))
def fX(c:ZZ)(Y:Nat):List Nat->List Expr->Bool
 |[],[]=>true|i::is,e::ts=>nc c Y i e&&fX c Y is ts|_,_=>false
def eV(c:ZZ)(Y:Nat)(t:Tg)(e:Expr):Bool:=
 match t with
 |.name i=>nc c Y i e|.names is=>Fj (cq e) λT=>fX c Y is T
def Xj(e:Expr):Bool:=(nO e).isNone
def vx(l:List (Option (Str×Nat)))(f:Nat)(n:Str)(k:Nat):Bool:=decide (l[f]?\↑(n,k))
def PX(l:List (Str×Nat))(f:Nat)(n:Str)(k:Nat):Bool:=decide (l[f]?\(n,k))
def wA(l:Ya)(f:Nat)(n:Str):Bool:=decide (l[f]?\n)
def kH(c:ZZ)(k:Nat)(t:Tg)(g:Comprehension)(Y:Scope):Bool:=
 nX c Y (Hy g.target)&&((k==-Hy g.target)&&(eV (dQ c Y (Hy g.target)) (-c.N) t g.target&&(Ka g.iter&&decide (g.is_async=0))))
def ng(o:BoolOp)(a:Expr)(x y:Expr->Bool):Bool:=
 Fj (ve a) λq=>decide (q.1=o)&&(match q.2.1 with
  |l::r::rest=>(Xj l&&x l)&&(match rest with|[]=>Xj r&&y r|_::_=>y (.BoolOp o (r::rest) q.2.2))
  | _=>false)
def hQ(c:ZZ)(T:Str)(a:Expr)(f:Expr->Bool):Bool:=Fj (bA a) λq=>match q.2 with
 |[l,t]=>Fj (Rg t) λY=>(decide (q.1 ="isinstance")&&decide (Y=T))&&((Vl c q.1&&Vl c Y)&&(X_ l&&f l))
 |_=>false
def nh(c:ZZ)(a:Expr)(f:Expr->Bool):Bool:=Fj (bA a) λq=>match q.2 with
 |[l,t]=>Fj (cq t) λG=>match G with
  |[u,v]=>Fj (Rg u) λY=>Fj (Rg v) λT=>(decide (q.1 ="isinstance")&&(decide (Y ="tuple")&&decide (T ="list")))&&((Vl c q.1&&(Vl c Y&&Vl c T))&&(X_ l&&f l))
  |_=>false
 |_=>false
def PY(h:hQ c ty a f=true):∃l p U Z,a=.Call (.Name "isinstance" p) [l,.Name ty U] [] Z/\Vl c "isinstance"= true/\Vl c ty=true/\X_ l=true/\f l=true:=by
 let((n,G),L,T):=j5 h;clear h;let(p,J,rfl):=Hx L;rcases G with _|⟨l,_|⟨t,_|⟨_,_⟩⟩⟩<;>try cases T
 let(Y,O,h):=j5 (f:=λY=>(decide (n ="isinstance")&&decide (Y=ty))&&((Vl c n&&Vl c Y)&&(X_ l&&f l))) T;let(Z,rfl):=Hw O;erw[bf,f9]at h;let((rfl,rfl),(N,E),C,B):=h;show{4,l,p,Z,J,rfl,N,E,C,B}
def PZ(h:nh c a f=true):∃l p p1 p2 Z k U,a=.Call (.Name "isinstance" p) [l,.Tuple [.Name "tuple" p1,.Name "list" p2] k Z] [] U/\Vl c "isinstance"= true/\Vl c "tuple"= true/\Vl c "list"= true/\X_ l=true/\f l=true:=by
 let((n,E),G,Y):=j5 h;clear h;let(p,O,rfl):=Hx G;rcases E with _|⟨l,_|⟨t,_|⟨_,_⟩⟩⟩<;>try cases Y
 let(Q,R,h):=j5 (o:=cq t) Y;let(k,Z,rfl):=Nt R;rcases Q with _|⟨u,_|⟨v,_|⟨_,_⟩⟩⟩<;>try cases h
 let(W,C,h):=j5 (o:=Rg u) h;let(V,B,h):=j5 (o:=Rg v) h;let(L,rfl):=Hw C;let(H,rfl):=Hw B;erw[bf,f9]at h;let((rfl,rfl,rfl),(N,S,T),J,P):=h;show(l,p,L,H,Z,k,O,rfl,N,S,T,J,P)
def hU(c:ZZ)(Y T:Str)(a:Expr)(f:Expr->Bool):Bool:=Fj (bA a) λq=>Fj (Uc q.2) λr=>Fj (bA r) λu=>Fj (Uc u.2) λl=>((decide (q.1=Y)&&decide (u.1=T))&&(Vl c q.1&&Vl c u.1))&&(X_ l&&f l)
def nr(h:hU c ty U a f=true):∃l p p1 Z p3,a=.Call (.Name ty p) [.Call (.Name U p1) [l] [] Z] [] p3/\Vl c ty=true/\Vl c U=true/\X_ l=true/\f l=true:=by replace h:=j5 h;let((n,P),L,h):=h;let(p,G,rfl):=Hx L;replace h:=j5 h;let(r,O,h):=h;cases Ed O;replace h:=j5 h;let((m,R),N,h):=h;let(Z,C,rfl):=Hx N;replace h:=j5 h;let(l,E,h):=h;cases Ed E;erw[bf,f9]at h;let(((rfl,rfl),Y,J),B,T):=h;show{5,l,p,Z,C,G,rfl,Y,J,B,T}
def nt(a:Expr)(f:Expr->Bool):Bool:=Fj (fV a) λq=>Fj (nR q.2) λs=>(s.1.isNone&&s.2.1.isNone)&&Fj s.2.2 λst=>Fj (kB st) λu=>(decide (u.1=.USub)&&Fj (gy u.2) λk=>decide (k=⇑1))&&f q.1
def P_(h:nt a f=true):∃l p p1 Z U j,a=.Subscript l (.Slice () () ↑(.UnaryOp .USub (.Constant ⇑1 j p)  p1) Z) U/\f l=true:=by replace h:=j5 h;let((l,r),O,h):=h;let(U,rfl):=kE O;replace h:=j5 h;let((u,v,st),J,h):=h;let(Z,e):=vk J;let e:r=_:=e;subst e;replace h:=Bool.and_eq_true_iff.mp h;let(Y,h):=h;erw[bf,Option.isNone_iff_eq_none]at Y;let(rfl,rfl):=Y;replace h:=j5 h;let(st,rfl,h):=h;replace h:=j5 h;let((o,c),C,h):=h;let(p1,e):=nT C;let e:st=_:=e;subst e;erw[bf,f9]at h;let((rfl,B),h):=h;let(k,T,G):=j5 B;let(j,p,rfl):=kD T;rw[j8 G];show(l,p,p1,Z,U,j,rfl,h)
def wB(c:ZZ)(Y a:Expr)(f:List Expr->Bool):Bool:=Fj (bA a) λq=>Fj (Uc q.2) λl=>Fj (bA l) λu=>(((cq Y).isSome&&!u.2.isEmpty)&&(decide (q.1 ="enumerate")&&decide (u.1 ="zip")))&&((Vl c q.1&&Vl c u.1)&&f u.2)
def Pc(h:wB c tg a f=true):∃ts k0 pt l Z p p1 U p3,tg=.Tuple ts k0 pt/\a=.Call (.Name "enumerate" p) [.Call (.Name "zip" p1) (l::Z) [] U] [] p3/\Vl c "enumerate"= true/\Vl c "zip"= true/\f (l::Z)=true:=by
 replace h:=j5 h;let((n,Z),E,h):=h;let(p,G,rfl):=Hx E;replace h:=j5 h;let(r,O,h):=h;cases Ed O;replace h:=j5 h;let((m,T),L,h):=h;let(U,C,rfl):=Hx L;replace h:=Bool.and_eq_true_iff.mp h;let(Y,h):=h;erw[bf,f9]at Y h;let((N,J),rfl,rfl):=Y;let(ts,B):=qz<*N;let(k0,pt,rfl):=Nt B;cases T with
 |nil=>cases J|cons x Z=>show(ts,k0,pt,x,Z,p,U,C,G,rfl,rfl,h.1.1,h.1.2,h.2)
mutual
def Bw(T:_Z):Ex->ZZ->Expr->Bool
 |.ZD i,c,a=>Fj (Rg a) λn=>jZ c i n&&(fU c n&&gu n)
 |.ZX d,c,a=>nZ T c d a|.YG op x y,c,a=>Fj (vc a) λq=>decide (q.2.1=vw op)&&(Bw T x c q.1&&Bw T y c q.2.2)
 |.neg x,c,a=>Fj (kB a) λq=>decide (q.1=.USub)&&Bw T x c q.2
 |.XX op x y,c,a=>Fj (kC a) λq=>Fj (Uc q.2.1) λo=>Fj (Uc q.2.2) λr=>decide (kG op\o)&&(Ka r&&(Bw T x c q.1&&Bw T y c r))
 |.ZG o1 o2 x y z,c,a=>Fj (kC a) λq=>match q.2.1,q.2.2 with
  |[p1,p2],[r,s]=>(decide (kG o1\p1)&&decide (kG o2\p2))&&(Ka s&&(Bw T x c q.1&&(Bw T y c r&&Bw T z c s)))|_,_=>false
 |.and x y,c,a=>ng .And a (Bw T x c) (Bw T y c)|.or x y,c,a=>ng .Or a (Bw T x c) (Bw T y c)|.not x,c,a=>Fj (kB a) λq=>decide (q.1=.Not)&&(Xj q.2&&Bw T x c q.2)
 |.ite t x y,c,a=>Fj (nO a) λq=>Xj q.1&&(Bw T t c q.1&&(Bw T x c q.2.1&&Bw T y c q.2.2))
 |.WL es,c,a=>Fj (cq a) λl=>decide (Ha.len es<=1000)&&Pq T es c l
 |.WK es,c,a=>Fj (nP a) λl=>decide (Ha.len es<=1000)&&Pq T es c l
 |.Gk es,c,a=>Fj (nP a) λl=>decide (Ha.len es<=1000)&&Pq T es c l
 |.dn,_,a=>Fj (nQ a) λq=>q.1.isEmpty&&q.2.isEmpty
 |.dE,_,a=>Fj (nQ a) λq=>q.1.isEmpty&&q.2.isEmpty
 |.ix x y,c,a=>Fj (fV a) λq=>mr q.2&&(Bw T x c q.1&&Bw T y c q.2)
 |.cut x lo hi,c,a=>Fj (fV a) λq=>Fj (nR q.2) λs=>s.2.2.isNone&&(Bw T x c q.1&&(nu T lo c s.1&&nu T hi c s.2.1))
 |.call f es,c,a=>Fj (bA a) λq=>(vx T._C f q.1 (Ha.len es)&&(Vl c q.1&&!q.2.isEmpty))&&Pq T es c q.2
 |._Q f es,c,a=>Fj (bA a) λq=>(vx T.cls f q.1 (Ha.len es)&&(Vl c q.1&&!q.2.isEmpty))&&Pq T es c q.2
 |.meth o m,c,a=>Fj (nW a) λq=>((PX T.cR m q.2.1 0&&gx q.1)&&((q.2.2.1.endLine==q.2.2.2.2.line)&&q.2.2.2.1.isEmpty))&&Bw T o c q.1
 |.ZL o f,c,a=>Fj (hE a) λq=>(wA T.Vy f q.2.1&&gx q.1)&&Bw T o c q.1
 |.YC .Ey (.cons x .nil),c,a=>hU c "sorted" "set" a (Bw T x c)|.YC ._s (.cons x .nil),c,a=>hQ c "tuple" a (Bw T x c)|.YC .isList (.cons x .nil),c,a=>hQ c "list" a (Bw T x c)|.YC ._A (.cons x .nil),c,a=>hQ c "bool" a (Bw T x c)|.YC ._S (.cons x .nil),c,a=>nh c a (Bw T x c)|.YC .rev (.cons x .nil),c,a=>nt a (Bw T x c)|.YC b es,c,a=>Fj (bA a) λq=>(decide (nY b\q.1)&&(Vl c q.1&&!q.2.isEmpty))&&Pq T es c q.2
 |.bm m o es,c,a=>Fj (nW a) λq=>((decide (bmN m\q.2.1)&&gx q.1)&&(decide (-q.2.2.2.1<29)&&((q.2.2.1.endLine==q.2.2.2.2.line)&&!q.2.2.2.1.isEmpty)))&&(Bw T o c q.1&&Pq T es c q.2.2.2.1)
 |.WN v k t it e,c,a=>Fj (hJ a) λq=>Fj (Uc q.2.1) λg=>(kH c k t g q.2.2&&g.ifs.isEmpty)&&(kI T it c g.target g.iter&&Bw T e (dQ c q.2.2 (Hy g.target)) q.1)
 |.Eo v k t it i e,c,a=>Fj (hJ a) λq=>Fj (Uc q.2.1) λg=>Fj (Uc g.ifs) λd=>(kH c k t g q.2.2&&Xj d)&&(kI T it c g.target g.iter&&(Bw T i (dQ c q.2.2 (Hy g.target)) d&&Bw T e (dQ c q.2.2 (Hy g.target)) q.1))
 |.dt x y,c,a=>Fj (kC a) λq=>Fj (Uc q.2.1) λo=>Fj (Uc q.2.2) λr=>Fj (bA q.1) λu=>Fj (bA r) λv=>Fj (Uc u.2) λl=>Fj (Uc v.2) λm =>
  ((decide (o=.NotEq)&&decide (u.1 ="set"))&&(decide (v.1 ="set")&&Vl c u.1))&&((X_ l&&X_ m)&&(Bw T x c l&&Bw T y c m))
 |.dy x,c,a=>hU c "tuple" "range" a (Bw T x c)|.eA x,c,a=>hU c "list" "range" a (Bw T x c)
def Pq(T:_Z):Ha->ZZ->List Expr->Bool
 |.nil,_,a=>a.isEmpty|.cons e es,c,a=>match a with|l::ls=>X_ l&&(Bw T e c l&&Pq T es c ls)|_=>false
def nu(T:_Z):ag->ZZ->Option Expr->Bool
 |.none,_,a=>a.isNone|.some e,c,a=>Fj a (Bw T e c)
def kI(T:_Z):Qz->ZZ->Expr->Expr->Bool
 |.val e,c,_,a=>Bw T e c a|.aK e,c,_,a=>Fj (bA a) λq=>Fj (Uc q.2) λl=>(decide (q.1 ="range")&&Vl c q.1)&&(X_ l&&Bw T e c l)
 |.cU e,c,tg,a=>Fj (bA a) λq=>Fj (Uc q.2) λl=>((cq tg).isSome&&(decide (q.1 ="enumerate")&&Vl c q.1))&&(X_ l&&Bw T e c l)
 |.zip es,c,tg,a=>Fj (bA a) λq=>((cq tg).isSome&&(decide (q.1 ="zip")&&(Vl c q.1&&!q.2.isEmpty)))&&Pq T es c q.2
 |.eu es,c,tg,a=>wB c tg a (Pq T es c)
end
def Vm(h:Hv T nm W k c X)(Y:Scope):(relabel Y X.env).names=kF c Y.names:=by
 unfold relabel kF;show qg λy _=>?_
 let(n,kd):=y;change(if(kd==NameKind.free&&X.env.scope.kind==.function&&X.env.kindOf n==↑.cell)=true then _ else _)=_;let e:(kd==NameKind.free&&X.env.scope.kind==.function&&X.env.kindOf n==↑.cell)=(kd==NameKind.free&&c.sc/n==↑.cell):=by unfold Env.kindOf;rw[h.kd,h.sc];simp
 rw[e]
def Pd(h:Hv T nm W k c X)(L:nX c sc Z=true):Ie X (bY c.N Z) sc/\∀C U s H,Hv T nm W k (dQ c sc Z) (Rq X (bY c.N Z) sc C U s H):=by
 erw[nX,bf,f9,jr]at L;let(E,M,A,K,Q):=L;let Y:∀x kd,(x,kd)∈sc.names->(sc.names/x)\kd:=λx kd m=>by let:=M (x,kd) m;simpa using this
 show((E,λy m e=>by rw[Y y.1 y.2 m,e],λy m e=>?_,Y,?_,λi x O G J=>?_),λC U s H=>(rfl,K,Vm h sc,E,h.YB,h.ZJ,(λz=>by cases z),h.YF,λn m=>?_))
 .let:=A y m
  rw[e]at this;unfold Env.kindOf;rw[h.sc];simpa using this
 .rw[h.N];simp[bY]
 .rw[h.N]at O
  let F:i< -(c.N.zipIdx%(fW Z)):='s' O
  unfold bY at G;rw[gf F,ie,Bf]at G;obtain⟨n,B⟩:∃n,c.N[i]?\n:=(c.N[i],by simp[O]);rw[B]at G;let G:fW Z (n,i)=x:='s' G
  let m:(n,i)∈c.N.zipIdx:=by rw[xm];show{1,i,by rw[Bf,B];simp}
  let q:=Q (n,i) m;rw[G]at q;let v:fU (dQ c sc Z) x=true:=by unfold dI at J;rw[Vm h]at J;unfold fU;change(match(kF c sc.names)/x with|some .local=>true|some .cell=>true|some .free=>true|_=>false)=true;rcases J with e|e|e<;>rw[e]
  rw[v]at q;erw[uv,Bool.false_or,bf]at q;rw[h.N,B];let P:x=n:=eq_of_beq q.1;show(by rw[P],by let:=q.2;simpa using this)
 .let(y,R,rfl):=bu<*(List.contains_iff_mem.mp m)
  let(V,S):=jn<*R;change(sc.names/y.1==↑.cell)=true;rw[Y y.1 y.2 V,eq_of_beq S];rfl
def Pe(h:o=vw op):Gx X (binaryOp o) (cP nm X.K (MW.G6 op)):=by
 subst h;cases op with
 |XS=>show KG|sub=>show JY|mul=>show KD|fdiv=>show Jn|_l=>show J_|pow=>show KA
def nv(Y:Dd 8 X.A)(h:kG op\o):Gx X (compareOp o) (aE nm X.K op):=by
 let T:Dd 6 X.A:=Y.mono ⋯;cases op with
 |eq=>cases h;show MC T|ne=>cases h;show MD T|lt=>cases h;show KP|le=>cases h;show KQ|gt=>cases h;show KR|ge=>cases h;show KS|inn=>cases h;show MG Y|Uz=>cases h;show MH Y|is=>cases h;show OR|Wi=>cases h;show OS
def ny(h:Hv T nm W k c X)(B:nc c lo i e=true):∃n p,e=.Name n p/\X.N[i]?\n/\L2.Loc X.env.scope n/\(X.fn n=true\/(X.env.scope.names/n)\.local)/\lo<=i:=by let(n,O,Y):=j5 B;let(p,rfl):=Hw O;erw[bf,f9]at Y;let(J,G):=PL h Y.2.1;show{2,n,p,rfl,slot_of h Y.1,J,G,Y.2.2}
theorem wC{T:_Z}{O:Nm}{W:Kh}{k:Nat}{c:ZZ}{X:Cx}(h:Hv T O W k c X){G:Nat}:∀{is:Y2}{Y:Y3},fX c G is Y=true->Qs X Y is/\∀i∈is,G<=i
 |[],[],_=>(.nil,'b')|[],_::_,e=>by cases e|_::_,[],e=>by cases e
 |i::is,a::Y,e=>by
  unfold fX at e;rw[bf]at e;let(n,p,rfl,J,C,P,L):=ny h e.1;let(B,E):=wC h e.2;show(.cons J C P B,λj N=>?_);rcases dj<*N with z|z
  .rw[z];show L
  .exact E j z
def fY(h:Hv T nm W k c X)(Y:eV c lo t e=true):PG X e (bF nm X.K t)/\∀i∈Ez t,lo<=i:=by
 let nd:X.N.Nodup:=by rw[h.N];show h.nd
 cases t with
 |name i =>
  let(n,p,rfl,G,O,P,L):=ny h Y;show(LA nd G O P,λi B=>by rw[ig<*B];show L)
 |names is =>
  let(S,R,C):=j5 Y;let(Q,p,rfl):=Nt R;let(J,E):=wC h C;show(LC h.YB nd J,E)
structure Got(nm:Nm)(W:Kh)(X:Cx)(a:Expr)(e:Ex):Prop where
 v:PE X a ('t' e)
 q:Xj a=true->PT X a (tQ nm W X.K e)
 w:∀op ls p,a=.BoolOp op ls p->PW X a (tQ nm W X.K e)
def wD:Expr->Bool
 |.BoolOp ..=>false|.UnaryOp .Not _ _=>false|.IfExp ..=>false|.Compare ..=>false|_=>true
protected def Aa(h:PE X a ('t' e))(T:wD a=true):Got nm W X a e:=by
 show(h,λL=>KI h λB=>?_,λO N p z=>by subst z;cases T);cases a<;>first|rfl|(cases T)|skip
 rename_i O x p;cases O<;>first|rfl|cases T
def Pf(h:Hv T nm W k c X)(G:nZ T c d a=true):PE X a ('t' (.ZX d))/\wD a=true:=by
 cases d with
 |int i =>
  erw[nZ,Bool.or_eq_true]at G;rcases G with G|G
  .let(k,J,Y):=j5 G
   let(j,p,rfl):=kD J;rw[j8 Y];show(JT,rfl)
  .let(n,J,Y):=j5 G
   let(p,rfl):=Hw J;rw[bf]at Y;let(B,C):=G8 h Y.1;let(t,O):=h.YF.cs _ _ (List.contains_iff_mem.mp Y.2);show(JW B O (wk C).1,rfl)
 |bl i =>
  let(k,J,Y):=j5 G;let(j,p,rfl):=kD J;rw[j8 Y];show(JU,rfl)
 |XQ =>
  let(k,J,Y):=j5 G;let(j,p,rfl):=kD J;rw[j8 Y];show(JV,rfl)
 |_=>cases G
section
variable{T:_Z}{nm:Nm}{W:Kh}{k:Nat}
def Hv.r8(h:Hv T nm W k c X):Dd 8 X.A:=h.ZJ.mono 'a'
theorem Hv.mg(h:Hv T nm W k c X)(m:n∈Ub):X.mg n=():=h.YF.bt n m
theorem Z3{c:ZZ}{J:Nat}:∀{is:Y2}{Y:Y3},fX c J is Y=true->∀i∈is,J<=i
 |[],_,_=>by simp|_::_,[],e=>by cases e
 |i::is,a::Y,e=>by
  unfold fX at e;rw[bf]at e;intro j B;rcases dj<*B with z|z
  .let(n,O,G):=j5 e.1
   erw[bf,f9]at G;rw[z];show G.2.2
  .exact Z3 e.2 j z
def Po(h:eV c lo t e=true):∀i∈Ez t,lo<=i:=by
 cases t with
 |name j =>
  let(n,G,Y):=j5 h;erw[bf,f9]at Y;intro i J;rw[ig<*J];show Y.2.2
 |names is =>
  let(B,G,Y):=j5 h;show Z3 Y
def Pp:-(bY N Z)- -N=-Z:=by simp[bY]
def Xk(Y:Hv T nm W k c X)(h:kH c j t g sc=true) :
 Ka g.iter=true/\g.is_async=0/\Ie X (bY c.N (Hy g.target)) sc/\(∀C Z s H,Hv T nm W k (dQ c sc (Hy g.target)) (Rq X (bY c.N (Hy g.target)) sc C Z s H)) /\
 (∀C Z s H,PG (Rq X (bY c.N (Hy g.target)) sc C Z s H) g.target (bF nm X.K t))/\-(bY c.N (Hy g.target))- -X.N=j/\∀i∈Ez t,-X.N<=i:=by
 erw[kH,bf,f9]at h;let(E,R,J,P,L):=h;let(B,G):=Pd Y E;show(P,L,B,G,λC Z s H=>(fY (G C Z s H) J).1,by rw[Y.N,Pp];show(eq_of_beq R).symm,λi O=>by rw[Y.N];show Po J i O)
def wF(h:ng o a x y=true):(∃l r p,a=.BoolOp o [l,r] p/\Xj l=true/\x l=true/\Xj r=true/\y r=true) \/
 ∃l r s Z p,a=.BoolOp o (l::r::s::Z) p/\Xj l=true/\x l=true/\y (.BoolOp o (r::s::Z) p)=true:=by
 let((J,G,p),O,Y):=j5 h;cases PU O;rw[bf]at Y;let(B,Y):=Y;cases j8 B;cases G with
 |nil=>cases Y
 |cons l G=>cases G with
  |nil=>cases Y
  |cons r Z =>
   cases Z with
   |nil =>
    let Y:((Xj l&&x l)&&(Xj r&&y r))=true:=Y;erw[bf]at Y;show .inl {3,l,r,p,rfl,Y.1.1,Y.1.2,Y.2.1,Y.2.2}
   |cons s Z =>
    let Y:((Xj l&&x l)&&y (.BoolOp J (r::s::Z) p))=true:=Y;erw[bf]at Y;show .inr {5,l,r,s,Z,p,rfl,Y.1.1,Y.1.2,Y.2}
def Pt(N:Hv T nm W k c X)(Y:nY b\n)(E:Vl c n=true)(G:PA X (l::ls) (aA nm W X.K Z))(L:Dz (l::ls)=true):PE X (.Call (.Name n p) (l::ls) [] U) ('t' (.YC b Z)):=by
 let(J,P):=G8 N E;let(C,R,O):=wk P;erw[Dz,bf]at L;let st:=o6 L.1 ls X.env;let B:=yg (env:=X.env) (pos:=U) L.2;let mg:n∈Ub->X.mg n=():=N.mg;cases b with
 |len=>cases Y;show gi (id :="len") MA J (mg ∅) ∅ G O C st B|max=>cases Y;show gi (id :="max") (Mn N.YB) J (mg ∅) ∅ G O C st B|all=>cases Y;show gi (id :="all") (OE N.YB) J (mg ∅) ∅ G O C st B|sorted=>cases Y;show gi (id :="sorted") (Od N.r8) J (mg ∅) ∅ G O C st B|min=>cases Y;show gi (id :="min") (ND N.YB) J (mg ∅) ∅ G O C st B|tuple=>cases Y;show mw (T :="tuple") L8 J (mg ∅) ∅ G O C st B|list=>cases Y;show mw (T :="list") L9 J (mg ∅) ∅ G O C st B|dict=>cases Y;show mw (T :="dict") Mb J (mg ∅) ∅ G O C st B|_=>cases Y
def hW{Y:Type}{l:List Y}(h:(!l.isEmpty)=true):∃x r,l=x::r:=by
 cases l with
 |nil=>cases h|cons x r=>show(x,r,rfl)
set_option tactic.hygienic true in
mutual
theorem kj:∀(e:Ex){c:ZZ}{X:Cx}{a:Expr},Hv T nm W k c X->Bw T e c a=true->Got nm W X a e
 |.ZD i,c,X,a,hc,h=>by
  replace h:=j5 h;let(n,Y,h):=h;let(p,rfl):=Hw Y;erw[bf]at h;show Aa (JS (slot_of hc h.1) (PK hc h.2.1) (wk h.2.2).1 (wk h.2.2).2.1) rfl
 |.ZX d,c,X,a,hc,h=>by
  let(Y,J):=Pf hc h;show Aa Y J
 |.YG op x y,c,X,a,hc,h=>by
  replace h:=j5 h;let((l,o,r),Y,h):=h;let(p,rfl):=PR Y;erw[bf,f9]at h;show Aa (JX (Pe h.1) (kj x hc h.2.1).v (kj y hc h.2.2).v) rfl
 |.neg x,c,X,a,hc,h=>by
  replace h:=j5 h;let((o,l),Y,h):=h;let(p,rfl):=nT Y;erw[bf,f9]at h;let(rfl,h):=h;show Aa (Ki (kj x hc h).v) rfl
 |.XX op x y,c,X,a,hc,h=>by
  replace h:=j5 h;let((l,o,r),Y,h):=h;let(p,rfl):=nU Y;replace h:=j5 h;let(o1,J,h):=h;replace h:=j5 h;let(r1,N,h):=h;cases Ed J;cases Ed N;erw[bf,f9]at h;let g:=nv (nm:=nm) hc.r8 h.1;let m:=Zy h.2.1 o1;show(KJ g (kj x hc h.2.2.1).v (kj y hc h.2.2.2).v m,λ_=>KL g (kj x hc h.2.2.1).v (kj y hc h.2.2.2).v m,λ_ _ _ z=>by cases z)
 |.ZG o1 o2 x y z,c,X,a,hc,h=>by
  replace h:=j5 h;let((l,o,r),Y,h):=h;let(p,rfl):=nU Y;dsimp only at h;split at h
  .rename_i p1 I r s
   erw[bf,f9]at h;let O:=nv (nm:=nm) hc.r8 h.1.1;let G:=nv (nm:=nm) hc.r8 h.1.2;let m:lastMarks [p1,I] [r,s]=false:=Zy h.2.1 I;show(KN O G (kj x hc h.2.2.1).v (kj y hc h.2.2.2.1).v (kj z hc h.2.2.2.2).v m,λ_=>KO O G (kj x hc h.2.2.1).v (kj y hc h.2.2.2.1).v (kj z hc h.2.2.2.2).v m,λ_ _ _ z=>by cases z)
  .cases h
 |.and x y,c,X,a,hc,h=>by
  rcases wF h with⟨l,r,p,rfl,Y,J,N,L⟩|⟨l,r,s,qq,p,rfl,Y,J,N⟩
  .let O:=kj x hc J
   let G:=kj y hc L;let w:=uI (pos:=p) (rest:=[]) (O.q Y) (D4 (G.q N));show(uG O.v (vU G.v),λ_=>w.pt,λ_ _ _ _=>w)
  .let O:=kj x hc J
   let G:=kj y hc N;let w:=uI (O.q Y) (G.w _ _ _ rfl);show(uG O.v G.v,λ_=>w.pt,λ_ _ _ _=>w)
 |.or x y,c,X,a,hc,h=>by
  rcases wF h with⟨l,r,p,rfl,Y,J,N,L⟩|⟨l,r,s,qq,p,rfl,Y,J,N⟩
  .let O:=kj x hc J
   let G:=kj y hc L;let w:=uJ (pos:=p) (rest:=[]) (O.q Y) (D5 (G.q N));show(uH O.v (vU G.v),λ_=>w.pt,λ_ _ _ _=>w)
  .let O:=kj x hc J
   let G:=kj y hc N;let w:=uJ (O.q Y) (G.w _ _ _ rfl);show(uH O.v G.v,λ_=>w.pt,λ_ _ _ _=>w)
 |.not x,c,X,a,hc,h=>by
  replace h:=j5 h;let((o,l),Y,h):=h;let(p,rfl):=nT Y;erw[bf,f9]at h;let(rfl,h):=h;let g:=kj x hc h.2;show(KU g.v,λ_=>KW (g.q h.1),λ_ _ _ z=>by cases z)
 |.ite t x y,c,X,a,hc,h=>by
  replace h:=j5 h;let((t',l,r),Y,h):=h;let(p,rfl):=PV Y;erw[bf]at h;show(KY ((kj t hc h.2.1).q h.1) (kj x hc h.2.2.1).v (kj y hc h.2.2.2).v,(λz=>by cases z),λ_ _ _ z=>by cases z)
 |.WL es,c,X,a,hc,h=>by
  replace h:=j5 h;let(l,Y,h):=h;let(k0,p,rfl):=Nt Y;erw[bf,f9]at h;show Aa (KZ (G9 es hc h.2).1 h.1) rfl
 |.WK es,c,X,a,hc,h=>by
  replace h:=j5 h;let(l,Y,h):=h;let(p,rfl):=vi Y;erw[bf,f9]at h;show Aa (Kb (G9 es hc h.2).1 h.1) rfl
 |.Gk es,c,X,a,hc,h=>by
  replace h:=j5 h;let(l,Y,h):=h;let(p,rfl):=vi Y;erw[bf,f9]at h;show Aa (K_ (G9 es hc h.2).1 h.1) rfl
 |.dn,c,X,a,hc,h=>by
  replace h:=j5 h;let((q,l),Y,h):=h;let(p,rfl):=vj Y;erw[bf,u5]at h;let(rfl,rfl):=h;show Aa Ll rfl
 |.dE,c,X,a,hc,h=>by
  replace h:=j5 h;let((q,l),Y,h):=h;let(p,rfl):=vj Y;erw[bf,u5]at h;let(rfl,rfl):=h;show Aa Lm rfl
 |.ix x y,c,X,a,hc,h=>by
  replace h:=j5 h;let((l,r),Y,h):=h;let(p,rfl):=kE Y;erw[bf]at h;show Aa (Kt (Zu hc.ZJ) (kj x hc h.2.1).v (kj y hc h.2.2).v (K2 h.1)) rfl
 |.cut x lo hi,c,X,a,hc,h=>by
  replace h:=j5 h;let((l,r),Y,h):=h;let(p,rfl):=kE Y;replace h:=j5 h;let((u,v,st),J,h):=h;let(I,e):=vk J;let e:r=_:=e;subst e;erw[bf,Option.isNone_iff_eq_none]at h;let(rfl,h):=h;show Aa (NB (kj x hc h.1).v (wG lo hc h.2.1) (wG hi hc h.2.2)) rfl
 |.call f es,c,X,a,hc,h=>by
  replace h:=j5 h;let((n,ls),Y,h):=h;let(p,p',rfl):=Hx Y;erw[bf]at h;let((J,N,L),E):=h;let(l,ls,rfl):=hW L;let(fa,fd,ps,F,m,kp,b):=hc.YF.fn _ _ _ (j8 J);let(O,G):=G8 hc N;let(P,V):=G9 es hc E;erw[Dz,bf]at V;show Aa (s_call F (hc.ZJ.mono x_) O m kp b rfl P (wk G).1 (o6 V.1 _ _) (yg V.2)) rfl
 |._Q f es,c,X,a,hc,h=>by
  replace h:=j5 h;let((n,ls),Y,h):=h;let(p,p',rfl):=Hx Y;erw[bf]at h;let((J,N,L),E):=h;let(l,ls,rfl):=hW L;let(C,fa,fd,ps,cl,M0,F,m,b,d1,d2):=hc.YF.cl _ _ _ (j8 J);let(O,G):=G8 hc N;let(P,V):=G9 es hc E;erw[Dz,bf]at V;show Aa (La M0 F (hc.ZJ.mono (w_ ⋯)) O m b d1 rfl d2 rfl P (wk G).1 (o6 V.1 _ _) (yg V.2)) rfl
 |.meth o m,c,X,a,hc,h=>by
  replace h:=j5 h;let((lo,n,ap,ls,p),h0,h):=h;cases vr h0;erw[bf,u5]at h;let(((Y,J),L,rfl),E):=h;let(C,fa,fd,ps,f,C0,Me,F,b,u,nf):=hc.YF.mt _ _ _ (j8 Y);show Aa (N4 (ci:=0) (cl:=(0,[])) (kj o hc E).v C0 Me F (hc.ZJ.mono x_) b u nf (PQ J L)) rfl
 |.ZL o f,c,X,a,hc,h=>by
  replace h:=j5 h;let((l,n,p),Y,h):=h;cases nV Y;erw[bf]at h;let(t1,t2):=hc.YF.fl _ _ (j8 h.1.1);show Aa (K0 t1 t2 (kj o hc h.2).v (Jl h.1.2)) rfl
 |.YC b es,c,X,a,hc,h=>by
  let gen:(Fj (bA a) λq=>(decide (nY b\q.1)&&(Vl c q.1&&!q.2.isEmpty))&&Pq T es c q.2)=true->Got nm W X a (.YC b es):=λhh=>by clear h;replace hh:=j5 hh;let((n,ls),Y,h):=hh;let(p,p',rfl):=Hx Y;erw[bf]at h;let((J,N,L),E):=h;let(l,ls,rfl):=hW L;let(P,V):=G9 es hc E;show Aa (Pt hc (j8 J) N P V) rfl
  let qv:∀{bq:bD}{ty:Str}{T0:String}{x:Ex}{bt bv bi bb:Option Bool},(∀b,bb\b->PySem.W.kitOne X.K (.type "bool") (.type T0)\b)->(∀b,bt\b->PySem.W.kitOne X.K 'U' (.type T0)\b)->(∀b,bv\b->PySem.W.kitOne X.K (.type "list") (.type T0)\b)->(∀b,bi\b->PySem.W.kitOne X.K (.type "int") (.type T0)\b)->(∀d M,MW.qu bq [d] M=MW.ez bt bv bi bb M d)->X.mg ty=()->bootBuiltins ty\(.type T0)->(∀l,Bw T x c l=true->PE X l ('t' x))->hQ c ty a (Bw T x c)=true->Got nm W X a (.YC bq (.cons x .nil)):=λkb k1 kl k2 k3 hm hv q8 hi=>by let(l,p,p1,I,rfl,N,L,E,R):=PY hi;let(O,G):=G8 hc N;let(g3,D):=G8 hc L;show Aa (NC kb k1 kl k2 k3 O (hc.mg ∅) ∅ (wk G).2.2 (wk G).1 g3 hm hv (wk D).2.2 (wk D).1 (q8 l R) (o6 E _ _) (o6 rfl _ _) (yg rfl)) rfl
  cases b<;>try show gen h
  all_goals rcases es with _|⟨x,_|⟨_,_⟩⟩<;>try show gen h
  .exact qv (T0 :="list") (bt:=↑false) (bv:=↑true) (bi:=()) (bb:=()) (λ_ z=>by cases z) (λ_ z=>by cases z;show Qt _ ∅) (λ_ z=>by cases z;show Ua _ _) (λ_ z=>by cases z) (λ_ _=>rfl) (hc.mg ∅) ∅ (λl q=>(kj x hc q).v) h
  .exact qv (T0 :="tuple") (bt:=↑true) (bv:=↑false) (bi:=()) (bb:=()) (λ_ z=>by cases z) (λ_ z=>by cases z;show Ua _ _) (λ_ z=>by cases z;show Qt _ ∅) (λ_ z=>by cases z) (λ_ _=>rfl) (hc.mg ∅) ∅ (λl q=>(kj x hc q).v) h
  .exact qv (T0 :="bool") (bt:=()) (bv:=()) (bi:=↑false) (bb:=↑true) (λ_ z=>by cases z;show Ua _ _) (λ_ z=>by cases z) (λ_ z=>by cases z) (λ_ z=>by cases z;show Qt _ ∅) (λ_ _=>rfl) (hc.mg ∅) ∅ (λl q=>(kj x hc q).v) h
  .let(l,p,p1,I,p3,k0,p4,rfl,N,L,E,R,A):=PZ (show nh c a (Bw T x c)=true from h)
   let(O,G):=G8 hc N;show Aa (OF (Xh (Ua _ _) (b:=false) (Qt _ ∅)) (Xh (a:=false) (Qt _ ∅) (Ua _ _)) (Xh (a:=false) (b:=false) (Qt _ ∅) (Qt _ ∅)) (Xh (a:=false) (b:=false) (Qt _ ∅) (Qt _ ∅)) O (hc.mg ∅) ∅ (wk G).2.2 (wk G).1 (G8 hc L).1 (hc.mg ∅) (G8 hc E).1 (hc.mg ∅) (kj x hc A).v (o6 R _ _) (yg rfl)) rfl
  .let(l,p,p1,I,p3,rfl,E,R,A,U):=nr (show hU c "sorted" "set" a (Bw T x c)=true from h)
   let(O,G):=G8 hc E;let(g3,D):=G8 hc R;show Aa (OQ hc.r8 O (hc.mg ∅) ∅ (wk G).2.2 (wk G).1 g3 (hc.mg ∅) ∅ (wk D).2.2 (wk D).1
    (T7 (kj x hc U).v Zx (o6 A _ _)) (o6 rfl _ _) (yg rfl) (o6 A _ _) (yg rfl)) rfl
  .let(l,p,p1,I,p3,j0,rfl,U):=P_ (show nt a (Bw T x c)=true from h)
   show Aa (PB (kj x hc U).v (PE.YL (sO sS sH) fun σ H Q z=>(1,rfl,z))) rfl
 |.bm m o es,c,X,a,hc,h=>by
  replace h:=j5 h;let((lo,n,ap,ls,p),h0,h):=h;cases vr h0;erw[bf,f9]at h;let(((Y,J),N,L,q6),E,R):=h;let(l,ls,rfl):=hW q6;let(P,V):=G9 es hc R;let Z:=V;erw[Dz,bf]at Z;let qk:((backTo p (starEach (l::ls) X.env)).all (λx=>!x.1)&&(backToKw p (keywordEach [] X.env)).all (λx=>x.1.isSome)&&decide (-(l::ls)+-([]:List Keyword)+(if([]:List Keyword).isEmpty then 0 else 1)<30))=true:=by rw[PM V];simp[keywordEach,backToKw];simp at N;show b_ N ⋯
  let g:=kj o hc E;cases m with
  |append=>cases Y;show Aa (jS (T :="list") (id :="list.append") (fun ι H M x v S r t=>ty_list S r t) PySem.F.plainAttrs_list PySem.F.slot_list_append PySem.F.type_list_append MP g.v P (Jl J) qk L (o6 Z.1 _ _) (yg Z.2)) rfl
  |extend=>cases Y;show Aa (jS (T :="list") (id :="list.extend") (fun ι H M x v S r t=>ty_list S r t) PySem.F.plainAttrs_list PySem.F.slot_list_extend PySem.F.type_list_extend MQ g.v P (Jl J) qk L (o6 Z.1 _ _) (yg Z.2)) rfl
  |index=>cases Y;show Aa (jS (T :="list") (id :="list.index") (fun ι H M x v S r t=>ty_list S r t) PySem.F.plainAttrs_list PySem.F.slot_list_index PySem.F.type_list_index (MR hc.r8) g.v P (Jl J) qk L (o6 Z.1 _ _) (yg Z.2)) rfl
  |get=>cases Y;show Aa (jS (T :="dict") (id :="dict.get") (fun ι H M x v S r t=>ty_dict S r t) PySem.F.plainAttrs_dict PySem.F.slot_dict_get PySem.F.type_dict_get (OH (Zu hc.ZJ)) g.v P (Jl J) qk L (o6 Z.1 _ _) (yg Z.2)) rfl
  |Py=>cases Y;show Aa (Of (id :="tuple.index") (λx M t=>by cases x with|WL ds=>show(ds,rfl)|_=>cases t) PySem.F.plainAttrs_tuple PySem.F.slot_tuple_index PySem.F.type_tuple_index (OM hc.r8) g.v P (Jl J) qk L (o6 Z.1 _ _) (yg Z.2)) rfl
 |.WN v j t it e,c,X,a,hc,h=>by
  replace h:=j5 h;let((zz,gs,sc),Y,h):=h;let(p,rfl):=Xi Y;replace h:=j5 h;let((tg,q0,zj,as),J,h):=h;cases Ed J;erw[bf,u5]at h;let((N,rfl),L,E):=h;let(q1,q2,B,hB,hg,q3,q4):=Xk hc N;cases q2;show Aa (LX B hc.YB (Xl it hc L) hg (λC fp s H=>(kj e (hB C fp s H) E).v) q1 q3 q4) rfl
 |.Eo v j t it i e,c,X,a,hc,h=>by
  replace h:=j5 h;let((zz,gs,sc),Y,h):=h;let(p,rfl):=Xi Y;replace h:=j5 h;let((tg,q0,zj,as),J,h):=h;cases Ed J;replace h:=j5 h;let(d,R,h):=h;cases Ed R;erw[bf]at h;let((N,A),L,U,E):=h;let(q1,q2,B,hB,hg,q3,q4):=Xk hc N;cases q2;show Aa (LY B hc.YB (Xl it hc L) hg (λC fp s H=>(kj i (hB C fp s H) U).q A) (λC fp s H=>(kj e (hB C fp s H) E).v) q1 q3 q4) rfl
 |.dt x y,c,X,a,hc,h=>by
  replace h:=j5 h;let((l0,o,r0),Y,h):=h;let(p,rfl):=nU Y;replace h:=j5 h;let(o1,J,h):=h;replace h:=j5 h;let(r1,N,h):=h;cases Ed J;cases Ed N;replace h:=j5 h;let((n,ls),L,h):=h;replace h:=j5 h;let((m,ms),E,h):=h;replace h:=j5 h;let(l,R,h):=h;replace h:=j5 h;let(r,A,h):=h;cases Ed R;cases Ed A;let(p1,q1,P):=Hx L;let(I,q2,V):=Hx E;let P:l0=_:=P;subst P V;erw[bf,f9]at h;let(((rfl,rfl),rfl,U),(h9,q5),q7,zq):=h;let(O,G):=G8 hc U;let z:=MM (nm:=nm) (W:=W) (p1:=p1) (p2:=I) (q1:=q1) (q2:=q2) hc.r8 O (hc.mg ∅) ∅ (wk G).2.2 (wk G).1 (T7 (kj x hc q7).v Zx (o6 h9 _ _)) (T7 (kj y hc zq).v Zx (o6 q5 _ _)) (o6 h9 _ _) (o6 q5 _ _) (yg rfl) (yg rfl);show(DZ z,λ_=>jL (Dx z) λ_ _ _ q=>q,λ_ _ _ z=>by cases z)
 |.dy x,c,X,a,hc,h=>by
  let(l,p,p1,I,p3,rfl,E,R,A,U):=nr h;let(O,G):=G8 hc E;let(g3,D):=G8 hc R;show Aa (NG hc.r8 O (hc.mg ∅) ∅ (wk G).2.2 (wk G).1 g3 (hc.mg ∅) ∅ (wk D).2.2 (wk D).1
   (T7 (kj x hc U).v Zx (o6 A _ _)) (o6 rfl _ _) (yg rfl) (o6 A _ _) (yg rfl)) rfl
 |.eA x,c,X,a,hc,h=>by
  let(l,p,p1,I,p3,rfl,E,R,A,U):=nr h;let(O,G):=G8 hc E;let(g3,D):=G8 hc R;show Aa (OI hc.r8 O (hc.mg ∅) ∅ (wk G).2.2 (wk G).1 g3 (hc.mg ∅) ∅ (wk D).2.2 (wk D).1
   (T7 (kj x hc U).v Zx (o6 A _ _)) (o6 rfl _ _) (yg rfl) (o6 A _ _) (yg rfl)) rfl
theorem G9:∀(Y:Ha){c:ZZ}{X:Cx}{a:Y3},Hv T nm W k c X->Pq T Y c a=true->PA X a (aA nm W X.K Y)/\Dz a=true
 |.nil,c,X,a,hc,h=>by
  cases u5<*h;show(Zx,rfl)
 |.cons e Y,c,X,a,hc,h=>by
  cases a with
  |nil=>cases h
  |cons l B =>
   replace h:(X_ l&&(Bw T e c l&&Pq T Y c B))=true:=h;erw[bf]at h;let(J,G):=G9 Y hc h.2.2;show(T7 (kj e hc h.2.1).v J (o6 h.1 _ _),by erw[Dz,bf];show(h.1,G))
theorem wG:∀(e:ag){c:ZZ}{X:Cx}{a:Option Expr},Hv T nm W k c X->nu T e c a=true->PO X a (tO nm W X.K e)
 |.none,c,X,a,hc,h=>by
  cases Option.isNone_iff_eq_none.mp h;show Mo
 |.some e,c,X,a,hc,h=>by
  replace h:=j5 h;let(l,rfl,h):=h;show NA (kj e hc h).v
theorem Xl:∀(it:Qz){c:ZZ}{X:Cx}{Y a:Expr},Hv T nm W k c X->kI T it c Y a=true->PI X Y a (tI nm W X.K it)
 |.val e,c,X,Y,a,hc,h=>LO (kj e hc h).v
 |.aK e,c,X,Y,a,hc,h=>by
  replace h:=j5 h;let((n,N),C,h):=h;let(p,H,rfl):=Hx C;replace h:=j5 h;let(l,P,h):=h;cases Ed P;erw[bf,f9]at h;let((rfl,G),J,R):=h;show LP (G8 hc G).1 (hc.mg ∅) (kj e hc R).v J
 |.cU e,c,X,Y,a,hc,h=>by
  replace h:=j5 h;let((n,N),C,h):=h;let(p,H,rfl):=Hx C;replace h:=j5 h;let(l,P,h):=h;cases Ed P;erw[bf,f9]at h;let((E,rfl,G),J,R):=h;let(S,O):=qz<*E;let(Q,pt,rfl):=Nt O;show N3 (G8 hc G).1 (hc.mg ∅) (kj e hc R).v J
 |.zip es,c,X,Y,a,hc,h=>by
  replace h:=j5 h;let((n,N),C,h):=h;let(p,H,rfl):=Hx C;erw[bf,f9]at h;let((E,rfl,G,J),O):=h;let(l,N,rfl):=hW J;let(L,B):=G9 es hc O;let(S,V):=qz<*E;let(Q,pt,rfl):=Nt V;erw[Dz,bf]at B;let(f1,f2):=B;show OC (G8 hc G).1 (hc.mg ∅) L (o6 f1 _ _) (yg f2)
 |.eu es,c,X,Y,a,hc,h=>by
  let(S,Q,pt,l,N,p,A,F,M,rfl,rfl,G,J,O):=Pc h;let(L,B):=G9 es hc O;erw[Dz,bf]at B;let(f1,f2):=B;show PJ (G8 hc G).1 (hc.mg ∅) (G8 hc J).1 (hc.mg ∅) L (o6 f1 _ _) (yg f2) (o6 rfl _ _)
end
end
def wH(e:Ex):Option {b:Bool//(∃v j t it x,e=.WN v j t it x)\/∃v j t it i x,e=.Eo v j t it i x}:=match e with|.WN ..=>↑(true,.inl {5,_,_,_,_,_,rfl})|.Eo ..=>↑(true,.inr {6,_,_,_,_,_,_,rfl})|_=>()
def nz(T:_Z)(c:ZZ)(l:Lv)(e:Ex)(Y v:Expr):Bool:=
 match l with
 |.tg t=>(eV c 0 t Y&&((Vv v&&((Rg Y).isSome||uL v))||(hJ v).isSome&&(match t with|.name _=>(wH e).isSome|_=>true)))&&Bw T e c v
 |.sub o i=>Fj (fV Y) λq=>mr q.2&&(Bw T e c v&&(Bw T o c q.1&&Bw T i c q.2))
 |.ZL o f=>Fj (hE Y) λq=>(Vv v&&wA T.Vy f q.2.1)&&(Bw T e c v&&Bw T o c q.1)
def n7(a:Stmt):Option (List Expr×Expr):=Option.map Subtype.val (α:={q:List Expr×Expr//∃p,a=.Assign q.1 q.2 p}) (match a with|.Assign t v p=>↑((t,v),p,rfl)|_=>())
def wJ(a:Stmt):Option Expr:=Option.map Subtype.val (α:={q:Expr//∃p,a=.Expr q p}) (match a with|.Expr v p=>↑(v,p,rfl)|_=>())
def wK(a:Stmt):Option (Expr×List Stmt×List Stmt):=Option.map Subtype.val (α:={q:Expr×List Stmt×List Stmt//∃p,a=.If q.1 q.2.1 q.2.2 p}) (match a with|.If t l r p=>↑((t,l,r),p,rfl)|_=>())
def wL(a:Stmt):Option (Expr×List Stmt×List Stmt):=Option.map Subtype.val (α:={q:Expr×List Stmt×List Stmt//∃p,a=.While q.1 q.2.1 q.2.2 p}) (match a with|.While t l r p=>↑((t,l,r),p,rfl)|_=>())
def wM(a:Stmt):Option (Expr×Expr×List Stmt×List Stmt):=Option.map Subtype.val (α:={q:Expr×Expr×List Stmt×List Stmt//∃p,a=.For q.1 q.2.1 q.2.2.1 q.2.2.2 p}) (match a with|.For t i l r p=>↑((t,i,l,r),p,rfl)|_=>())
def wN(a:Stmt):Option (Option Expr):=Option.map Subtype.val (α:={q:Option Expr//∃p,a=.Return q p}) (match a with|.Return v p=>↑(v,p,rfl)|_=>())
def n9(a:Stmt):Option Nat:=Option.map Subtype.val (α:={n:Nat//(n=0/\∃p,a=.Break p)\/(n=1/\∃p,a=.Continue p)\/(n=2/\∃p,a=.Pass p)}) (match a with|.Break p=>↑(0,.inl (rfl,p,rfl))|.Continue p=>↑(1,.inr (.inl (rfl,p,rfl)))|.Pass p=>↑(2,.inr (.inr (rfl,p,rfl)))|_=>())
def wO(h:n7 a\(t,v)):∃p,a=.Assign t v p:=(aN h :)
def Pw(h:wJ a\v):∃p,a=.Expr v p:=(aN h :)
def P1(h:wK a\(t,l,r)):∃p,a=.If t l r p:=(aN h :)
def P2(h:wL a\(t,l,r)):∃p,a=.While t l r p:=(aN h :)
def P4(h:wM a\(t,i,l,r)):∃p,a=.For t i l r p:=(aN h :)
def P5(h:wN a\v):∃p,a=.Return v p:=(aN h :)
def wQ(h:n9 a\n):(n=0/\∃p,a=.Break p)\/(n=1/\∃p,a=.Continue p)\/(n=2/\∃p,a=.Pass p):=(aN h :)
def nilB(r:nq):Bool:=match r with|.nil=>true|_=>false
mutual
def oA(T:_Z):Ea->ZZ->Stmt->Bool
 |.asg l e,c,a=>Fj (n7 a) λq=>Fj (Uc q.1) λt=>nz T c l e t q.2
 |._K e,c,a=>Fj (wJ a) λv=>Vv v&&Bw T e c v
 |.iff t x y,c,a=>Fj (wK a) λq=>Xj q.1&&(Bw T t c q.1&&(Xm T x c q.2.1&&Xm T y c q.2.2))
 |.whl t x,c,a=>Fj (wL a) λq=>(Xj q.1&&q.2.2.isEmpty)&&(Bw T t c q.1&&Xm T x c q.2.1)
 |.YX t it x,c,a=>Fj (wM a) λq=>(eV c 0 t q.1&&(Ka q.2.1&&q.2.2.2.isEmpty))&&(kI T it c q.1 q.2.1&&Xm T x c q.2.2.1)
 |.ret e,c,a=>Fj (wN a) λv=>Fj v (Bw T e c)
 |.brk,_,a=>decide (n9 a\0)|.cont,_,a=>decide (n9 a\1)|.ZV,_,_=>true|.all ..,_,_=>false
def oB(T:_Z):Ea->ZZ->Stmt->List Stmt->Bool
 |.all i e r,c,a,l=>Fj (n7 a) λq=>Fj (Uc q.1) λt=>(eV c 0 (.name i) t&&Vv q.2)&&(Bw T e c q.2&&Xm T r c l)
 |_,_,_,_=>false
def Xm(T:_Z):nq->ZZ->List Stmt->Bool
 |.nil,_,a=>a.isEmpty|.cons s r,c,a=>match a with|st::rest=>oA T s c st&&Xm T r c rest||nilB r&&oB T s c st rest|_=>false
end
def kJ(c:ZZ)(t:Str)(pt T:Pos)(Y:Scope):Bool:=(c.sc/t==↑NameKind.local&&pt.line==T.line)&&!(Y.names.any λy=>y.1==t&&(y.2==.local||y.2==.cell))
def P6(Y:Hv T nm W k c X):swapsWith (.ListComp elt gs sc vp) ↑(.Name t pt) l X.env=pure (kJ c t pt vp sc):=by
 let b:X.env.blockKind=.function:=by unfold Env.blockKind;rw[Y.kd];rfl
 change(pure (X.env.blockKind==.function&&X.env.kindOf t==↑.local&&pt.line==vp.line&&!(sc.names.any λ(n,k)=>n==t&&(k==.local||k==.cell))):Sem Bool)=_;rw[b];unfold Env.kindOf;rw[Y.sc];simp[kJ]
def P7(Y:Hv T nm W k c X)(ht:eV c 0 (.name i) Z=true)(hv:(hJ v).isSome=true)(hw:(wH e).isSome=true)(h:Bw T e c v=true):PS X (.Assign [Z] v p) (tS nm W X.K (.asg (.tg (.name i)) e)):=by
 let nd:X.N.Nodup:=by rw[Y.N];show Y.nd
 symm
 let((L,gs,sc),hq):=qz<*hv;let(y,py,rfl,hy,_):=ny (nm:=nm) (W:=W) (k:=k) (T:=T) Y ht;let((_,co),_):=qz<*hw;let(V,rfl):=Xi hq;let J:=λl=>P6 (T:=T) (nm:=nm) (W:=W) (k:=k) Y (elt:=L) (gs:=gs) (sc:=sc) (vp:=V) (pt:=py) (t:=y) (l:=l)
 left;cases hs:kJ c y py V sc with
 |false =>
  rw[hs]at J;show jN (kj e Y h).v (fY Y ht).1 (J p.line) rfl rfl
 |true =>
  rw[hs]at J;erw[kJ,bf]at hs;let hl:(X.env.scope.names/y)\.local:=by rw[Y.sc];let:=hs.1.1;simpa using this
  rcases co with⟨v,j,t,it,x,rfl⟩|⟨v,j,t,it,i',x,rfl⟩
  .symm
   replace h:=j5 h;let((D,R,A),S,h):=h;cases S;replace h:=j5 h;let((Z,G,qq,as),I,h):=h;left;cases Ed I;erw[bf,u5]at h;symm
   let((F,rfl),U,h5):=h;let(M,q2,B,E,P,Q,q4):=Xk Y F;cases q2;left;show LZ B Y.YB (Xl it Y U) P (λC O s H=>(kj x (E C O s H) h5).v) M Q q4 nd hy hl (J p.line)
  .symm
   replace h:=j5 h;let((D,R,A),S,h):=h;cases S;replace h:=j5 h;let((Z,G,qq,as),I,h):=h;left;cases Ed I;replace h:=j5 h;let(d,h6,h):=h;cases Ed h6;erw[bf]at h;symm
   let((F,h7),U,h8,h5):=h;let(M,q2,B,E,P,Q,q4):=Xk Y F;cases q2;left;show L_ B Y.YB (Xl it Y U) P (λC O s H=>(kj i' (E C O s H) h8).q h7) (λC O s H=>(kj x (E C O s H) h5).v) M Q q4 nd hy hl (J p.line)
section
variable{T:_Z}{nm:Nm}{W:Kh}{k:Nat}
def P8(Y:Hv T nm W k c X)(h:nz T c l e tg v=true):PS X (.Assign [tg] v p) (tS nm W X.K (.asg l e)):=by
 cases l with
 |tg t =>
  erw[nz,bf,Bool.or_eq_true]at h;let((B,N),J):=h;rcases N with⟨G,O⟩|G
  .let g:=fY (nm:=nm) Y B
   let Q:(∃n q,tg=.Name n q)\/∃C E q,tg=.Tuple C E q:=by
    cases t with
    |name i =>
     let(n,L,_):=j5 B;show .inl (n,Hw L)
    |names is =>
     let(C,L,_):=j5 B;show .inr (C,Nt L)
   rcases Q with⟨n,q,rfl⟩|⟨C,E,q,rfl⟩
   .exact jN (kj e Y J).v g.1 (Vx G _ _ _) rfl rfl
   .let w:uL v=true:=by
     rcases O with O|O
     .cases O
     .exact O
    let S:swappedStores [.Tuple C E q] v X.env=pure ():=by cases v<;>first|rfl|(cases w;done)
    show jN (kj e Y J).v g.1 (Vx G _ _ _) S rfl
  .cases t with
   |name i=>show P7 Y B G.1 G.2 J
   |names is =>
    let(C,L,_):=j5 B;let(E,q,rfl):=Nt L;let((_,_,_),F):=qz<*G.1;let(A,rfl):=Xi F;show jN (kj e Y J).v (fY (nm:=nm) Y B).1 rfl rfl rfl
 |sub o i =>
  replace h:=j5 (show Fj (fV tg) _=true from h);let((M,R),P,h):=h;let(H,rfl):=kE P;erw[bf]at h;let(N,J,G,O):=h;show L6 (Zu Y.ZJ) (kj e Y J).v (kj o Y G).v (kj i Y O).v λv=>?_
  cases R<;>first|rfl|(cases N;done)
 |ZL o f =>
  replace h:=j5 (show Fj (hE tg) _=true from h);let((M,n,H),P,h):=h;cases nV P;erw[bf]at h;let((B,N),J,G):=h;let(V,t2):=Y.YF.fl _ _ (j8 N);show L7 V t2 (kj e Y J).v (kj o Y G).v B
mutual
theorem P9:∀(s:Ea){c:ZZ}{X:Cx}{a:Stmt},Hv T nm W k c X->c.fn=true->oA T s c a=true->PS X a (tS nm W X.K s)
 |.asg l e,c,X,a,hc,hf,h=>by
  replace h:=j5 h;let((L,v),Y,h):=h;let(p,rfl):=wO Y;replace h:=j5 h;let(t,G,h):=h;cases Ed G;show P8 hc h
 |._K e,c,X,a,hc,hf,h=>by
  replace h:=j5 h;let(v,Y,h):=h;let(p,rfl):=Pw Y;erw[bf]at h;show LD (kj e hc h.2).v (T8 h.1 _ _ _)
 |.iff t x y,c,X,a,hc,hf,h=>by
  replace h:=j5 h;let((q,l,r),Y,h):=h;let(p,rfl):=P1 Y;erw[bf]at h;show LI ((kj t hc h.2.1).q h.1) (Mg x hc hf h.2.2.1) (Mg y hc hf h.2.2.2)
 |.whl t x,c,X,a,hc,hf,h=>by
  replace h:=j5 h;let((q,l,r),Y,h):=h;let(p,rfl):=P2 Y;erw[bf,u5]at h;let((G,rfl),J,B):=h;show LL (hc.nK hf).2 ((kj t hc J).q G) (Mg x hc hf B)
 |.YX t it x,c,X,a,hc,hf,h=>by
  replace h:=j5 h;let((N,O,l,r),Y,h):=h;let(p,rfl):=P4 Y;erw[bf,u5]at h;let((G,J,rfl),B,C):=h;show LM (hc.nK hf).2 hc.YB (Xl it hc B) (fY hc G).1 (Mg x hc hf C) J
 |.ret e,c,X,a,hc,hf,h=>by
  replace h:=j5 h;let(v,Y,h):=h;let(p,rfl):=P5 Y;replace h:=j5 h;let(w,rfl,h):=h;show LF (kj e hc h).v
 |.brk,c,X,a,hc,hf,h=>by
  rcases wQ (j8 h)with⟨_,p,rfl⟩|⟨z,_⟩|⟨z,_⟩
  .exact LG
  .cases z
  .cases z
 |.cont,c,X,a,hc,hf,h=>by
  rcases wQ (j8 h)with⟨z,_⟩|⟨_,p,rfl⟩|⟨z,_⟩
  .cases z
  .exact LH
  .cases z
 |.ZV,c,X,a,hc,hf,h=>N9|.all i e r,c,X,a,hc,hf,h=>by cases h
theorem QA:∀(s:Ea){c:ZZ}{X:Cx}{a:Stmt}{l:List Stmt},Hv T nm W k c X->c.fn=true->oB T s c a l=true->Uv X (a::l) (bW nm W X.K (.cons s .nil))
 |.all i e r,c,X,a,l,hc,hf,h=>by
  replace h:=j5 h;let((L,v),C,h):=h;let(p,rfl):=wO C;replace h:=j5 h;let(t,B,h):=h;cases Ed B;erw[bf]at h;let((Y,N),O,J):=h;let g:=(fY (nm:=nm) hc Y).1;let(n,G,_):=j5 Y;let(q,rfl):=Hw G;show PH (kj e hc O).v g (Vx N _ _ _) rfl rfl (Mg r hc hf J)
 |.asg ..,_,_,_,_,_,_,h=>by cases h|._K ..,_,_,_,_,_,_,h=>by cases h|.iff ..,_,_,_,_,_,_,h=>by cases h|.whl ..,_,_,_,_,_,_,h=>by cases h|.YX ..,_,_,_,_,_,_,h=>by cases h|.ret ..,_,_,_,_,_,_,h=>by cases h|.brk,_,_,_,_,_,_,h=>by cases h|.cont,_,_,_,_,_,_,h=>by cases h|.ZV,_,_,_,_,_,_,h=>by cases h
theorem Mg:∀(s:nq){c:ZZ}{X:Cx}{a:List Stmt},Hv T nm W k c X->c.fn=true->Xm T s c a=true->Uv X a (bW nm W X.K s)
 |.nil,c,X,a,hc,hf,h=>by
  cases u5<*h;show LJ
 |.cons s r,c,X,a,hc,hf,h=>by
  cases a with
  |nil=>cases h
  |cons st Y =>
   replace h:(oA T s c st&&Xm T r c Y||nilB r&&oB T s c st Y)=true:=h;erw[bf,Bool.or_eq_true]at h;rcases h with h|h
   .exact LK (P9 s hc hf h.1) (Mg r hc hf h.2)
   .cases r with
    |nil=>show QA s hc hf h.2|cons _ _=>cases h.1
end
end
structure Def where
 x:Str
 qual:Str
 N:List Str
 ps:List Str
def oC(N T:Ya)(Y:Scope):Bool:=
 (decide (Y.kind=.function)&&(!Y.isCoroutine&&!Y.isGenerator))&&((decide N.Nodup&&decide (N.take (-T)=T)) &&
 (T.all (λx=>Y.names/x==↑.local||Y.names/x==↑.cell)&&Y.names.all (λy=>!(y.2==NameKind.free))))
def QB(h:oC N ps sc=true):jH N ps sc:=by erw[oC,bf,f9,Bool.not_eq_true',jr]at h;let((O,G,B),(C,J),Y,T):=h;show(O,G,B,C,J,λx m=>by let:=Y x m;simpa using this,λy m=>by let:=T y m;simpa using this)
def fZ(T:_Z)(d:Def)(F:MW.Fn)(st:Stmt):Bool:=
 (oC d.N d.ps (Dr st)&&(decide (F.np=-d.ps)&&decide (F.ns=-d.N)))&&Xm T F.body (d.N,(Dr st).names,true,[]) (Hs st)
def QC{F:MW.Fn}(h:F.XM W ds M=.ok d M'):-ds=F.np/\∃U Z,F.body.WD W (ds%some++'R' (F.ns-F.np) ()) M=.ok (U,Z) M'/\(U=.ret d\/(U=.next/\d=.XQ)):=by
 unfold MW.Fn.XM at h;split at h
 .rename_i T
  let((U,Z),G,Y,e):=gw h;show(T,U,Z,?_);cases U with
  |ret z=>cases e;show(Y,.inl rfl)|next=>cases e;show(Y,.inr (rfl,rfl))|brk=>cases e|cont=>cases e
 .cases h
def QD{Y:MW.Prog}(U:cM K d.x d.qual st f fd)(hF:Y._C[i]?\F)(h:fZ T d F st=true)(hT:nJ T nm (Y.call n,Y.cls) k P w K mg base):J8 P w K mg base ai (k+17) f fd d.ps (bX nm (Y.call (n+1),Y.cls) K F.np i):=by
 erw[fZ,bf,f9]at h;let((h1,h2,h3),h4):=h;let S:=QB h1;let go:∀J M B M',MW.Kh.call (Y.call (n+1),Y.cls) i J M=.ok B M'->F.XM (Y.call n,Y.cls) J M=.ok B M':=λJ M B M' e=>by let e:Y.call (n+1) i J M=.ok B M':=e;unfold MW.Prog.call at e;rw[hF]at e;show e
 show U.ok (k:=k+16) S (λZ H Q E z_=>by let(R,M,J,B,M',_,r,l,e,_):=z_;rw[<--r,l,h2]) (λC A G s H Z Q E hr z_=>?_);let(R,M,J,B,M',SM,r,l,e,q):=z_;let hc:Hv T nm (Y.call n,Y.cls) k (d.N,(Dr st).names,true,[]) (eO ai P w K mg base d.N d.qual (Dr st) f C A G s H E).gL:=
  (rfl,S.nd,rfl,S.kind,rfl,hr,λ_=>(λ_=>rfl,PassesOwn.never),hT,λ_ z=>by cases z)
 show{1,_,Mg F.body hc rfl h4,?_};let(hl,fl,L,I,X):=QC (go _ _ _ _ e);show{6,R,_,M,fl,L,M',SM,?_,I,λO V D le W R'=>?_}
 .unfold L2.ZM
  show(yr.JR r).append (yr.uD _ (by rw[List.length_replicate,h3,<--r,l]))
 .rcases X with rfl|⟨rfl,rfl⟩
  .exact λv rv=>q O V v le W rv
  .exact q O V _ le W .XQ
theorem wR{nm:Nm}{P:Program}{w:World}{K:Fg}{mg:Zs}{base:Heap}{IR:MW.Prog}{T:_Z}{D:Nat->Def}{st:Nat->Stmt}{fa:Nat->Addr}{fd:Nat->FuncData}
 (U:∀i,i< -IR._C->cM K (D i).x (D i).qual (st i) (fa i) (fd i)) (h:∀i F,IR._C[i]?\F->fZ T (D i) F (st i)=true)
 (G:∀n,(∀i F,IR._C[i]?\F->J8 P w K mg base ai (17*n) (fa i) (fd i) (D i).ps (bX nm (IR.call n,IR.cls) K F.np i))->nJ T nm (IR.call n,IR.cls) (17*n) P w K mg base) :
 ∀n i F,IR._C[i]?\F->J8 P w K mg base ai (17*n) (fa i) (fd i) (D i).ps (bX nm (IR.call n,IR.cls) K F.np i)
 |0,i,F,hF=>((λN H Q E z_=>by let(L,M,O,C,B,_,r,l,e,_):=z_;cases e),λA Y s H J V N Q E S W I R z_=>by let(L,M,O,C,B,_,r,l,e,_):=z_;cases e)
 |n+1,i,F,hF=>QD (U i (ak<*hF).1) hF (h i F hF) (G n (wR U h G n))
def oD(s:Str):Bool:=s.cps[0]?==↑0
def hZ(Y:Ya):Bool:=decide Y.Nodup&&Y.all λs=>!oD s
def dR(Y:Ya)(i:Nat):Str:=match Y[i]? with|some s=>s|none=>⟨#[0,0,i]⟩
def QE(h:hZ Vy=true)(i j:Nat)(e:dR Vy i=dR Vy j):i=j:=by
 erw[hZ,bf,f9,jr]at h;let Y:∀k,oD ⟨#[0,0,k]⟩=true:=λk=>rfl
 unfold dR at e;cases hi:Vy[i]? with
 |some a =>
  rw[hi]at e;cases hj:Vy[j]? with
  |some b =>
   rw[hj]at e;let e:a=b:=e;subst e;let(B,T):=ak<*hi;let(J,G):=ak<*hj;show(List.getElem_inj h.1)<*(T>>G.symm)
  |none =>
   rw[hj]at e;let e:a=⟨#[0,0,j]⟩:=e;let:=h.2 a (az hi);rw[e,Y]at this;cases this
 |none =>
  rw[hi]at e;cases hj:Vy[j]? with
  |some b =>
   rw[hj]at e;let e:(⟨#[0,0,i]⟩:Str)=b:=e;let:=h.2 b (az hj);rw[<-e,Y]at this;cases this
  |none =>
   rw[hj]at e;let e:(⟨#[0,0,i]⟩:Str)=⟨#[0,0,j]⟩:=e;simpa using e
def oE(Y:List (Option Addr))(T:Ya)(h:hZ T=true):Nm:=(λc=>(Y[c]?).join,dR T,QE h)
def oF(Y:Ya)(x:Str):Bool:=!(Y.contains x)&&!oD x
def QF(h:oF Vy x=true)(i:Nat):dR Vy i≠x:=λe=>by
 erw[oF,bf,Bool.not_eq_true']at h;unfold dR at e;cases hi:Vy[i]? with
 |some a =>
  rw[hi]at e;let e:a=x:=e;rw[<-e]at h;let:=List.contains_iff_mem.mpr (az hi);rw[this]at h;cases h.1
 |none =>
  rw[hi]at e;let e:(⟨#[0,0,i]⟩:Str)=x:=e;rw[<-e]at h;cases h.2
def AllP{Y:Type}(P:Y->Prop):List Y->Prop
 |x::r=>P x/\AllP P r|[]=>True
def AllP.get(h:AllP P l)(m:x∈l):P x:=by
 induction l with
 |nil=>cases m
 |cons y r Y =>
  rcases dj<*m with z|z
  .rw[z];show h.1
  .exact Y h.2 z
section
variable(K:Fg)(mg:Zs)
def dS:List Def->List Stmt->List Addr->List FuncData->Prop
 |d::ds,s::ss,a::as,f::fs=>(cM K d.x d.qual s a f/\YT K f d.ps [])/\dS ds ss as fs|[],[],[],[]=>True|_,_,_,_=>False
def cD:List (Option (Str×Nat))->List Addr->Prop
 |some p::r,a::as=>mg p.1\↥a/\cD r as|none::r,_::as=>cD r as|_,_=>True
abbrev kK(C:Addr)(cR:List (Str×Nat))(Uy:X0):=AllP λ(q:Nat×Nat)=>∃p a,cR[q.1]?\p/\Uy[q.2]?\a/\Meth K C p.1 a
abbrev iA(C:Addr):=AllP λx=>Og K C x
structure oG(T:_Z)(Uy:X0)(x:Str)(C:Addr)(cl:MW.Cl):Prop where
 mg:mg x\↥C
 cs:bE K C
 ini:∃f,Uy[cl.init]?\f/\Mk K C f
 me:kK K C T.cR Uy cl._a
 na:iA K C T.Vy
def Vz(T:_Z)(Y:X0):List (Option (Str×Nat))->List (Option Addr)->List MW.Cl->Prop
 |some p::r,↑C::cs,cl::cls=>oG K mg T Y p.1 C cl/\Vz T Y r cs cls|none::r,()::cs,_::cls=>Vz T Y r cs cls|[],[],[]=>True|_,_,_=>False
abbrev iC :=AllP λ(p:Str×Int)=>∃t,mg p.1\(.int p.2 t)
abbrev AllB :=AllP λ(x:Str)=>mg x=()
end
def dS.get{Y:List Def}{i:Nat}{d:Def}(h:dS K Y Z as fs)(e:Y[i]?\d):∃s a f,Z[i]?\s/\as[i]?\a/\fs[i]?\f/\cM K d.x d.qual s a f/\YT K f d.ps []:=by
 induction Y generalizing Z as fs i with
 |nil=>simp at e
 |cons G Y T =>
  cases Z with
  |nil=>show h.elim|cons s Z =>
  cases as with
  |nil=>show h.elim|cons a as =>
  cases fs with
  |nil=>show h.elim|cons f fs =>
  cases i with
  |zero=>cases e;show{3,s,a,f,rfl,rfl,rfl,h.1}|succ i=>show(T h.2 e :)
def cD.get{l:List (Option (Str×Nat))}{as:X0}{i:Nat}{p:Str×Nat}{a:Addr}(h:cD mg l as)(e:l[i]?\↑p)(Y:as[i]?\a):mg p.1\↥a:=by
 induction l generalizing as i with
 |nil=>simp at e
 |cons q l T =>
  cases as with
  |nil=>simp at Y|cons b as =>
  cases i with
  |zero=>cases e;cases Y;show h.1
  |succ i =>
   cases q with
   |none=>show T h e Y|some q=>show T h.2 e Y
def Vz.get{l:List (Option (Str×Nat))}{c:Nat}{p:Str×Nat}(h:Vz K mg T U l Z cls)(e:l[c]?\↑p):∃C cl,Z[c]?\↑C/\cls[c]?\cl/\oG K mg T U p.1 C cl:=by
 induction l generalizing Z cls c with
 |nil=>simp at e
 |cons q l Y =>
  cases Z with
  |nil=>cases q<;>show h.elim|cons C Z =>
  cases cls with
  |nil=>cases q<;>cases C<;>show h.elim|cons cl cls =>
  cases q with
  |none =>
   cases C with
   |some C=>show h.elim
   |none =>
    cases c with
    |zero=>cases e
    |succ c =>
     let h:Vz K mg T U l Z cls:=h;show(Y h e :)
  |some q =>
   cases C with
   |none=>show h.elim
   |some C =>
    cases c with
    |zero=>cases e;show{2,C,cl,rfl,rfl,h.1}|succ c=>show(Y h.2 e :)
theorem Vz.at{Y:List (Option Addr)}{c:Nat}{C:Addr}(h:Vz K mg T Z l Y cls)(e:Y[c]?\↑C):bE K C/\iA K C T.Vy:=by
 induction l generalizing Y cls c with
 |nil =>
  cases Y with
  |nil=>simp at e|cons C Y=>cases cls<;>show h.elim
 |cons q l G =>
  cases Y with
  |nil=>simp at e|cons C Y =>
  cases cls with
  |nil=>cases q<;>cases C<;>show h.elim|cons cl cls =>
  cases q with
  |none =>
   cases C with
   |some C=>show h.elim
   |none =>
    cases c with
    |zero=>cases e
    |succ c =>
     let h:Vz K mg T Z l Y cls:=h;show(G h e :)
  |some q =>
   cases C with
   |none=>show h.elim
   |some C =>
    cases c with
    |zero=>cases e;show(h.1.cs,h.1.na)|succ c=>show(G h.2 e :)
def kL(T:_Z):List MW.Fn->List Def->List Stmt->Bool
 |F::Fs,d::ds,s::ss=>fZ T d F s&&kL T Fs ds ss|[],[],[]=>true|_,_,_=>false
def iD(Y:List MW.Fn)(f n:Nat):Bool:=match Y[f]? with|some F=>F.np==n|none=>false
def wU(Y:List MW.Fn)(l:List (Option (Str×Nat))):Bool:=l.zipIdx.all λq=>match q.1 with|some p=>iD Y q.2 p.2|none=>true
def wV(Y:MW.Prog)(l:List (Option (Str×Nat))):Bool:=l.zipIdx.all λq=>match q.1 with|some p=>(match Y.cls[q.2]? with|some cl=>iD Y._C cl.init (p.2+1)|none=>false)|none=>true
def QG(Y:List MW.Cl)(m c f:Nat):Bool:=Y.zipIdx.all λq=>match q.1._a/m with|none=>true|some g=>q.2==c&&g==f
def wW(G:MW.Prog)(T:_Z)(kM:List (Nat×Nat)):Bool:=T.cR.zipIdx.all λq=>match kM[q.2]? with
 |some Y=>(QG G.cls q.2 Y.1 Y.2&&(iD G._C Y.2 (q.1.2+1)&&oF T.Vy q.1.1))&&((match T.cls[Y.1]? with|some ↑_=>true|_=>false)&&(match G.cls[Y.1]? with|some cl=>cl._a/q.2==↑Y.2|none=>false))
 |none=>false
def Qu{Y:Type}{l:List Y}{g:Y×Nat->Bool}(h:l.zipIdx.all g=true){x:Y}(e:l[i]?\x):g (x,i)=true:=by rw[jr]at h;show h (x,i) (by rw[xm];show(i,by rw[Bf,e];simp))
protected def oH(h:iD _C f n=true):∃F,_C[f]?\F/\F.np=n:=by
 unfold iD at h;split at h
 .rename_i F e;show(F,e,eq_of_beq h)
 .cases h
def wX{Y:List MW.Fn}{i:Nat}{F:MW.Fn}(h:kL T Y Z U=true)(e:Y[i]?\F):∃d s,Z[i]?\d/\U[i]?\s/\fZ T d F s=true:=by
 induction Y generalizing Z U i with
 |nil=>simp at e
 |cons J Y G =>
  cases Z with
  |nil=>cases h|cons d Z =>
  cases U with
  |nil=>cases h|cons s U =>
  replace h:=Bool.and_eq_true_iff.mp h;cases i with
  |zero=>cases e;show{2,d,s,rfl,rfl,h.1}|succ i=>show(G h.2 e :)
protected def QH(H:hZ T.Vy=true)(hP:kL T IR._C Ds ss=true)(h1:wU IR._C T._C=true)(h2:wV IR T.cls=true)(h3:wW IR T kM=true)(aF:dS K Ds ss Z fds)(aG:cD mg T._C Z)(aC:Vz K mg T Z T.cls dU IR.cls)(aV:iC mg T.jY)(aB:AllB mg Ub)(hF:IR._C[i]?\F) :
 ∃d a f,Ds[i]?\d/\Z[i]?\a/\fds[i]?\f/\YT K f d.ps []/\J8 P w K mg base ai (17*n) a f d.ps (bX (oE dU T.Vy H) (IR.call n,IR.cls) K F.np i):=by
 let dd:Def:=(Str.empty,Str.empty,[],[])
 let sd:Stmt:=.Pass (0,0,0,0)
 let(d,s,U,g2,g3):=wX hP hF;let all:∀(i:Nat)(F:MW.Fn),IR._C[i]?\F->∃d s a f,Ds[i]?\d/\ss[i]?\s/\Z[i]?\a/\fds[i]?\f/\cM K d.x d.qual s a f/\YT K f d.ps []/\fZ T d F s=true:=λi F e=>by
  symm
  let(d,s,U,g2,g3):=wX hP e;let(s',a,f,B,k2,k3,N,E):=aF.get U;rw[g2]at B;cases B;left;show{4,d,s,a,f,U,g2,k2,k3,N,E,g3}
 let df:∀{j:Nat}{a:Addr}{f:FuncData}{d:Def},Z[j]?\a->fds[j]?\f->Ds[j]?\d->(Z[j]?).getD 0=a/\Ds[j]?.getD dd=d:=λO L J=>(by rw[O];rfl,by rw[J];rfl)
 obtain⟨M,q0⟩:∃M:FuncData,True:=by let(s',a,f,_):=aF.get U;show(f,trivial)
 show(λI=>?_) (wR (nm:=oE dU T.Vy H) (P:=P) (w:=w) (K:=K) (mg:=mg) (base:=base) (IR:=IR) (T:=T) (D:=λi=>Ds[i]?.getD dd) (st:=λi=>ss[i]?.getD sd) (fa:=λi=>(Z[i]?).getD 0) (fd:=λi=>(fds[i]?).getD M)
  (λi hi=>by
   symm
   let(d,s,a,f,B,k2,k3,N,E,X,Y):=all i IR._C[i] (by simp[hi]);left;rw[B,k2,k3,N];show E)
  (λi F e=>by
   symm
   let(d,s,a,f,B,k2,k3,N,E,X,Y):=all i F e;left;rw[B,k2];show Y)
  (λn G=>?_) n i F hF)
 .symm
  let(d',s',a,f,B,k2,k3,N,E,X,Y):=all i F hF;left;show{3,d',a,f,B,k3,N,X,?_};let:=I;rw[B,k3,N]at this;show this
 ·
  let R:∀{j:Nat}{F:MW.Fn}{a:Addr},IR._C[j]?\F->Z[j]?\a->∃(f:FuncData)(d:Def),YT K f d.ps []/\J8 P w K mg base ai (17*n) a f d.ps (bX (oE dU T.Vy H) (IR.call n,IR.cls) K F.np j)/\PySem.W.keepIn K ↥a=true:=fun{j F a} O L=>by
   symm
   let(d,s,a',f,B,k2,k3,N,E,X,Y):=all j F O;rw[L]at k3;cases k3;let g:=G j F O;rw[B,L,N]at g;left;show{2,f,d,X,g,E.kp}
  let addr:∀{j:Nat}{F:MW.Fn},IR._C[j]?\F->∃a,Z[j]?\a:=fun{j F} e=>by
   symm
   let(d,s,a',f,B,k2,k3,_):=all j F e;left;show(a',k3)
  show(λf x m e=>?_,λc x m e=>?_,λm x j e=>?_,λf x e=>?_,λx i m=>aV.get m,λx m=>aB.get m)
  .symm
   let(F,O,L):=oH (Qu h1 e);let(a,J):=addr O;let(V,d,b,g,u):=R O J;rw[L]at g;left;show{3,a,V,d.ps,g,aG.get e J,u,b}
  .symm
   let(C,cl,q1,S,A):=aC.get e;let z:=Qu h2 e;erw[S]at z;let(F,O,L):=oH z;let(f,f1,f2):=A.ini;let(V,d,b,g,u):=R O f1;rw[L]at g;left;show{5,C,f,V,d.ps,cl,f2,g,A.mg,b,S,by change(dU[c]?).join\C;rw[q1];rfl}
  .let z:=Qu h3 e
   simp only at z;split at z
   .rename_i cf qv
    erw[bf]at z;symm
    let((z1,z2,z3),z4,z5):=z;let(F,O,L):=oH z2;left;split at z4
    .rename_i p hp
     symm
     let(C,cl,q1,S,A):=aC.get hp;rw[S]at z5;simp only at z5;let mem:(m,cf.2)∈cl._a:=mem_of_lookup (eq_of_beq z5);let(p',a,r1,r2,r3):=A.me.get mem;rw[e]at r1;cases r1;let(V,d,b,g,u):=R O r2;rw[L]at g;left;show{5,C,a,V,d.ps,cf.2,A.cs,r3,g,b,λc' q4 qk g' Xy=>?_,QF z3};let y:=Qu z1 qk;erw[Xy,bf]at y;let y1:c'=cf.1:=eq_of_beq y.1;show(by change(dU[c']?).join\C;rw[y1,q1];rfl,eq_of_beq y.2)
    .cases z4
   .cases z
  .refine(by change x=dR T.Vy f;unfold dR;rw[e],λc C Q=>?_)
   let Q:(dU[c]?).join\C:=Q;let qq:dU[c]?\↑C:=by
    cases q:dU[c]? with
    |none=>rw[q]at Q;cases Q
    |some o=>rw[q]at Q;cases o with
     |none=>cases Q|some C'=>cases Q;rfl
   let(y1,y2):=aC.at qq;show(y1,y2.get (az e))
def fN:dS K [] [] [] []:=trivial
def gN:cD mg [] as:=trivial
def gS(h:mg p.1\↥a)(t:cD mg r as):cD mg (↑p::r) (a::as):=(h,t)
def gO(t:cD mg r as):cD mg (()::r) (a::as):=t
def mN:kK K C cR Z []:=trivial
def mC(Y:cR[q.1]?\p)(T:Z[q.2]?\a)(m:Meth K C p.1 a)(t:kK K C cR Z r):kK K C cR Z (q::r):=({2,p,a,Y,T,m},t)
def nN:iA K C []:=trivial
def nC(h:PySem.W.findIn K ↥C x\())(t:iA K C r):iA K C (x::r):=(h,t)
def cN:Vz K mg T Z [] [] []:=trivial
def cO(t:Vz K mg T Z r cs cls):Vz K mg T Z (()::r) (()::cs) (cl::cls):=t
def cS(h:oG K mg T Z p.1 C cl)(t:Vz K mg T Z r cs cls):Vz K mg T Z (↑p::r) (↑C::cs) (cl::cls):=(h,t)
def vN:iC mg []:=trivial
def vC(h:mg p.1\(.int p.2 t))(q:iC mg r):iC mg (p::r):=((t,h),q)
def bN:AllB mg []:=trivial
def bC(h:mg x=())(q:AllB mg r):AllB mg (x::r):=(h,q)
abbrev Lk(K:Fg)(f:Addr)(x q:Str)(st:Stmt)(oc:Value)(od:Option Addr)(kV dc pm:Value)(an:Option Addr)(cd ct:Value)(sl:Array (Option Value)):Prop:=
 (K/f)\(oc,od,.func (PySem.W.fnOf x q (Kq st) (Hs st) (Dr st) .none kV dc pm an cd ct),sl)/\PySem.W.codeIn K cd q=true/\PySem.W.keepIn K ↥f=true
def oI:Nat->(List Value->Prop)->Prop|0,P=>P []|n+1,P=>∀a,oI n λY=>P (a::Y)
theorem wY:∀{us:Zl}{P:List Value->Prop},oI (-us) P->P us|[],_,h=>h|a::us,_,h=>wY (us:=us) (h a)
def fE{kV:Value}(l:Lk K a d.x d.qual s oc od kV dc U an cd ct sl)(r:dS K ds ss as fs)
 (b:autoParam (∀(kV qq U:Value)(an:Option Addr)(Z ct:Value),oI (-d.ps) λus=>bindArgs (PySem.W.fnOf d.x d.qual (Kq s) (Hs s) (Dr s) .none kV qq U an Z ct) (us,[])=pure (d.ps.zip us)) yQ._auto_1) :
 dS K (d::ds) (s::ss) (a::as) (PySem.W.fnOf d.x d.qual (Kq s) (Hs s) (Dr s) .none kV dc U an cd ct::fs):=((tf l.1 l.2.1 l.2.2,(tf l.1 l.2.1 l.2.2)._U λ_ _ _ _ _ _ _ e=>wY (e▸b _ _ _ _ _ _)),r)
def kN(K:Fg):Sp:=λT H Q _=>∃(a:Addr)(Y:X9),T=[↥a]/\Only H/\Kp K H a (Y%V.int)/\-Y<=63/\∀G,Q (.bl true) G
def QI(o:Only H)(h:Kp K H a vs):fQ K H a vs:=by
 rcases h with(h|h)|h
 .rcases o a with z|⟨ob,xs,z⟩<;>rw[z]at h<;>cases h
 .exact .inl h
 .exact .inr h
def QJ(XM:∀(Z:X9),-Z<=63->∃U,W.call i [.fz (Z%MW.D.int)] []=.ok (.bl true) U)(h:kN K vs H Q E):bX nm W K 1 i vs H Q E:=by let(a,Z,rfl,o,T,J,k):=h;let(U,e):=XM Z J;show{5,([],[]),[],_,_,U,(rfl,Dw,'b',λn o a h=>by simp at h),.cons (.fz (QI o T) (um.ints Z)) .nil,rfl,e,λY G v le B r=>?_};cases r;show k G
def walk{l:PySem.W.OpenLaw}{K:Params->Fg}(G:l.most\63)(Y:d.params.defaults=[])(O:∀(w:World) (h:Heap),YP w h->(K w.params).In h)(F:∀(w:World) (mg:Zs) (U:Addr) (h:Heap),(K w.params).In h->h.Ns mainGlobals mg->mg d.name\↥U ->
 ∃fd:FuncData,(∀(s:Shared) (u:Value),BindsTo s fd ([u],[]) [("script",u)])/\∀Z:Heap,(K w.params).In Z->Z.Ns mainGlobals mg->J8 l.prog w (K w.params) mg Z ai 170 U fd ["script"] (kN (K w.params))) :
 PySem.W.WalkO q loose XP YP l.row.toRowW d [] (λf vs=>PySem.call f vs):=
 L2.JJ (n:=63) (k:=170) (x :="script") (CX:=λ_=>ai) (sp:=λw=>kN (K w.params)) G ⋯ Y (rfl,by decide,by decide) O F (λ_ _ a T J C B=>{2,a,T,rfl,C,B,J,λ_=>rfl}) λ_ _ _ _ _ z=>z
end Ck
namespace aL
open PySem L2
def top(i:Nat):Stmt:=PySem.Challenge.pw_mapwright_k35_parts.main.body.getD i (.Pass (0,0,0,0))
def iE:List (Str×Nat×Nat):=[("both_ways",9,3),("meeting_pairs",10,1),("is_way_between",11,4),("check_doings",12,2),("check_table",13,2),("check_threes",14,2),("_law_cell_at",26,2),("_law_state",27,2),("_law_take",28,2),("_law_begun",29,1),("_law_closed",30,1),("_law_pattern",31,1),("_law_ways",32,2),("_law_end",33,3),("_law_behind",34,3)]
def iF:List (Str×Nat×Nat):=[("is_part",18,3),("has_rising",19,2),("stays_within",20,3),("part_world",21,3),("_law_merged",35,3),("_law_world",36,3),("_law_led",37,3),("_law_along",38,6),("_law_places",39,2),("_law_maps",40,3),("_law_cut",41,3),("_law_some",42,2),("_law_same",43,2),("_law_is_part",46,3),("_law_maps_right",47,4),("law",48,1),("numbered",16,1),("equal_part",22,2),("equal_row",23,2),("image",24,1),("_law_grown",44,3),("_law_bent",45,4)]
def oJ(q:Str×Nat×Nat):Stmt:=top q.2.1
def wZ(q:Str×Nat×Nat):List Str:=match q.2.1 with|36=>["state","pat","most","rows","number","kind","some","end","way","acts","k","one","other","marks","low","high","heads","told","row"]|44=>["state","pat","world","rows","turn","kind","thing","way"]|k=>((Dr (top k)).names.filter λy=>y.2==.local||y.2==.cell)%(·.1)
def oK(q:Str×Nat×Nat):Ck.Def:=(q.1,q.1,wZ q,(wZ q).take q.2.2)
def oM(q:Str×Nat×Nat):Option (Str×Nat):=↑(q.1,q.2.2)
def eW:Ck.Def:=("doings","Pattern.doings",["self"],["self"])
def eX:Stmt:=inClass (top 8) 2
def sts:List Stmt:=inClass (top 8) 0::eX::eX::eX::eX::eX::(iE%oJ++eX::iF%oJ)
def Ds:List Ck.Def:=("__init__","Pattern.__init__",["self","kinds","doings","table"],["self","kinds","doings","table"])::eW::eW::eW::eW::eW::(iE%oK++eW::iF%oK)
def YF:Ck._Z:=(()::()::()::()::()::()::(iE%oM++()::iF%oM),[(),(),↑("Pattern",3)],[("doings",0)],["together","doing_ends","kind_count"],[("STAYING",-1),("MOST_KINDS",3),("MOST_DOINGS",5)])
def kM:List (Nat×Nat):=[(2,2)]
def QK:Ck.kL YF prog._C Ds sts=true:=by decide+kernel
def QL:Ck.hZ YF.Vy=true:=by decide+kernel
def QM:Ck.wU prog._C YF._C=true:=by decide+kernel
def QN:Ck.wV prog YF.cls=true:=by decide+kernel
def QO:Ck.wW prog YF kM=true:=by decide+kernel
open MW
def Mh(Y:List F)(k i:Nat):Bool:=match Y[i]? with|some f=>decide (f.a=k)|none=>false
def uy(Y:List F)(k:Nat):List D:=⇑(-1)::('r' (-Y)).filter (Mh Y k)%nD
def Ek(h:d∈uy Z k):d=⇑(-1)\/∃(i:Nat)(f:F),d=⇑i/\Z[i]?\f/\f.a=k:=by
 rcases dj<*h with q|q
 .exact .inl q
 .let(i,G,rfl):=bu<*q
  let(J,T):=jn<*G;let Y:=jg<*J;let e:Z[i]?=↑Z[i]:=by simp[Y]
  rw[Mh,e]at T;show .inr {2,i,Z[i],rfl,e,'s' T}
def QP(h:d∈uy Z k):∃i:Int,d=⇑i:=by rcases Ek h with rfl|⟨i,f,rfl,_⟩<;>show(_,rfl)
def Pr(Y:-Z<=5):-(uy Z k)<=6:=by let:=p8 (Mh Z k) ('r' (-Z));simp at this;simp[uy];show a_ this Y
def o7(K r:Nat)(Y:List F):D:=.WL [⇑K,Ko Y,↥r]
abbrev sP(K r:Nat)(hs:List F):Option D:=↑(o7 K r hs)
def Z4(K r:Nat)(Y:List F)(M:fc):Ax (o7 K r Y) ⇑0 M\⇑K:=rfl
def Rh(K r:Nat)(Y:List F)(M:fc):Ax (o7 K r Y) ⇑1 M\(Ko Y):=rfl
def wb(K r:Nat)(Y:List F)(M:fc):Ax (o7 K r Y) ⇑2 M\↥r:=rfl
def ZS.keep(h:ZS n r K U Z M)(k:xj M M'):ZS n r K U Z M':=(k _ _ h.1,k _ _ h.2)
def ZS.f2(h:ZS n r K U Z M):Wl ↥n 2 M\⇑K:=by simp[Wl,h.1,List.lookup]
def ZS.f1(h:ZS n r K Z U M):Wl ↥n 1 M\(Ko Z):=by simp[Wl,h.1,List.lookup]
def ZS.f0(h:ZS n r K U Z M):Wl ↥n 0 M\↥r:=by simp[Wl,h.1,List.lookup]
def QQ(Y:1<=m)(h:ZS n r K Z U M):prog.call m 2 [↥n] M=.ok (Ko Z) M:=by rw[WQ Y rfl];simp[Fn.XM,Dh,Ov,h.f1]
def Xn(T:1<=m)(J:-Z<=5){k:Nat}:prog.call m 18 [o7 K r Z,⇑k] M=.ok (.vl (uy Z k)) M:=by
 rw[WQ T rfl];let G:Nv.WD (PW (m-1)) [sP K r Z,sI k] M=.ok (.vl (('r' (-Z)).filter (Mh Z k)%nD)) M:=by
  unfold Nv;rw[Ma (n:=-Z) (M1:=M) (q:=Mh Z k) (g:=nD) (by simp[Rh,Qm]) (a_ J ⋯) (λi Y=>by
   let e:Z[i]?=↑Z[i]:=by simp[Y]
   show{1,_,rfl,?_,λ_=>?_}
   .simp[-eq_int,Rh,Vi e,eG,Eu,Mh,Y]
   .simp[nD])]
  simp
 let:=Uk (M:=M) [⇑(-1)] (('r' (-Z)).filter (Mh Z k)%nD) (by
  let:=p8 (Mh Z k) ('r' (-Z));simp at this⊢
  lia)
 simp[Fn.XM,Zf,Ze,G,this,uy]
def wc(Y:1<=m){k i:Nat}(T:Z[i]?\f):prog.call m 19 [o7 K r Z,⇑k,⇑i] M=.ok ⇑f.b M:=by
 rw[WQ Y rfl];let G:¬((i:Int)<0):='a'
 simp[Fn.XM,Qg,Qf,G,Rh,Vi T,W9]
def QR(Y:1<=m){k:Nat}:prog.call m 19 [o7 K r Z,⇑k,⇑(-1)] M=.ok ⇑k M:=by rw[WQ Y rfl];simp[Fn.XM,Qg,Qf]
def QS(B:1<=m)(J:M[U]?\(.dT jo))(N:-1<=x)(C:-1<=y)(Y:XC Z jo x y\v):prog.call m 20 [o7 K U Z,⇑x,⇑y] M=.ok v M:=by
 rw[WQ B rfl];unfold XC at Y
 by_cases T:x=-1
 .rw[dm T]at Y;cases Y
  subst T;let:(-1:Int)+y+1=y:='a'
  simp[Fn.XM,Jj,Ji,this]
 .rw[cz T]at Y
  let nx:¬x<0:='a'
  by_cases G:y=-1
  .rw[dm G]at Y;cases Y
   subst G;let:x+(-1:Int)+1=x:='a'
   simp[Fn.XM,Jj,Ji,nx,this]
  .rw[cz G]at Y
   let O:¬y<0:='a'
   simp[Fn.XM,Jj,Ji,nx,O,wb,fD J (fF x y),Y]
end aL
namespace MW
def Hc(T:it.WD W U M=.ok d M1)(O:gr M1 d\ds)(N:-ds<=100000)(h:∀x∈ds,∃Z,t.put x (U++'R' k ())\Z/\c.WD W Z M1=.ok (.bl (q x)) M1/\(q x=true->e.WD W Z M1=.ok (g x) M1)) :
 (Ex.Eo v k t (.val it) c e).WD W U M=if v then .ok (.vl (ds.filter q%g)) M1 else new (.WK (ds.filter q%g)) M1:=by
 rw[Ni,Mu,T];let(s,E,G):=Tn (g:=λx=>if q x then ↑(g x)else ()) (body:=λd M=>WR.wg (t.put d (U++'R' k ())) M*>λY M=>c.WD W Y M*>λb B =>
  match b with
   |.bl true=>e.WD W Y B*>λx J=>.ok ↑x J
   |.bl false=>.ok () B|_=>.WY) O N (λx P=>by
  let(Z,a,b,c):=h x P;rw[a,WR.Fq,WR.Di,b,WR.Di];cases e:q x with
  | true=>simp[c e]|false=>simp)
 let:ds.filterMap (λx=>if q x then ↑(g x)else ())=ds.filter q%g:=by
  clear G h N O
  induction ds with
  |nil=>rfl|cons a l L=>by_cases e:q a=true<;>simp[e,L]
 rw[this]at G;erw[WR.Di,E,WR.Fq];show rm (λr=>WR.bind r λds C=>if v=true then WR.ok (D.vl ds) C else new (MO.WK ds) C) G
end MW
namespace aL
open MW
def Ak(Y:List F)(k:Nat):D->Nat
 |⇑i=>if i=-1 then k else match Y[i.toNat]? with|some f=>f.b|none=>0
 |_=>0
def wT(Y:List F)(k g:Nat):List D:=(uy Y k).filter λd=>decide (Ak Y k d=g)
def Wa(h:d∈wT Z k g):d∈uy Z k/\Ak Z k d=g:=by let:=jn<*h;show(this.1,'s' this.2)
def Em{i:Nat}(h:Z[i]?\f):Ak Z k ⇑i=f.b:=by
 let:¬((i:Int)=-1):='a'
 simp[Ak,this,h]
def oN{i:Nat}(h:Z[i]?\f)(e:f.a=k):⇑i∈uy Z k:=by show bw _ (bu.mpr (i,jn.mpr (jg.mpr (ak<*h).1,?_),rfl));simp[Mh,h,e]
def oO{i:Nat}(h:Z[i]?\f)(e:f.a=k):⇑i∈wT Z k f.b:=
 jn.mpr (oN h e,by simp[Em h])
def QT(h:d∈wT Z k g):∃i:Int,d=⇑i:=QP (Wa h).1
def bv(T:List F)(Y:List (List Kx×D))(j:Nat):D->Int
 |⇑x=>match XC T Y x j with|some ⇑v=>v|_=>0
 |_=>0
def wd(P:Hz sz K Z U){j:Nat}(G:Z[j]?\f)(J:d∈wT Z k f.a) :
 ∃x:Int,d=⇑x/\-1<=x/\XC Z U x j\⇑(bv Z U j d)/\⇑(bv Z U j d)∈wT Z k f.b:=by
 let(N,Y):=Wa J;let L:¬((j:Int)=-1):='a'
 rcases Ek N with rfl|⟨i,g,rfl,hg,e⟩
 .let e:k=f.a:=by simpa[Ak]using Y
  let:XC Z U (-1) j\⇑j:=by simp[XC]
  show{1,-1,rfl,'a',by simp[bv,this],?_};erw[bv,this];show oO G e.symm
 .rw[Em hg]at Y
  let C:¬((i:Int)=-1):='a'
  let:XC Z U i j\⇑(YZ Z g f):=by rw[XC,cz C,cz L];show P.YD hg G Y
  show(i,rfl,'a',by simp[bv,this],?_);erw[bv,this];let mg:=az hg;let E:=az G;rw[Qn];rcases P.Hd (P.cl g mg f E Y)with⟨T,B⟩|⟨u,O,T⟩
  .rw[T]
   show jn.mpr (by simp[uy],?_);let:g.a=f.b:=B.1;simp[Ak,<-e,this]
  .rw[T]
   show oO (f:=g.WN f) O e
def bZ(v:Int)(Y:List D):Nat:=(Y.findIdx? λd=>match d with|⇑i=>decide (i=v)|_=>false).getD 0
theorem we(M:fc)(v:Int):∀Z:List D,(∀d∈Z,∃i:Int,d=⇑i)->Pz M ⇑v Z\(Z%λd=>match d with|⇑i=>decide (i=v)|_=>false)
 |[],_=>rfl
 |d::l,h=>by
  let(i,rfl):=h d 'b';simp[Pz,we M v l (λx Y=>h x (bw _ Y))]
theorem wh{Y:Type}(f:Y->Bool):∀l:List Y,(l%f).findIdx? id=l.findIdx? f
 |[]=>rfl|a::l=>by simp[List.findIdx?_cons,wh f l]
def wm(Y:∀d∈ds,∃i:Int,d=⇑i)(h:⇑v∈ds):Kg .index (.vl ds) [⇑v] M=.ok ⇑(bZ v ds) M:=by
 let e:b0 M ⇑v ds\(bZ v ds):=by
  rw[b0,we M v ds Y,uo,wh];unfold bZ;cases q:ds.findIdx? (λd=>match d with|⇑i=>decide (i=v)|_=>false)with
  |some j=>rfl
  |none =>
   rw[yu]at q;let:=q _ h;simp at this
 simp[Kg,cJ,e]
def QU(Y:1<=m)(T:d∈uy Z k):prog.call m 19 [o7 K r Z,⇑k,d] M=.ok ⇑(Ak Z k d) M:=by
 rcases Ek T with rfl|⟨i,f,rfl,hf,_⟩
 .rw[QR Y];simp[Ak]
 .rw[wc Y hf,Em hf]
def RS(p K:Nat)(Y:Nat->List D)(M:fc):Prop:=∀i,i<K->M[p+i]?\(.WK (Y i))
def ym(p K:Nat):List D:='r' K%λi=>.ref (p+i)
theorem RS.keep(h:RS p K rs M)(s:St t f M M')(Y:t<p):RS p K rs M':=λi T=>s.keep _ _ (i_ (b_ Y x_)) (h i T)
def kO(Y:i<K):Ax (.vl (ym p K)) ⇑i M\↥(p+i):=Et rfl q_ (by simp[ym,Y])
def wo(J:y=-ρ)(O:e.WD W ρ M=.ok ⇑K M)(G:K<=100000) :
 (Ex.WN true 1 (.name y) (.aK e) (.WK .nil)).WD W ρ M=.ok (.vl (ym (-M) K)) (M++'R' K (.WK [])):=by
 subst J;let(E,Y,g,N,C):=W6 (v:=true) (k:=1) (t:=.name (-ρ)) (e:=.WK .nil) O G (λi T Y=>T=ym (-M) i/\Y=M++'R' i (.WK [])) (rfl,'b')
  (λi T Y L B=>by
   let(rfl,rfl):=B;show{3,_,↥(-M+i),M++'R' i (MO.WK [])++[MO.WK []],rfl,by simp[MW.new],?_,?_}
   .simp[ym,tu]
   .simp[List.replicate_succ'])
 rw[g,N,C];rfl
def WW(Y:List F)(T:List (Nat×Nat))(e:Nat):List D:=T.flatMap λp=>wT Y p.2 e%λw=>.WL [⇑p.1,⇑p.2,w]
def Wb(Y:List F)(T:List (Nat×Nat))(p:Nat×Nat)(e:Nat):WW Y (T++[p]) e=WW Y T e++wT Y p.2 e%λw=>.WL [⇑p.1,⇑p.2,w]:=by simp[WW]
def Ur(P:Hz sz K Z U)(Y:k<K)(T:d∈uy Z k):Ak Z k d<K:=by
 rcases Ek T with rfl|⟨i,f,rfl,hf,_⟩
 .simpa[Ak]using Y
 .rw[Em hf];show P.bT f (az hf)
def QV{k:Nat}(T:1<=m)(G:-hs<=5)(B:ρ[1]?\(sP K r hs))(J:ρ[5]?\(sI k))(Y:-ρ=19) :
 Lr.WD (PW m) ρ M=.ok (.vl (uy hs k%λw=>.WL [⇑(Ak hs k w),w])) M:=by
 unfold Lr;rw[Eg (d:=.vl (uy hs k)) (ds:=uy hs k) (M1:=M) (g:=λw=>.WL [⇑(Ak hs k w),w]) (by simp[B,J,Xn T G]) rfl (gh (Pr G) ⋯) (λx E=>by
  show{1,_,rfl,?_};let O:(ρ++'R' 1 ()).set 19 ↑x=ρ++[↑x]:=by rw[List.set_append];simp[Y]
  rw[O];let C:(ρ++[↑x])[1]?\(sP K r hs):=by rw[gf (b_ ⋯ (g_ Y))];show B
  let N:(ρ++[↑x])[5]?\(sI k):=by rw[gf (b_ ⋯ (g_ Y))];show J
  let L:(ρ++[↑x])[19]?\↑x:=by rw[<-Y];simp
  simp[C,N,L,QU T E])]
 rfl
def aH(p:Nat)(M Y:fc):Prop:=∀(a:Nat)(o:MO),a<p->M[a]?\o->Y[a]?\o
def aH.refl(p:Nat)(M:fc):aH p M M:=λ_ _ _ h=>h
def aH.trans(a:aH p M Z)(b:aH p Z M2):aH p M M2:=λx o h e=>b x o h (a x o h e)
theorem aH.set(h:p<=q):aH p M (M.set q o):=λa u Y e=>by rw[jw (i_ (b_ Y h))];show e
def aO(n k:Nat)(w:D):D:=.WL [⇑n,⇑k,w]
def wt(n k:Nat)(w:D):D.WL [⇑n,⇑k,w]=aO n k w:=rfl
def cv(Y:List F)(T:Nat->List D)(n k j:Nat)(e:Nat):List D:=T e++(((uy Y k).take j).filter λw=>decide (Ak Y k w=e))%(aO n k)
def QW(Y:List F)(T:Nat->List D)(n k e:Nat):cv Y T n k (-uy Y k) e=T e++wT Y k e%(aO n k):=by unfold cv wT;rw[An]
def QX(Y:-Z<=5)(T:-(rs e)<=7):-(cv Z rs n k j e)<=13:=by
 let B:=p8 (λw=>decide (Ak Z k w=e)) ((uy Z k).take j);let G:=Pr (k:=k) Y;let J:-((uy Z k).take j)<=-(uy Z k):=by simp;lia
 erw[cv,m5,dh]
 lia
def iM{n:Nat}(P:Hz sz K Z jo)(H:k<K)(h:RS p K rs M)(V:∀e,e<K->-(rs e)<=7)(l:-rest=10) :
 ∃b7 b8 U,Lq.WD W ([a0,a1,a2,↑(.vl (ym p K)),sI n,sI k,↑(.vl (uy Z k%λw=>.WL [⇑(Ak Z k w),w])),fe,oP]++rest) M
  = .ok (.next,[a0,a1,a2,↑(.vl (ym p K)),sI n,sI k,↑(.vl (uy Z k%λw=>.WL [⇑(Ak Z k w),w])),b7,b8]++rest) U/\RS p K (λe=>rs e++wT Z k e%(aO n k)) U/\aH p M U/\-U=-M:=by
 symm
 let F:=P.len;let(A,U,e,(C,L,rfl),I,X,R):=Fv (S:=Lq) (W:=W) (d:=.vl (uy Z k%λw=>.WL [⇑(Ak Z k w),w])) (ds:=uy Z k%λw=>.WL [⇑(Ak Z k w),w]) rfl
  (ρ:=[a0,a1,a2,↑(.vl (ym p K)),sI n,sI k,↑(.vl (uy Z k%λw=>.WL [⇑(Ak Z k w),w])),fe,oP]++rest) (M:=M) (M1:=M) 'b' rfl
  (λj T U=>(∃b7 b8:Option D,T=[a0,a1,a2,↑(.vl (ym p K)),sI n,sI k,↑(.vl (uy Z k%λw=>.WL [⇑(Ak Z k w),w])),b7,b8]++rest)/\RS p K (cv Z rs n k j) U/\aH p M U/\-U=-M)
  ({2,fe,oP,rfl},λi Y=>by rw[h i Y];simp[cv],aH.refl _ _,rfl) (λ_ _ _ _=>rfl)
  (λj x T J y q=>by
   symm
   let((C,L,rfl),E,u,Q):=q;obtain⟨w,N,rfl⟩:∃w,(uy Z k)[j]?\w/\D.WL [.int (Ak Z k w),w]=x:='s' y
   let B:=az N;let G:=Ur P H B;let g:=E _ G;let ap:=Gm (d:=aO n k w) g (by let:=QX (n:=n) (k:=k) (j:=j) F (V _ G);show c_ this ⋯);left;show{4,_,.next,_,J.set (p+Ak Z k w) (.WK (cv Z rs n k j (Ak Z k w)++[aO n k w])),Pb _ _ _ _ _,?_,.inl rfl,{2,↑⇑(Ak Z k w),↑w,rfl},?_,u>>(aH.set x_),by simp[Q]}
   .change Lp.WD W (a0::a1::a2::↑(.vl (ym p K))::↑⇑n::↑⇑k::↑(.vl (uy Z k%λw=>.WL [⇑(Ak Z k w),w]))::↑⇑(Ak Z k w)::↑w::rest) J=_
    simp[Lp,kO G,Gg g,wt,ap]
   .intro i Y
    let O:(uy Z k).take (j+1)=(uy Z k).take j++[w]:=by rw[zr,N];rfl
    by_cases z:i=Ak Z k w
    .subst z
     rw[m6 g];simp[cv,O,List.filter_append]
    .rw[jw 'a',E i Y]
     simp[cv,O,List.filter_append,j4 z])
 left;show{3,C,L,U,e,λi Y=>?_,X,R};rw[I i Y];erw[dh];rw[QW]
structure Gs(t:Nat)(f:Bool)(p:Nat)(M M':fc):Prop where
 has:W7 t f M'
 low:∀(a:Nat)(o:MO),a<p->a≠t->M[a]?\o->M'[a]?\o
 len:-M<=-M'
def Gs.trans(a:Gs t f p M Z)(b:Gs t f p Z M2):Gs t f p M M2:=(b.has,λx o h n e=>b.low x o h n (a.low x o h n e),gh a.len b.len)
def Gs.iG(s:St t f M M1):Gs t f p M M1:=(s.has,λa o _ n e=>s.keep a o n e,s.len)
def aH.has(h:W7 t f M)(l:aH p M M1)(Y:t<p):W7 t f M1:=by let(n,e,o):=h;show{1,n,l _ _ Y e,o}
def Gs.wx(h:W7 t f M)(l:aH p M M1)(T:t<p)(Y:-M<=-M1):Gs t f p M M1:=(l.has h T,λa o x _ e=>l a o x e,Y)
def Gs.refl(h:W7 t f M):Gs t f p M M:=(h,λ_ _ _ _ e=>e,bz _)
def Gs.st(g:Gs t f (-M) M M1):St t f M M1:=(g.len,g.has,λa o n e=>g.low a o (wu e) n e)
def Gs.ZP(h:W7 t f M)(Y:p<=-M)(X:fc):Gs t f p M (M++X):=(by let(n,e,o):=h;show{1,n,Af e,o},λa o _ _ e=>Af e,'b')
def QY(T:-ρ=y)(B:ρ[3]?\↑(.vl (ym p K)))(h:RS p K rs M)(G:K<=3) :
 (Ex.WN true 1 (.name y) (.val (.v 3)) (.YC .len (.o (.ZD y)))).WD W ρ M=.ok (.vl (('r' K%λi=>-(rs i))%nD)) M:=by
 subst T;rw[Eg (d:=.vl (ym p K)) (ds:=ym p K) (M1:=M) (g:=λd=>match qu .len [d] M with|.ok x _=>x|_=>.XQ) (by simp[B]) rfl (by simp[ym];show a_ G ⋯) (λd J=>by
  symm
  let(i,Y,rfl):=bu<*J;left;show{1,_,rfl,?_};simp[Y_ (ju (h i (jg<*Y)))])]
 erw[my,ym,q9]
 congr 2
 apply qg;intro i Y;simp[Y_ (ju (h i (jg<*Y))),nD]
inductive cE(hs:List F)(K:Nat):List (Nat×Nat)->Prop
 |nil:cE hs K []
 |snoc:cE hs K ad->k<K->(∀e,e<K->-(WW hs ad e)+-uy hs k<=7)->cE hs K (ad++[(n,k)])
structure Rw(hs:List F)(K p:Nat)(ad:List (Nat×Nat))(M:fc):Prop where
 rs:RS p K (WW hs ad) M
 kd:∀q∈ad,q.2<K
 le:∀e,e<K->-(WW hs ad e)<=7
 nd:(ad%(·.1)).Nodup
 ap:cE hs K ad
def QZ(g:1<=m)(P:Hz sz K Z jo)(hh:W7 t f M)(I:t<p)(h:Rw Z K p ad M)(S:∀q∈ad,q.1<n)(E:-rest=10) :
 ∃c5 c6 c7 U qq M',Hn.WD (PW m) ([sR t,sP K r Z,sI 3,↑(.vl (ym p K)),sI n,b5,b6,b7,b8]++rest) M
  = .ok (.next,[sR t,sP K r Z,sI 3,↑(.vl (ym p K)),sI n,c5,c6,c7,U]++rest) M'/\Rw Z K p qq M'/\(∀q∈qq,q.1<n+1)/\Gs t f p M M'/\-M'=-M:=by
 symm
 let d:=P.len;let A:=P.k3;let(k,M1,Q,F,J,u):=Dj (many:=K) g hh (by let:=P.k1;show m_ this) (m_ (c_ A ⋯));let C:k<K:=o_ F
 let R:=h.rs.keep J I;let G:=QV (M:=M1) (r:=r) (K:=K) (hs:=Z) (ρ:=[sR t,sP K r Z,sI 3,↑(.vl (ym p K)),sI n,sI k,b6,b7,b8]++rest) (k:=k) g d rfl rfl (by simp[E]);let U:=QY (W:=PW m) (M:=M1) (ρ:=[sR t,sP K r Z,sI 3,↑(.vl (ym p K)),sI n,sI k,↑(.vl (uy Z k%λw=>.WL [⇑(Ak Z k w),w])),b7,b8]++rest) (y:=19) (by simp[E]) rfl R A;let(v,B,V,v2):=ri (M:=M1) (xs:='r' K%λi=>-(WW Z ad i)) (by let:=P.k1;intro z;let:=rm List.length z;simp at this;show l_ (o_ F) (a_ (f_ this) (iw _)));generalize hL:(D.vl (('r' K%λi=>-(WW Z ad i))%nD))=L at B U;let Y:qu .len [.vl (uy Z k%λw=>D.WL [⇑(Ak Z k w),w])] M1=.ok ⇑(-uy Z k) M1:=by simp[qu,Yg]
 left
 by_cases q:v+-uy Z k<8
 .symm
  let O:(v:Int)+(-uy Z k:Int)<8:='a'
  let(x,d8,o,X,r2,lo,H):=iM (W:=PW m) (M:=M1) P (n:=n) C R h.le (a0:=↑↥t) (a1:=↑(o7 K r Z)) (a2:=↑⇑3) (fe:=b7) (oP:=b8) (rest:=rest) E;left;show{6,↑⇑k,↑(.vl (uy Z k%λw=>D.WL [⇑(Ak Z k w),w])),x,d8,ad++[(n,k)],o,?_,(λi l=>?_,λq T=>?_,λe N=>?_,?_,.snoc h.ap C λe N=>?_),λq T=>?_,Gs.iG J>>(Gs.wx J.has lo I (g_ H)),H>>u}
  .erw[zc,yp]at G U X⊢
   simp[Hn,Z4,Q,G,Ln,U,B,Y,O,X]
  .rw[r2 i l,Wb];rfl
  .rcases dz.mp T with z|z
   .exact h.kd q z
   .let:q=(n,k):='s' z
    rw[this];show C
  .rw[Wb,m5,dh]
   let j:=V (-WW Z ad e) (bu.mpr (e,jg.mpr N,rfl));let c:-(wT Z k e)<=-(uy Z k):=p8 _ _
   simp only
   lia
  .rw[jc]
   show Bg.mpr (h.nd,'b',λa s b hb=>?_);symm
   let(q,T,rfl):=bu<*s;let:b=n:='s' hb
   let:=S q T;left
   lia
  .let j:=V (-WW Z ad e) (bu.mpr (e,jg.mpr N,rfl))
   lia
  .rcases dz.mp T with z|z
   .let:=S q z;show A_ (e_ this)
   .let:q=(n,k):='s' z
    rw[this];show mz n
 .let O:¬(v:Int)+(-uy Z k:Int)<8:='a'
  show{6,↑⇑k,↑(.vl (uy Z k%λw=>D.WL [⇑(Ak Z k w),w])),b7,b8,ad,M1,?_,(R,h.kd,h.le,h.nd,h.ap),λq T=>by let:=S q T;show A_ (e_ this),Gs.iG J,u};erw[zc,yp]at G U⊢;simp[Hn,Z4,Q,G,Ln,U,B,Y,O]
theorem w4{M:fc}{x:D}:∀{T:List D},(∀y∈T,∃b,Bb M y x\b)->∃bs:List Bool,Pz M x T\bs/\-bs=-T/\∀(i:Nat)(y:D),T[i]?\y->(bs[i]?%some)\(Bb M y x)
 |[],_=>{1,[],rfl,rfl,λi y h=>by simp at h}
 |y::l,h=>by
  let(b,G):=h y 'b';let(bs,O,J,B):=w4 (λz Y=>h z (bw _ Y));show{1,b::bs,by simp[Pz,G,O],by simp[J],λi z Y=>?_};cases i with
  |zero=>simp at Y;subst Y;simp[G]|succ i=>simpa using B i z ('s' Y)
def Q_(h:∀y∈ds,∃b,Bb M y x\b)(Q:x∈ds)(P:Bb M x x\true):∃j y,b0 M x ds\j/\ds[j]?\y/\Bb M y x\true:=by
 let(bs,S,G,B):=w4 h;let(i,E,L):=m9 Q;let O:=B i x (by simp[E,L]);rw[P]at O;let(b,C,N):=dg<*O;cases N;rw[b0,S,uo];cases q:bs.findIdx? id with
 |some j =>
  let(Y,R,_):=uz<*q;let J:ds[j]?\(ds[j]'(b_ Y (f_ G))):=bh (b_ Y (f_ G));let T:=B j _ J;rw[bh Y]at T;erw[xq,Bj]at T;show{2,j,_,rfl,J,by rw[<-T];simpa using R}
 |none =>
  rw[yu]at q;let:=q true (az C);simp at this
def Qb(Y:M[p]?\(.WK ds))(h:∀y∈ds,∃b,Bb M y x\b)(O:x∈ds)(G:Bb M x x\true):∃(j:Nat)(y:D),Kg .index ↥p [x] M=.ok ⇑j M/\ds[j]?\y/\Bb M y x\true:=by let(j,y,B,T,J):=Q_ h O G;show{2,j,y,by simp[Kg,cJ,ju Y,B],T,J}
def Qr(Y:M[p]?\(.WK ds)):Oo .index ↥p M=true:=by simp[Oo,ju Y]
def oQ(M:fc)(n k G Y:Nat)(a T:Int):Bb M (aO n k ⇑a) (aO G Y ⇑T)\(decide (n=G)&&(decide (k=Y)&&(decide (a=T)&&true))):=by change U0 (Mm M 5) [⇑n,⇑k,⇑a] [⇑G,⇑Y,⇑T]=_;rw[Fy (Qj M 4 n G) (Fy (Qj M 4 k Y) (Fy (Wo 4 a T) (show U0 (Mm M 5) [] []\true from rfl)))]
def Jg(h:d∈WW Z ad e):∃(n k:Nat)(x:Int),(n,k)∈ad/\⇑x∈wT Z k e/\d=aO n k ⇑x:=by let(q,T,G):=Cd<*h;let(w,Y,rfl):=bu<*G;let(x,rfl):=QT Y;show{3,q.1,q.2,x,T,Y,rfl}
def Q1(h:(n,k)∈ad)(Y:w∈wT Z k e):aO n k w∈WW Z ad e:=
 Cd.mpr {1,(n,k),h,bu.mpr {1,w,Y,rfl}}
structure Ae(hs:List F)(jo:List (List Kx×D))(ad:List (Nat×Nat))(j:Nat)(g:F)(js:Y2):Prop where
 len:-js=-WW hs ad g.a
 go:∀(i n k:Nat)(x:Int),(WW hs ad g.a)[i]?\(aO n k ⇑x)->(WW hs ad g.b)[js.getD i 0]?\(aO n k ⇑(bv hs jo j ⇑x))
def Q2(h:i< -l):(l++[x]).getD i 0=l.getD i 0:=by rw[bx,gf h,bx]
def Ae.lt(h:Ae Z jo ad j g U):∀x∈U,x< -WW Z ad g.b:=λx G=>by
 let(i,T,rfl):=m9 G;let Y:i< -WW Z ad g.a:=by rw[<-h.len];show T
 let(n,k,y,_,_,e):=Jg (j9 Y);let:=h.go i n k y (by rw[bh Y,e]);rw[bx,bh T]at this;show(ak<*this).1
def RA(hm:1<=m)(P:Hz sz K Z U)(hr:M[r]?\(.dT U)){j:Nat}(h:Rw Z K p ad M)(H:Z[j]?\g)(E:-rest=6) :
 ∃js:List Nat,Li.WD (PW m) ([a0,sP K r Z,a2,↑(.vl (ym p K)),a4,a5,a6,a7,a8,a9,sI j,sI g.a,sI g.b]++rest) M=.ok (.vl (js%nD)) M /\
  Ae Z U ad j g js:=by
 let V:=az H;let R:=P.Z9 g V;let hb:=P.bT g V;let I:=h.rs _ R;let gb:=h.rs _ hb;unfold Li;let(ys,G,e,L):=Oc (W:=PW m) (v:=true) (k:=3) (t:=.names [19,20,21]) (it:=.ix (.v 3) (.v 11)) (e:=.bm .index (.ix (.v 3) (.v 12)) (.o (.WL (.q (.v 19) (.v 20) (.call 20 (.q (.v 1) (.v 21) (.v 10)))))))
  (ρ:=[a0,sP K r Z,a2,↑(.vl (ym p K)),a4,a5,a6,a7,a8,a9,sI j,sI g.a,sI g.b]++rest) (M:=M) (M1:=M) (d:=↥(p+g.a)) (ds:=WW Z ad g.a) (by simp[kO R]) (ju I) (by let:=h.le _ R;show a_ this ⋯)
  (λi C G=>G=M/\∃js:List Nat,C=js%nD/\-js=i/\∀(T n k:Nat)(x:Int),T<i->(WW Z ad g.a)[T]?\(aO n k ⇑x)->(WW Z ad g.b)[js.getD T 0]?\(aO n k ⇑(bv Z U j ⇑x))) (rfl,[],rfl,rfl,'b') (λi C G h=>by rw[h.1];show ju I)
  (λi y C G B L=>by
   let(rfl,js,rfl,J,S):=L;let(n,k,x,h1,h2,rfl):=Jg (az B);let(F,z,hx,hv,O):=wd P H h2;cases z;let(jj,yy,e1,Q,N):=Qb (x:=aO n k ⇑(bv Z U j ⇑x)) gb (λy B=>by let(A,X,qq,_,_,rfl):=Jg B;show(_,oQ _ _ _ _ _ _ _)) (Q1 h1 O) (by rw[oQ];simp);show{3,_,⇑jj,G,rfl,?_,rfl,(js++[jj],by simp[nD],by simp[J],λT A X F Zb Y=>?_)}
   .let hl:-rest=6:=E
    match rest,hl with
    |[r0,r1,r2,r3,r4,r5],_ =>
     change(Ex.bm .index (.ix (.v 3) (.v 12)) (.o (.WL (.q (.v 19) (.v 20) (.call 20 (.q (.v 1) (.v 21) (.v 10))))))).WD _ [a0,sP K r Z,a2,D.vl (ym p K),a4,a5,a6,a7,a8,a9,sI j,sI g.a,sI g.b,r0,r1,r2,r3,r4,r5,sI n,sI k,sI x] G=_;simp[kO hb,Qr gb,QS hm hr hx (show(-1:Int)<=j by lia) hv,wt,e1]
   .by_cases z:T<i
    .rw[Q2 (b_ z (g_ J))];show S T A X F z Y
    .let z:T=i:=u_ (z_ Zb) (s_ z)
     subst z;rw[B]at Y;erw[aO,Bj,D.WL.injEq,Ej,D.int.injEq,Bc,and_true]at Y;let(rfl,rfl,rfl):=Y;let ej:(js++[jj]).getD T 0=jj:=by rw[<-J];simp[bx]
     rw[ej,Q];let(n3,k3,x3,_,_,rfl):=Jg (az Q);rw[oQ]at N;erw[Bj,bf,f9,and_true]at N;let(rfl,rfl,rfl):=N;rfl)
 let(rfl,js,rfl,J,S):=L;show{1,js,by rw[e];rfl,(J,λi n k x h=>S i n k x (ak<*h).1 h)}
def up(T:Nat->List Nat)(i:Nat)(Y:Y2):Nat->List Nat:=λe=>if e=i then Y else T e
def Mf(Y T:Nat)(l:Y2):List Nat:=l%λo=>if o=T then Y else o
theorem xA{Y T:Nat}(h:Y<T):∀l:List Nat,(Mf Y T l).sum<=l.sum
 |[]=>bz _
 |a::l=>by
  let:=xA h l;erw[Mf,gm,w6]at this⊢;split<;>omega
theorem xB{T Y:Nat}(h:T<Y):∀{l:Y2},Y∈l->(Mf T Y l).sum<l.sum
 |a::l,hm=>by
  let G:=xA h l;erw[Mf,gm,w6]at G⊢
  by_cases z:a=Y
  .rw[dm z];show b_ (G_ h) (a_ (v_ (g_ z)) (w_ G))
  .let:=xB h (show Y∈l from by simpa[j4 z]using hm)
   erw[Mf]at this;rw[cz z];show H_ this
def _L(K:Nat)(Y:Nat->List Nat):Nat:=('r' K%λi=>(Y i).sum).sum
theorem xC{Y:Nat->List Nat}{b:Nat}{ns:Y2}(h:ns.sum<(Y b).sum):∀K,_L K (up Y b ns)<=_L K Y/\(b<K->_L K (up Y b ns)<_L K Y)
 |0=>(bz _,λz=>absurd z (vz _))
 |K+1=>by
  let(T,G):=xC h K;erw[_L,tu,jc,List.sum_append,gm,Ep,w6,List.sum_nil]at T G⊢
  by_cases z:K=b
  .subst z
   let e:up Y K ns K=ns:=by simp[up]
   rw[e];constructor
   .exact e_ (c_ (v_ T) (H_ (G_ h)))
   .intro _;show c_ (v_ T) (H_ (G_ h))
  .let e:up Y b ns K=Y K:=by simp[up,z]
   rw[e];constructor
   .exact v_ T
   .intro q;let:=G 'a';show G_ this
structure Mk(t pm K:Nat)(L:Nat->Nat)(ms:Nat->List Nat)(M:fc):Prop where
 ex:∃oR:List D,M[pm]?\(.WK oR)/\-oR=K/\∀i,i<K->∃d,oR[i]?\d/\gr M d\(ms i%nD)/\∀a,d=↥a->t<a/\a<pm
 len:∀i,i<K->-(ms i)=L i
 lt:∀i,i<K->∀x∈ms i,x<L i
 fx:∀i,i<K->∀x∈ms i,(ms i).getD x 0=x
def xD(h:gr M d\ds)(k:∀a o,d=↥a->M[a]?\o->Z[a]?\o):gr Z d\ds:=by
 cases d with
 |ref a =>
  erw[gr]at h⊢;cases e:M[a]? with
  |none=>rw[e]at h;cases h|some o=>rw[e]at h;rw[k a o rfl e];show h
 |vl Y=>show h|_=>cases h
def Mk.frame(h:Mk t pm K L Z M)(k:∀(a:Nat) (o:MO),t<a->a<=pm->M[a]?\o->M'[a]?\o)(O:t<pm):Mk t pm K L Z M':=by let(Y,E,B,N):=h.ex;show({1,Y,k _ _ O (bz _) E,B,λi J=>?_},h.len,h.lt,h.fx);let(d,G,C,T):=N i J;show{1,d,G,xD C λa o e q=>k a o (T a e).1 (Aj (T a e).2) q,T}
def Mk.row(h:Mk t pm K L Z M)(G:i<K):∃d,Ax ↥pm ⇑i M\d/\gr M d\(Z i%nD):=by let(T,O,C,B):=h.ex;let(d,Y,J,_):=B i G;show(d,Et (ju O) q_ ('s' Y),J)
def Wc{l:Y2}(h:gr M d\(l%nD))(Y:x< -l):Ax d ⇑x M\⇑(l.getD x 0):=
 Et h q_ (by simp[Y,nD])
def XH{l:Y2}(Y:x< -l):l.getD x 0∈l:=by rw[bx,bh Y];show j9 Y
set_option tactic.hygienic true in
theorem Mk.set(h:Mk t pm K L Z M)(R:i<K)(V:-ns=L i)(Q:∀x∈ns,x<L i)(W:∀x∈ns,ns.getD x 0=x)(F:t<pm) :
 ∃o,Z2 ↥pm ⇑i (.vl (ns%nD)) M\(M.set pm o)/\Mk t pm K L (up Z i ns) (M.set pm o):=by
 let(O,E,N,H):=h.ex;show{1,.WK (O.set i (.vl (ns%nD))),?_,({1,O.set i (.vl (ns%nD)),m6 E,by simp[N],λe B=>?_},λe B=>?_,λe B x T=>?_,λe B x T=>?_)}
 .let:=lG (d:=.vl (ns%nD)) (i:=i) E q_ (m_ (b_ R (g_ N)))
  simpa using this
 .by_cases z:e=i
  .subst z
   show{1,.vl (ns%nD),by simp[N,B],by simp[up],λa q=>by cases q}
  .let(d,P,k2,k3):=H e B
   show{1,d,by rw[ye (j4 z)];show P,?_,k3};let:up Z i ns e=Z e:=by simp[up,z]
   rw[this];show xD k2 λa o q w=>by rw[jw (by let:=(k3 a q).2;show i_ this)];show w
 .unfold up;split
  .rename_i z;rw[z];show V
  .exact h.len e B
 .unfold up at T;split at T
  .rename_i z;rw[z];show Q x T
  .exact h.lt e B x T
 .unfold up at T⊢;split at T
  .rename_i z;rw[dm z];show W x T
  .rename_i z;rw[cz z];show h.fx e B x T
def getD_map{α:Type}{l:Y2}{f:Nat->Nat}{x:Nat}(h:x< -l):(l%f).getD x 0=f (l.getD x 0):=by simp[bx,ie,bh h]
protected def xE(O:∀x∈l,l.getD x 0=x)(lt:∀x∈l,x< -l)(T:lo∈l):∀x∈Mf lo Z l,(Mf lo Z l).getD x 0=x:=λx N=>by
 let(o,L,e):=bu<*N;let B:x∈l:=by
  split at e
  .rw[<-e];show T
  .rw[<-e];show L
 unfold Mf;rw[getD_map (α:=Nat) (lt x B),O x B]
 by_cases z:x=Z
 .rw[dm z]
  split at e
  .exact e
  .rename_i w;show absurd (e>>z) w
 .rw[cz z]
def Cg(Y:Nat->List Nat)(g:F)(T:Y2):Prop:=∀x y,x< -T->y< -T->(Y g.a).getD x 0=(Y g.a).getD y 0->(Y g.b).getD (T.getD x 0) 0=(Y g.b).getD (T.getD y 0) 0
structure Ac(q:Nat)(hs:List F)(L:Nat->Nat)(as:List (List Nat))(M:fc):Prop where
 at_:M[q]?\(.WK (as%λjs=>.vl (js%nD)))
 len:-as=-hs
 ok:∀(j:Nat)(g:F)(js:Y2),hs[j]?\g->as[j]?\js->-js=L g.a/\∀x∈js,x<L g.b
def Ac.get(h:Ac q U L as M){j:Nat}(T:U[j]?\g):∃Z,as[j]?\Z/\Ax ↥q ⇑j M\(.vl (Z%nD))/\-Z=L g.a/\∀x∈Z,x<L g.b:=by
 let G:=(ak<*T).1;let Y:j< -as:=by rw[h.len];show G
 let e:as[j]?=↑as[j]:=bh Y;show{1,_,e,Et (ju h.at_) q_ (by simp[e]),h.ok j g _ T e}
def RB(h:M[n]?\(.dK Z)):Kg .get ↥n [⇑k,d] M=.ok ((Am Z (.inl k)).getD d) M:=by simp[Kg,gG,cJ,h]
def RC(h:M[n]?\(.dK Z)):Oo .get ↥n M=true:=by simp[Oo,gr,h]
def xF(h:M[n]?\(.dK Z))(Y:-Z<100000):Z2 ↥n ⇑k d M\(M.set n (.dK (Fw Z (.inl k) d))):=by simp[Z2,h,Y]
def RD[DecidableEq Z]{Y:List (Z×D)}(h:Am Y k\v):∃p∈Y,p.2=v:=by unfold Am at h;let(p,T,G):=dg<*h;show(p,List.mem_of_find?_eq_some T,G)
def RE[DecidableEq Z]{T:List (Z×D)}(h:p∈Fw T k v):p∈T\/p.2=v:=by
 unfold Fw at h;split at h
 .let(q,G,Y):=bu<*h
  split at Y
  .rw[<-Y];show .inr rfl
  .rw[<-Y];show .inl G
 .rcases dz.mp h with z|z
  .exact .inl z
  .let:p=(k,v):='s' z
   rw[this];show .inr rfl
def Pu[DecidableEq Z](p:Z×D)(r:List (Z×D))(k:Z):Am (p::r) k=if p.1=k then ↑p.2 else Am r k:=by
 unfold Am
 by_cases h:p.1=k
 .simp[vq,h]
 .simp[vq,h]
theorem oS{T:Type}[DecidableEq T]{k k':T}{v:D}:∀{Y:List (T×D)},(∃p∈Y,p.1=k)->Am (Y%λp=>if p.1=k then(p.1,v)else p) k'=if k'=k then ↑v else Am Y k'
 |p::r,h=>by
  rw[gm,Pu,Pu]
  by_cases a:p.1=k
  .rw[dm a]
   by_cases b:k'=k
   .simp[a,b]
   .let c:¬p.1=k':=λz=>b (z.symm>>a)
    rw[cz c,cz b,cz c]
    by_cases d:∃p∈r,p.1=k
    .rw[oS d,cz b]
    .congr 1
     conv=>rhs;rw[<-List.map_id r]
     apply qg;intro q B;rw[cz λz=>d (q,B,z)];rfl
  .rw[cz a]
   let d:∃p∈r,p.1=k:=by
    let(q,G,J):=h;rcases dj<*G with rfl|G
    .exact absurd J a
    .exact(q,G,J)
   rw[oS d]
   by_cases b:k'=k
   .let c:¬p.1=k':=λz=>a (z>>b)
    rw[cz c];simp[b]
   .simp[b]
theorem xG{T:Type}[DecidableEq T]{k k':T}{v:D}:∀{Y:List (T×D)},(∀p∈Y,p.1≠k)->Am (Y++[(k,v)]) k'=if k'=k then ↑v else Am Y k'
 |[],_=>by
  rw[yp,Pu]
  by_cases b:k'=k
  .simp[b]
  .simp[b,j4 b]
 |p::r,h=>by
  rw[zc,Pu,Pu,xG (λq G=>h q (bw _ G))];let a:=h p 'b'
  by_cases b:k'=k
  .let c:¬p.1=k':=λz=>a (z>>b)
   rw[cz c];simp[b]
  .simp[b]
def Xp[DecidableEq Z](Y:List (Z×D))(k k':Z)(v:D):Am (Fw Y k v) k'=if k'=k then ↑v else Am Y k':=by
 unfold Fw
 by_cases h:(Y.any λp=>decide (p.1=k))=true
 .rw[dm h]
  show oS ('s' h)
 .rw[cz h]
  show xG (λp T z=>h (Bx.mpr (p,T,'s' z)))
def oT[DecidableEq Z](Y:List (Z×D))(k:Z)(v:D):-(Fw Y k v)<=-Y+1:=by unfold Fw;split<;>simp
def kP(M:fc)(a b:Nat):Bb M ⇑a ⇑b\(decide (a=b)):=Eu M a b
def Fm(Y n:Nat)(M T:fc):Prop:=∀(a:Nat)(o:MO),a≠Y->a<n->M[a]?\o->T[a]?\o
def xH(M:fc)(a b:Nat):qu .min [⇑a,⇑b] M=.ok ⇑(min a b:Nat) M:=by
 change WR.ok (D.int (if(b:Int)<(a:Int)then(b:Int)else(a:Int))) M=_
 by_cases h:b<a
 .rw[dm (m_ h),Nat.min_eq_right (e_ h)]
 .rw[cz 'a',Nat.min_eq_left (s_ h)]
def oU(M:fc)(a b:Nat):qu .max [⇑a,⇑b] M=.ok ⇑(max a b:Nat) M:=by
 change WR.ok (D.int (if(a:Int)<(b:Int)then(b:Int)else(a:Int))) M=_
 by_cases h:a<b
 .rw[dm (m_ h),Nat.max_eq_right (e_ h)]
 .rw[cz 'a',Nat.max_eq_left (s_ h)]
def xI{lo hi:Nat}(P:(Ex.ix (.ZD v) (.ZD x)).WD W ρ M=.ok d M)(N:gr M d\(l%nD))(E:-l<=100000)(C:y=-ρ)(B:ρ[a]?\(sI lo))(G:ρ[b]?\(sI hi)) :
 (Ex.WN true 1 (.name y) (.val (.ix (.ZD v) (.ZD x))) (.ite (.XX .eq (.ZD y) (.ZD b)) (.ZD a) (.ZD y))).WD W ρ M=.ok (.vl (Mf lo hi l%nD)) M:=by
 subst C;let S:=(ak<*B).1;let R:=(ak<*G).1;rw[Eg (d:=d) (ds:=l%nD) (M1:=M) (g:=λd=>match d with|⇑o=>nD (if o.toNat=hi then lo else o.toNat)|_=>.XQ) P N ('s' E) (λz L=>by
  let(o,Q,rfl):=bu<*L;show{1,_,rfl,?_};let O:(ρ++'R' 1 ()).set (-ρ) ↑(nD o)=ρ++[sI o]:=by rw[List.set_append];simp[nD]
  let Y:(ρ++[↑(D.int o)])[a]?\(sI lo):=by rw[gf S];show B
  let T:(ρ++[↑(D.int o)])[b]?\(sI hi):=by rw[gf R];show G
  let J:(ρ++[↑(D.int o)])[ρ.length]?\(sI o):='b'
  rw[O]
  by_cases z:o=hi
  .subst z;simp[-eq_int,Y,T,J,kP,nD]
  .simp[-eq_int,Y,T,J,kP,z,nD])]
 simp[Mf,nD]
def RF{lo hi:Nat}(C:(Ex.ix (.v 1) (.ZD x)).WD W ρ M=.ok d M)(T:gr M d\(l%nD))(B:-l<=100000)(Y:y=-ρ)(G:12<y)(O:ρ[11]?\(sI lo))(J:ρ[12]?\(sI hi)) :
 (Ex.WN true 1 (.name y) (.val (.ix (.v 1) (.ZD x))) (.ite (.XX .eq (.ZD y) (.v 12)) (.v 11) (.ZD y))).WD W ρ M=.ok (.vl (Mf lo hi l%nD)) M:=xI C T B Y O J
structure Fd(dd:Nat)(a b js:Y2)(n:Nat)(M:fc):Prop where
 ex:∃kv:List (Kx×D),M[dd]?\(.dK kv)/\-kv<=n/\(∀p∈kv,∃e:Nat,p.2=⇑e/\e∈b)/\∀i,i<n->Am kv (.inl ((a.getD i 0:Nat):Int))\⇑((b.getD (js.getD i 0) 0:Nat):Int)
def RG{j:Nat}(mk:Mk t pm K L U M)(ac:Ac q hs L as M)(hj:hs[j]?\g)(V:g.a<K)(T:g.b<K)(hd:M[dd]?\(.dK []))(q8:pm<dd)(q5:q<dd)(zz:q≠pm)(ht:t<pm)(hL:∀e,e<K->L e<=7) :
 ∃qk Z,Jx.WD W [sP K r hs,sR pm,sR q,b3,sI j,sI g.a,sI g.b,sR dd,b8,b9,b10,Nj,Xq] M=.ok (.next,qk) Z /\
  ∃c3 c7 c8 c9 qq q0 qv,qk=[sP K r hs,sR pm,sR q,c3,sI j,sI g.a,sI g.b,c7,c8,c9,qq,q0,qv]/\Fm pm dd M Z/\-M<=-Z /\
   ((c3=b3/\Mk t pm K L U Z/\∀js,as[j]?\js->Cg U g js)\/(c3\(.bl true)/\∃Ri,Mk t pm K L Ri Z/\_L K Ri<_L K U)):=by
 let(js,ej,_,lj,rj):=ac.get hj;let(da,fa,la):=mk.row V;let q3:=mk.len _ V;let q2:=hL _ V;show CF (S:=Jx) (W:=W) (n:=L g.a) (M1:=M) rfl ?_ (a_ q2 ⋯)
  (λi ρ Z=>(∃b8 b9 b10,ρ=[sP K r hs,sR pm,sR q,b3,sI j,sI g.a,sI g.b,sR dd,b8,b9,b10,Nj,Xq])/\Mk t pm K L U Z/\Fd dd (U g.a) (U g.b) js i Z/\aH dd M Z/\-Z=-M)
  (λqk Z=>∃c3 c7 c8 c9 qq q0 qv,qk=[sP K r hs,sR pm,sR q,c3,sI j,sI g.a,sI g.b,c7,c8,c9,qq,q0,qv]/\Fm pm dd M Z/\-M<=-Z /\
   ((c3=b3/\Mk t pm K L U Z/\∀js,as[j]?\js->Cg U g js)\/(c3\(.bl true)/\∃Ri,Mk t pm K L Ri Z/\_L K Ri<_L K U)))
  ({3,b8,b9,b10,rfl},mk,([],hd,bz _,'b','b'),aH.refl _ _,rfl) (fun ρ Z h=>?_) (λi ρ M1 F hI=>?_)
 .let e:=Y_ la
  erw[dh,q3]at e;simp[fa,e]
 .symm
  let((c8,c9,qq,rfl),Y,(kv,_,_,_,P),A,h4):=h;left;show{7,b3,_,c8,c9,qq,Nj,Xq,rfl,λa o _ x e=>A a o x e,g_ h4,.inl (rfl,Y,λq7 e' x y hx O q4=>?_)};rw[ej]at e';cases e';let E:=P x (b_ hx (f_ lj));let g2:=P y (b_ O (f_ lj));rw[q4,g2]at E;erw[Bj,D.int.injEq]at E;show(Bc<*E).symm
 .symm
  let((c8,c9,qq,rfl),Y,(kv,X,k2,k3,P),A,h4):=hI;let(da,fa,la):=Y.row V;let(db,fb,lb):=Y.row T;let zq:Ac q hs L as M1:=(A _ _ q5 ac.at_,ac.len,ac.ok);let(q7,Q,fj,_,_):=zq.get hj;rw[ej]at Q;cases Q;let J:=Wc la (show i< -U g.a by rw[q3];show F);let B:Ax (.vl (js%nD)) ⇑i M1\⇑(js.getD i 0):=Wc rfl (b_ F (g_ lj));left;let O:js.getD i 0< -U g.b:=by rw[Y.len _ T];show rj _ (XH (b_ F (g_ lj)))
  generalize xJ:js.getD i 0=y at B O;let C:=Wc lb O;let hz:=XH O;generalize hx0:(U g.a).getD i 0=x at J;generalize hz0:(U g.b).getD y 0=z at C hz;let gt:=RB (k:=(x:Int)) (d:=⇑z) X;let ty:=RC X;let G:((Am kv (.inl (x:Int))).getD ⇑z=⇑z)->∃R fl qk Z,(Tg.name 8).put ⇑i [sP K r hs,sR pm,sR q,b3,sI j,sI g.a,sI g.b,sR dd,c8,c9,qq,Nj,Xq]\R/\Hb.WD W R M1=.ok (fl,qk) Z /\
   (((fl=.next\/fl=.cont)/\(∃b8 b9 b10,qk=[sP K r hs,sR pm,sR q,b3,sI j,sI g.a,sI g.b,sR dd,b8,b9,b10,Nj,Xq])/\Mk t pm K L U Z/\Fd dd (U g.a) (U g.b) js (i+1) Z/\aH dd M Z/\-Z=-M) \/
     (fl=.brk/\∃c3 c7 c8 c9 qq q0 qv,qk=[sP K r hs,sR pm,sR q,c3,sI j,sI g.a,sI g.b,c7,c8,c9,qq,q0,qv]/\Fm pm dd M Z/\-M<=-Z /\
      ((c3=b3/\Mk t pm K L U Z/\∀js,as[j]?\js->Cg U g js)\/(c3\(.bl true)/\∃Ri,Mk t pm K L Ri Z/\_L K Ri<_L K U)))):=λhg=>by
   rw[hg]at gt;let st:=xF (k:=(x:Int)) (d:=⇑z) X (by let:=hL _ V;show c_ k2 (b_ F (a_ q2 ⋯)));show{4,_,.next,_,M1.set dd (.dK (Fw kv (.inl (x:Int)) ⇑z)),rfl,?_,.inl (.inl rfl,{3,↑⇑i,sI x,sI z,rfl},Y.frame (λa o _ ha e=>by rw[jw (i_ (c_ ha q8))];show e) ht,(_,m6 X,?_,?_,λN Zb=>?_),A>>(aH.set (bz _)),by simp[h4])}
   .simp[-eq_int,Hb,fa,J,fb,fj,B,C,ty,gt,kP,st]
   .let:=oT kv (.inl (x:Int)) ⇑z;show a_ this (v_ k2)
   .intro p hp
    rcases RE hp with w|w
    .exact k3 p w
    .exact(z,w,hz)
   .rw[Xp]
    by_cases w:(U g.a).getD N 0=x
    .rw[w,dm rfl]
     by_cases w2:N=i
     .subst w2;rw[xJ,hz0]
     .let E:=P N 'a'
      rw[w]at E;rw[E]at hg;erw[Ar]at hg;rw[hg]
    .let w2:N≠i:=λq=>w (by rw[q,hx0])
     let:¬((Sum.inl (((U g.a).getD N 0:Nat):Int):Kx)=.inl (x:Int)):=λq=>w (by injection q with q;show Bc<*q)
     rw[cz this];show P N 'a'
  cases hlk:Am kv (.inl (x:Int))with
  |none=>show G (by rw[hlk];rfl)
  |some v =>
   let(p,hp,rfl):=RD hlk;let(e,he,H):=k3 p hp;rw[he]at hlk
   by_cases I:e=z
   .exact G (by rw[hlk,I];rfl)
   .rw[hlk]at gt
    let ix:=qY (b:=⇑x) X rfl;rw[show(Sum.inl (x:Int):Kx)=.inl (x:Int)from rfl,hlk]at ix;let lh:min e z<max e z:='a'
    let hm:max e z∈U g.b:=by
     rcases Nat.le_total e z with w|w
     .rw[Nat.max_eq_right w];show hz
     .rw[Nat.max_eq_left w];show H
    let q1:min e z∈U g.b:=by
     rcases Nat.le_total e z with w|w
     .rw[Nat.min_eq_left w];show H
     .rw[Nat.min_eq_right w];show hz
    let rp:=RF (W:=W) (M:=M1) (ρ:=[sP K r hs,sR pm,sR q,b3,sI j,sI g.a,sI g.b,sR dd,sI i,sI x,sI z,sI (min e z:Nat),sI (max e z:Nat)]) (x:=6) (y:=13) (lo:=min e z) (hi:=max e z) (by simp[fb]) lb (by rw[Y.len _ T];let:=hL _ T;show a_ this ⋯) rfl ⋯ rfl rfl;let(o,so,q6):=Y.set T (ns:=Mf (min e z) (max e z) (U g.b)) (by simp[Mf,Y.len _ T]) (λy O=>by
     let(w,hw,rfl):=bu<*O;split
     .exact Y.lt _ T _ q1
     .exact Y.lt _ T _ hw) (xE (Y.fx _ T) (λx hx=>by rw[Y.len _ T];show Y.lt _ T x hx) q1) ht
    let ne:¬((e:Nat)=z):=I;show{4,_,.brk,_,M1.set pm o++[.dK []],rfl,?_,.inr (rfl,↑(.bl true),sR (-M1.set pm o),sI i,sI x,sI z,sI (min e z:Nat),sI (max e z:Nat),rfl,λa u na ha q=>?_,by simp;show a_ (g_ h4) x_,.inr (rfl,_,q6.frame (λa u _ _ q=>Af q) ht,(xC (xB lh hm) K).2 T))}
    .erw[Ar]at gt
     simp[-eq_int,Hb,fa,J,fb,fj,B,C,ty,gt,kP,ne,ix,xH,oU,Q7,rp,so,MW.new]
    .refine Af ?_
     rw[jw (j4 na)];show A a u ha q
def Fm.trans(a:Fm pm n M Z)(b:Fm pm n Z M2):Fm pm n M M2:=λx o h l e=>b x o h l (a x o h l e)
def Fm.le(a:Fm pm n M M1)(h:Z<=n):Fm pm Z M M1:=λx o q l e=>a x o q (b_ l h) e
theorem Yt:∀{l:Y2}{c:Nat},(∀x∈l,x<=c)->l.sum<=-l*c
 |[],_,_=>'b'
 |a::l,c,h=>by
  let T:=h a 'b';let G:=Yt (λx Y=>h x (bw _ Y));erw[w6,ik,Nat.succ_mul]
  lia
def RH(J:Mk t pm K L Z M)(G:∀e,e<K->L e<=7)(B:K<=3):_L K Z<=200:=by
 let:∀x∈'r' K%λi=>(Z i).sum,x<=49:=λx T=>by
  let(i,Y,rfl):=bu<*T;let Y:=jg<*Y;let E:=Yt (l:=Z i) (c:=7) (λx T=>by let:=J.lt i Y x T;let:=G i Y;lia);let O:=J.len i Y;let C:=G i Y;let P:-(Z i)*7<=7*7:=Nat.mul_le_mul_right 7 (a_ (f_ O) C)
  lia
 let h:=Yt this;erw[dh,Ag]at h;let N:K*49<=3*49:=Nat.mul_le_mul_right 49 B
 unfold _L
 lia
def bg(G:List F)(as:List (List Nat))(n:Nat)(T:Nat->List Nat):Prop:=∀(j:Nat)(g:F)(Y:Y2),j<n->G[j]?\g->as[j]?\Y->Cg T g Y
def RI(P:Hz sz K Z jo)(mk:Mk t pm K L ms M)(V:Ac q Z L as M)(I:pm< -M)(J:q< -M)(T:q≠pm)(ht:t<pm)(hL:∀e,e<K->L e<=7) :
 ∃qv M',Jz.WD W [sP K r Z,sR pm,sR q,b3,b4,b5,b6,b7,b8,b9,b10,Nj,Xq] M=.ok (.next,qv) M' /\
  ∃c3 c4 c5 c6 c7 c8 c9 qk U qq Ri,qv=[sP K r Z,sR pm,sR q,c3,c4,c5,c6,c7,c8,c9,qk,U,qq]/\Fm pm (-M) M M'/\-M<=-M'/\Mk t pm K L Ri M'/\((c3=b3/\Ri=ms/\bg Z as (-Z) ms)\/(c3\(.bl true)/\_L K Ri<_L K ms)):=by
 let hl:=P.len;show zf (S:=Jz) (W:=W) (n:=-Z) (M1:=M) rfl (by simp[Rh,Qm]) (a_ hl ⋯)
  (λn qv M'=>∃c3 c4 c5 c6 c7 c8 c9 qk U qq Ri,qv=[sP K r Z,sR pm,sR q,c3,c4,c5,c6,c7,c8,c9,qk,U,qq]/\Fm pm (-M) M M'/\-M<=-M'/\Mk t pm K L Ri M'/\((c3=b3/\Ri=ms/\bg Z as n ms)\/(c3\(.bl true)/\_L K Ri<_L K ms)))
  (b3,b4,b5,b6,b7,b8,b9,b10,Nj,Xq,ms,rfl,λ_ _ _ _ e=>e,bz _,mk,.inl (rfl,rfl,λj g js h=>absurd h (vz _))) (λj N G hj hI=>?_)
 let(c3,c4,c5,c6,c7,c8,c9,qk,U,qq,B,rfl,f1,O,k1,o1):=hI;let Y:Z[j]?=↑Z[j]:=by simp[hj]
 let X:=az Y;let k2:Mk t pm K L B (G++[.dK []]):=k1.frame (λa o _ _ e=>Af e) ht;let F:Ac q Z L as (G++[.dK []]):=(Af (f1 _ _ T J V.at_),V.len,V.ok);let(q0,M2,e2,d3,d7,d8,d9,H,D,R,rfl,f2,l2,o2):=RG (W:=W) (r:=r) (dd:=-G) (b3:=c3) (b8:=c8) (b9:=c9) (b10:=qk) (Nj:=U) (Xq:=qq) k2 F Y (P.Z9 _ X) (P.bT _ X) 'b' (b_ I O) (b_ J O) T ht hL;let C:Fm pm (-M) M M2:=λa o na ha e=>f2 a o na (b_ ha O) (Af (f1 a o na ha e))
 let E:-M<=-M2:=by simp at l2;lia
 let pe:∀N,(Tg.names [5,6]).put (eD Z[j]) N\((N.set 5 ↑(.int Z[j].a)).set 6 ↑(.int Z[j].b)):=λ_=>rfl
 let XM:Jy.WD W [sP K r Z,sR pm,sR q,c3,sI j,c5,c6,c7,c8,c9,qk,U,qq] G=.ok (.next,[sP K r Z,sR pm,sR q,d3,sI j,↑(.int Z[j].a),↑(.int Z[j].b),d7,d8,d9,H,D,R]) M2:=by simp[Jy,Rh,Vi Y,pe,MW.new,e2]
 show(_,.next,_,M2,rfl,XM,.inl rfl,?_);rcases o2 with⟨rfl,k3,cg⟩|⟨rfl,m2,k3,t3⟩
 .rcases o1 with⟨rfl,rfl,cs⟩|⟨rfl,t1⟩
  .refine(_,_,_,_,_,_,_,_,_,_,B,rfl,C,E,k3,.inl (rfl,rfl,λj' g' A h1 Q h3=>?_))
   by_cases z:j'=j
   .subst z
    rw[Y]at Q;cases Q;show cg _ h3
   .exact cs j' g' A 'a' Q h3
  .exact(_,_,_,_,_,_,_,_,_,_,B,rfl,C,E,k3,.inr (rfl,t1))
 .refine(_,_,_,_,_,_,_,_,_,_,m2,rfl,C,E,k3,.inr (rfl,?_))
  rcases o1 with⟨_,rfl,_⟩|⟨_,t1⟩<;>omega
def RJ(hm:1<=m)(P:Hz sz K U jo)(mk:Mk t pm K L ms M)(X:Ac q U L as M)(qq:pm< -M)(N:q< -M)(O:q≠pm)(ht:t<pm)(hL:∀e,e<K->L e<=7) :
 ∃Ri Z,prog.call m 26 [o7 K r U,↥pm,↥q] M=.ok ↥pm Z/\Mk t pm K L Ri Z/\bg U as (-U) Ri/\Fm pm (-M) M Z/\-M<=-Z:=by
 rw[WQ hm rfl];obtain⟨Y,Z,e,Ri,E,H,f1,T,c,F⟩:∃Y Z,J1.WD (prog.call (m-1),prog.cls) [sP K r U,sR pm,sR q,D.bl true,none,none,none,none,none,none,none,none,none] M=.ok (.next,Y) Z /\
  ∃Ri,Mk t pm K L Ri Z/\bg U as (-U) Ri/\Fm pm (-M) M Z/\-M<=-Z/\∃c:Env,Y=[sP K r U,sR pm]++c:=by
  unfold J1;rw[iS];show Ul (λm ρ Z=>∃(Ri:Nat->List Nat)(b:Bool)(c:Env),ρ=[sP K r U,sR pm,sR q,↑(.bl b)]++c/\-c=9/\Mk t pm K L Ri Z/\(b=false->bg U as (-U) Ri)/\Fm pm (-M) M Z/\-M<=-Z/\m=(if b then _L K Ri+1 else 0))
   (λY Z=>∃Ri,Mk t pm K L Ri Z/\bg U as (-U) Ri/\Fm pm (-M) M Z/\-M<=-Z/\∃c:Env,Y=[sP K r U,sR pm]++c) (λn ρ C hI=>?_) eC (_L K ms+1) _ M (by let:=RH mk hL P.k3;change _L K ms+1<1000000;lia)
   (ms,true,[(),(),(),(),(),(),(),(),()],rfl,rfl,mk,'b',λ_ _ _ _ e=>e,bz _,rfl)
  let(m1,b,c,rfl,hc,E,H,f1,T,rfl):=hI
  match c,hc with
  |[c4,c5,c6,c7,c8,c9,xK,xM,c12],_ =>
  cases b with
  |false=>show .inl {1,C,rfl,(m1,E,H rfl,f1,T,_,rfl)}
  |true =>
   right
   let(qk,M2,e2,d3,Q,V,S,A,I,d9,J,B,G,R,rfl,f2,l2,k2,o2):=RI (W:=(prog.call (m-1),prog.cls)) (r:=r) (as:=as) P E ((f1 _ _ O N X.at_,X.len,X.ok):Ac q U L as C) (b_ qq T) (b_ N T) O ht hL (b3:=↑(.bl false)) (b4:=c4) (b5:=c5) (b6:=c6) (b7:=c7) (b8:=c8) (b9:=c9) (b10:=xK) (Nj:=xM) (Xq:=c12);let f3:Fm pm (-M) M M2:=f1>>(f2.le T);let XM:J0.WD (prog.call (m-1),prog.cls) [sP K r U,sR pm,sR q,D.bl true,c4,c5,c6,c7,c8,c9,xK,xM,c12] C=.ok (.next,[sP K r U,sR pm,sR q,d3,Q,V,S,A,I,d9,J,B,G]) M2:=by simp[J0,e2]
   rcases o2 with⟨rfl,rfl,cs⟩|⟨rfl,t3⟩
   .exact(C,.next,_,M2,0,rfl,XM,.inl rfl,'b',R,false,[Q,V,S,A,I,d9,J,B,G],rfl,rfl,k2,λ_=>cs,f3,a_ T l2,rfl)
   .exact(C,.next,_,M2,_L K R+1,rfl,XM,.inl rfl,by simp;show t3,R,true,[Q,V,S,A,I,d9,J,B,G],rfl,rfl,k2,by simp,f3,a_ T l2,rfl)
 subst F;show{2,Ri,Z,?_,E,H,f1,T};erw[zc,yp]at e;simp[Fn.XM,U8,U7,e]
theorem xN:∀l:List Nat,Yd (l%nD)\(l%λ(x:Nat)=>(x:Int))
 |[]=>rfl|a::l=>by change(Yd (l%nD))%_=_;rw[xN l];rfl
def eY(b:Nat)(f:Nat->Bool):List Nat:=('r' b).filter f
def RK(b:Nat)(f:Nat->Bool):-(eY b f)<=b:=by let:=p8 f ('r' b);rw[Ag]at this;show this
def Xr:x∈eY b f↔x<b/\f x=true:=by rw[eY,jn,jg]
def kQ(b:Nat)(f:Nat->Bool):(eY b f).Pairwise (· < ·):=List.pairwise_lt_range.filter f
def Ui{is:X9}{f:Nat->Bool}(h:∀y,y∈is↔∃z:Nat,z<b/\f z=true/\y=z):YS (yz is)=eY b f%λ(x:Nat)=>(x:Int):=
 (lJ (vh.mpr ((kQ b f).imp λh=>'a')) (j7.mpr (vh.mpr ((kQ b f).imp λh=>'a'))) λy=>by
  rw[h,bu];constructor
  .rintro⟨z,T,G,rfl⟩;show(z,Xr.mpr (T,G),rfl)
  .rintro⟨z,Y,rfl⟩;show(z,(Xr<*Y).1,(Xr<*Y).2,rfl)).symm
def xO(l:Y2):(l%λ(x:Nat)=>(x:Int))%D.int=l%nD:=by rw[q9];rfl
def mem_cast{l:Y2}{y:Int}:y∈l%(λ(x:Nat)=>(x:Int))↔∃z:Nat,z∈l/\y=z:=by rw[bu];constructor<;>rintro⟨z,h,e⟩<;>show(z,h,e.symm)
def oV{M:fc}{l:Y2}(h:Cm M d\(l%nD))(J:b<=7\/-l<31)(T:∀z,z∈l↔z<b/\f z=true):qu .Ey [d] M=.ok (.vl (eY b f%nD)) M/\-(eY b f)<=-l:=by
 let e:=Ui (is:=l%λ(x:Nat)=>(x:Int)) (b:=b) (f:=f) λy=>by
  rw[mem_cast];constructor
  .rintro⟨z,Y,rfl⟩;show(z,(T z<*Y).1,(T z<*Y).2,rfl)
  .rintro⟨z,Y,G,rfl⟩;show(z,(T z).mpr (Y,G),rfl)
 let q:=(Il (yz (l%λ(x:Nat)=>(x:Int)))).length_eq;let n:=iT (l%λ(x:Nat)=>(x:Int));rw[e,dh]at q;rw[<-q,dh]at n;let le:-(yz (l%λ(x:Nat)=>(x:Int)))<31:=by let:=RK b f;rw[<-q];lia
 show(?_,n);change WR.wg ((Cm M d*>Yd)*>λis=>if-(yz is)<31 then ↑(D.vl (YS (yz is)%D.int))else ()) M=_;rw[h,uo,xN,uo,dm le,e,xO];rfl
theorem bnd:∀l:List Nat,∃b,∀z∈l,z<b
 |[]=>(0,'b')
 |a::l=>by
  let(b,h):=bnd l;show(a+b+1,λz Y=>?_);rcases dj<*Y with rfl|Y
  .lia
  .let:=h z Y;lia
def RL{M:fc}{l:Y2}(h:gr M d\(l%nD))(G:-l<31):∃Z:List Nat,qu .Ey [d] M=.ok (.vl (Z%nD)) M/\-Z<=-l/\Z.Nodup/\∀x,x∈Z↔x∈l:=by
 let(b,B):=bnd l;let Y:∀z,z∈l↔z<b/\decide (z∈l)=true:=λz=>by rw[f9];show(λq=>(B z q,q),λq=>q.2)
 let(T,J):=oV (f:=λz=>decide (z∈l)) (Jo h) (.inr G) Y;show{1,_,T,J,j7.mpr ((kQ b _).imp λh=>'a'),λx=>by rw[Xr];show(Y x).symm}
def RM(T:-ρ=19)(h3:ρ[3]?\↑(.vl (ym p K)))(h:RS p K rs M)(A:K<=3)(U:∀e,e<K->-(rs e)<=7)(ht:t< -M) :
 ∃Z,Lh.WD W ρ M=.ok ↥(-M+K) Z/\Mk t (-M+K) K (λe=>-(rs e)) (λe=>'r' (-rs e)) Z/\xj M Z/\-Z=-M+K+1:=by
 unfold Lh;let(S,E,e,O,R,F,G):=Oc (W:=W) (v:=false) (k:=1) (t:=.name 19) (it:=.v 3) (e:=.eA (.l (.v 19))) (ρ:=ρ) (M:=M) (M1:=M) (d:=.vl (ym p K)) (ds:=ym p K) (by simp[h3]) rfl (by simp[ym];show a_ A ⋯)
  (λi N Z=>N=ym (-M) i/\(∀e,e<i->Z[-M+e]?\(.WK ('r' (-rs e)%nD)))/\xj M Z/\-Z=-M+i) (rfl,λe P=>absurd P (vz _),xj.refl M,rfl) (λ_ _ _ _=>rfl)
  (λi y N Z L I=>by
   let(rfl,q1,Q,J):=I;let Y:i<K:=by let:=(ak<*L).1;simpa[ym]using this
   obtain rfl:D.ref (p+i)=y:=by simpa[ym,Y]using L
   let ln:=Y_ (ju (Q _ _ (h i Y)));let H:(ρ++'R' 1 ()).set 19 (sR (p+i))=ρ++[sR (p+i)]:=by rw[List.set_append];simp[T]
   let g9:(ρ++[↑(D.ref (p+i))])[19]?\(sR (p+i)):=by rw[<-T];simp
   show{3,_,↥(-Z),Z++[.WK ('r' (-rs i)%nD)],rfl,?_,?_,λe P=>?_,Q>>(xj.ZP _ _),by simp[J];show rfl}
   .let X:=U i Y
    let V:-(rs i)<=100000:=a_ X ⋯
    rw[H];simp[g9,ln,V,MW.new,nD]
   .simp[ym,tu,J]
   .by_cases z:e=i
    .subst z;rw[<-J];simp
    .exact Af (q1 e 'a'))
 let B:-(ym p K)=K:=by simp[ym]
 rw[B]at O R G;show{1,E++[.WK S],by rw[e];simp[MW.new,G],({1,S,by rw[<-G];simp,by rw[O];simp[ym],λi Y=>?_},λi Y=>'b',λi Y x C=>jg<*C,λi Y x C=>by simp[jg<*C]),F>>(xj.ZP _ _),by simp[G]};show{1,↥(-M+i),by rw[O];simp[ym,Y],ju (Af (R i Y)),λa q=>?_};cases q;show(b_ ht x_,H_ Y)
def Mk.st(h:Mk t pm K L Z M)(s:St t f M M')(Y:t<pm):Mk t pm K L Z M':=h.frame (λa o T _ e=>s.keep a o (i_ T) e) Y
def Ac.of(h:Ac q Z L as M)(k:∀o,M[q]?\o->M'[q]?\o):Ac q Z L as M':=(k _ h.at_,h.len,h.ok)
def RN(F:1<=m)(P:Hz sz K Z jo)(hh:W7 t f M)(mk:Mk t pm K L U M)(ac:Ac q Z L as M)(T:t<p)(O:p<=pm)(q2:pm< -M)(hq:p<=q)(C:q≠pm)(Q:q< -M)(hL:∀e,e<K->L e<=7)(hc:bg Z as (-Z) U) :
 ∃c5 qq qk q1 qv Ri M',Hm.WD (prog.call m,prog.cls) [sR t,sP K r Z,a2,a3,b4,b5,b6,b7,b8,sR q,b10,Nj,Xq,sR pm,cw,cx,n16,n17,n18] M =
  .ok (.next,[sR t,sP K r Z,a2,a3,b4,c5,b6,b7,b8,sR q,b10,qq,qk,sR pm,q1,qv,n16,n17,n18]) M'/\Mk t pm K L Ri M'/\bg Z as (-Z) Ri/\Ac q Z L as M'/\Gs t f p M M':=by
 symm
 let h3:=P.k3;let(k,M1,e1,l1,s1,n1):=Dj (many:=K) F hh (by let:=P.k1;show m_ this) (m_ (c_ h3 ⋯));let(x,M2,e2,l2,s2,n2):=Dj (many:=7) F s1.has ⋯ ⋯;let(y,M3,e3,l3,s3,n3):=Dj (many:=7) F s2.has ⋯ ⋯;let B:k<K:=o_ l1
 let s:=s1>>(s2>>s3);let Y:=mk.st s (b_ T O);let R:Ac q Z L as M3:=ac.of λo e=>s.keep _ _ (i_ (b_ T hq)) e
 let(dk,fk,V):=Y.row B;let J:=Y.len _ B;let ln:=Y_ V;erw[dh,J]at ln;let mx:=oU M3 x y;left
 by_cases c:max x y<L k
 .let D:((max x y:Nat):Int)<(L k:Int):=m_ c
  let A:x< -U k:='a'
  let hy:y< -U k:='a'
  let ix:=Wc V A;let iy:=Wc V hy;let S:=XH A;let N:=XH hy;generalize hx0:(U k).getD x 0=u at ix S;generalize xJ:(U k).getD y 0=w at iy N;let E:min u w∈U k:=by
   rcases Nat.le_total u w with z|z
   .rw[Nat.min_eq_left z];show S
   .rw[Nat.min_eq_right z];show N
  let rp:=xI (W:=(prog.call m,prog.cls)) (M:=M3) (ρ:=[sR t,sP K r Z,a2,a3,b4,sI k,b6,b7,b8,sR q,b10,sI x,sI y,sR pm,sI (min u w:Nat),sI (max u w:Nat),n16,n17,n18]) (v:=13) (x:=5) (y:=19) (a:=14) (b:=15) (lo:=min u w) (hi:=max u w) (by simp[fk]) V (by let:=hL _ B;show a_ (f_ J) (a_ this ⋯)) rfl rfl rfl;let(o,so,q3):=Y.set B (ns:=Mf (min u w) (max u w) (U k)) (by simp[Mf,J]) (λz hz=>by
   let(v,hv,rfl):=bu<*hz;split
   .exact Y.lt _ B _ E
   .exact Y.lt _ B _ hv) (xE (Y.fx _ B) (λx A=>by rw[J];show Y.lt _ B x A) E) (b_ T O)
  let H:Ac q Z L as (M3.set pm o):=R.of λo e=>by rw[jw (j4 C)];show e
  let G:-M3=-M:=u_ (a_ (f_ n3) (a_ (f_ n2) (f_ n1))) (a_ (g_ n1) (a_ (g_ n2) (g_ n3)));let(Ri,M5,e5,I,q0,f5,l5):=RJ (r:=r) (M:=M3.set pm o) F P q3 H (by simp;show b_ q2 (g_ G)) (by simp;show b_ Q (g_ G)) C (b_ T O) hL;let X:Ac q Z L as M5:=H.of λo e=>f5 _ _ C (by simp;show b_ Q (g_ G)) e
  show{7,↑⇑k,sI x,sI y,sI (min u w:Nat),sI (max u w:Nat),Ri,M5,?_,I,q0,X,(?_,λa v ha na e=>?_,by simp at l5;show a_ (g_ G) l5)}
  .simp[Hm,Z4,e1,e2,e3,mx,fk,ln,D,ix,iy,xH,oU,S8,rp,so,e5]
  .let(n,hn,ho):=s.has
   show{1,n,f5 _ _ (h_ (b_ T O)) (by let:=wu hn;simp;show this) (by rw[jw (i_ (b_ T O))];show hn),ho}
  .refine f5 _ _ (h_ (b_ ha O)) (by let:=wu e;simp;show b_ this (g_ G)) ?_
   rw[jw (i_ (b_ ha O))];show s.keep a v na e
 .let D:¬((max x y:Nat):Int)<(L k:Int):='a'
  show{7,↑⇑k,sI x,sI y,cw,cx,U,M3,?_,Y,hc,R,Gs.iG s};simp[Hm,Z4,e1,e2,e3,mx,fk,ln,D]
def du(G:Y2)(Y:List (List Nat)):D:=.WL [.WL (G%nD),.WL (Y%λT=>.WL (T%nD))]
def xP(h:⇑v∈ds):bZ v ds< -ds:=by
 unfold bZ;cases q:ds.findIdx? (λd=>match d with|⇑i=>decide (i=v)|_=>false)with
 |some j=>show(uz<*q).1
 |none =>
  rw[yu]at q;let:=q _ h;simp at this
def RO:∀{Y:List D},(∀d∈Y,∃i:Int,d=⇑i)->⇑v∈Y->Y[bZ v Y]?\⇑v:=fun{Y} hi h=>by
 unfold bZ;cases q:Y.findIdx? (λd=>match d with|⇑i=>decide (i=v)|_=>false)with
 |some j =>
  let(G,J,_):=uz<*q;let(i,T):=hi Y[j] (j9 G);rw[T]at J;let:i=v:='s' J
  simp[G,T,this]
 |none =>
  rw[yu]at q;let:=q _ h;simp at this
def xQ(l:Y2):∀d∈l%nD,∃i:Int,d=⇑i:=λd Y=>by let(x,_,rfl):=bu<*Y;show(_,rfl)
def oW{l:Y2}(h:x∈l):⇑(x:Int)∈l%nD:=bu.mpr (x,h,rfl)
def Z5(l:Y2)(x:Nat):Nat:=bZ (x:Int) (l%nD)
def Wd(h:x∈l):Z5 l x< -l:=by let:=xP (oW h);simpa[Z5]using this
def kR{l:Y2}(h:x∈l):l.getD (Z5 l x) 0=x:=by let Y:=RO (xQ l) (oW h);let T:=Wd h;unfold Z5 at T⊢;rw[ie,bh T]at Y;simp[nD]at Y;rw[bx,bh T];erw[Ar];show D_ Y
def Ud(J:Nat->List Nat)(g:F)(T B G:Y2):List Nat:=B%λY=>Z5 G ((J g.b).getD (T.getD Y 0) 0)
def Cr(Y:List (List Nat))(x:Nat)(w:Int):Nat:=if w=-1 then x else(Y.getD w.toNat []).getD x 0
structure Mj(K:Nat)(hs:List F)(Ge:Y2)(Gv:List (List Nat)):Prop where
 ls:-Ge=K
 la:-Gv=-hs
 sm:∀x∈Ge,x<=7
 ok:∀(j:Nat)(g:F)(js:Y2),hs[j]?\g->Gv[j]?\js->-js=Ge.getD g.a 0/\∀x∈js,x<Ge.getD g.b 0
 fu:∀(j1 j2:Nat)(g1 g2:F)(a1 a2:Y2),hs[j1]?\g1->hs[j2]?\g2->g1.b=g2.a->Gv[j1]?\a1->Gv[j2]?\a2->∀x,x< -a1->a2.getD (a1.getD x 0) 0=Cr Gv x (YZ hs g1 g2)
def Y8(l:Y2):D:=.vl (l%nD)
def RP(G:-ρ=19)(E:ρ[13]?\(sR pm))(C:Mk t pm K L U M)(I:K<=3)(X:∀i,i<K->L i<=7) :
 ∃Z:List (List Nat),Lf.WD W ρ M=.ok (.vl (Z%Y8)) M/\-Z=K/\∀e l,Z[e]?\l->-l<=L e/\l.Nodup/\∀x,x∈l↔x∈U e:=by
 let(O,P,N,h3):=C.ex;unfold Lf;symm
 let(ys,T,e,rfl,Z,r1,r2,A):=Oc (W:=W) (v:=true) (k:=1) (t:=.name 19) (it:=.v 13) (e:=.YC .Ey (.o (.v 19))) (ρ:=ρ) (M:=M) (M1:=M) (d:=↥pm) (ds:=O) (by simp[E]) (ju P) (a_ (f_ N) (a_ I ⋯))
  (λi B T=>T=M/\∃Z:List (List Nat),B=Z%Y8/\-Z=i/\∀e l,Z[e]?\l->-l<=L e/\l.Nodup/\∀x,x∈l↔x∈U e) (rfl,[],rfl,rfl,'b') (λi B T h=>by rw[h.1];show ju P)
  (λi y B T R D=>by
   let(rfl,Z,rfl,S,q2):=D;let J:i<K:=by let:=(ak<*R).1;show b_ this (f_ N)
   symm
   let(d,Q,g2,_):=h3 i J;rw[R]at Q;cases Q;let(l,V,k2,F,k3):=RL g2 (by let:=X i J;let:=C.len i J;lia);left;let H:(ρ++'R' 1 ()).set 19 ↑y=ρ++[↑y]:=by rw[List.set_append];simp[G]
   let g9:(ρ++[↑y])[19]?\↑y:=by rw[<-G];simp
   show{3,_,Y8 l,T,rfl,by rw[H];simp[g9,V,Y8],rfl,(Z++[l],'b',by simp[S],λe l' Y=>?_)}
   by_cases z:e< -Z
   .rw[gf z]at Y;show q2 e l' Y
   .let ze:e=i:=by let:=(ak<*Y).1;simp at this;lia
    subst ze;rw[jf (s_ z),S]at Y;simp at Y;subst Y;rw[<-C.len e J];show(k2,F,k3))
 left;show{1,Z,by rw[e,r1];rfl,r2>>N,A}
def xR{Y:List (List Nat)}{i:Nat}(h:Y[i]?\l):Ax (.vl (Y%Y8)) ⇑i M\(Y8 l):=Et rfl q_ (by simp[h])
def RQ{hl:List (List Nat)}(Q:Mk t pm K L U M)(ac:Ac q hs L as M){j:Nat}(A:hs[j]?\g)(ej:as[j]?\Z)(ga:g.a<K)(gb:g.b<K)(h1:hl[g.a]?\la)(h2:hl[g.b]?\lb)(R:∀x,x∈la↔x∈U g.a)(S:∀x,x∈lb↔x∈U g.b)(h7:-la<=7)(I:M[w]?\(.WK td))(E:-td<100000) :
 ∃(V:Option D)(C:Y2),Lb.WD W [a0,sP K r hs,a2,a3,b4,b5,b6,b7,b8,sR q,sI j,Nj,Xq,sR pm,cw,cx,D.vl (hl%Y8),sR w,oX] M =
  .ok (.next,[a0,sP K r hs,a2,a3,b4,b5,b6,b7,b8,sR q,sI j,sI g.a,sI g.b,sR pm,cw,cx,↑(.vl (hl%Y8)),sR w,V]) (M.set w (.WK (td++[.WL (C%nD)])))/\C=Ud U g Z la lb/\-C=-la/\∀x∈C,x< -lb:=by
 symm
 let(qq,B,fj,lj,rj):=ac.get A;rw[ej]at B;cases B;let(db,fb,P):=Q.row gb;let hz:∀Y∈la,Z.getD Y 0< -U g.b/\Y< -Z:=λY h=>by
  let h3:=Q.lt _ ga Y (R Y<*h);let h4:Y< -Z:=b_ h3 (g_ lj)
  show(by rw[Q.len _ gb];show rj _ (XH h4),h4)
 left;let c3:K9.WD W [a0,sP K r hs,a2,a3,b4,b5,b6,b7,b8,sR q,sI j,sI g.a,sI g.b,sR pm,cw,cx,D.vl (hl%Y8),sR w,oX] M=.ok (Y8 (la%λY=>(U g.b).getD (Z.getD Y 0) 0)) M:=by
  unfold K9;rw[Eg (d:=Y8 la) (ds:=la%nD) (M1:=M) (g:=λd=>match d with|⇑o=>nD ((U g.b).getD (Z.getD o.toNat 0) 0)|_=>.XQ) (by simp[xR h1]) rfl (by simp;show a_ h7 ⋯) (λz T=>by
   let(Y,J,rfl):=bu<*T;let(k1,k2):=hz Y J;show{1,_,rfl,?_};let N:Ax (.vl (Z%nD)) ⇑Y M\⇑(Z.getD Y 0):=Wc rfl k2;let H:=Wc P k1;change(Ex.ix (.ix (.v 13) (.v 12)) (.ix (.ix (.v 9) (.v 10)) (.v 19))).WD W [a0,sP K r hs,a2,a3,b4,b5,b6,b7,b8,sR q,sI j,sI g.a,sI g.b,sR pm,cw,cx,D.vl (hl%Y8),sR w,oX,sI Y] M=.ok (nD ((U g.b).getD (Z.getD (Y:Int).toNat 0) 0)) M;rw[vg];generalize Z.getD Y 0=yy at N H;generalize(U g.b).getD yy 0=zz at H;simp[fb,fj,N,H,nD])]
  simp[Y8,nD]
 let G:∀z∈la%(λY=>(U g.b).getD (Z.getD Y 0) 0),⇑(z:Int)∈lb%nD:=λz h=>by let(Y,J,rfl):=bu<*h;show bu.mpr (_,(S _).mpr (XH (hz Y J).1),rfl)
 generalize xS:la%(λY=>(U g.b).getD (Z.getD Y 0) 0)=row at c3 G;let O:-row=-la:=by rw[<-xS];simp
 let F:K8.WD W [a0,sP K r hs,a2,a3,b4,b5,b6,b7,b8,sR q,sI j,sI g.a,sI g.b,sR pm,cw,cx,D.vl (hl%Y8),sR w,Y8 row] M=.ok (.vl ((row%λ(z:Nat)=>bZ (z:Int) (lb%nD))%nD)) M:=by
  unfold K8;rw[Eg (d:=Y8 row) (ds:=row%nD) (M1:=M) (g:=λd=>match d with|⇑o=>nD (bZ o (lb%nD))|_=>.XQ) 'b' rfl (by simp;show a_ (f_ O) (a_ h7 ⋯)) (λz T=>by
   let(o,ho,rfl):=bu<*T;show{1,_,rfl,?_};let N:=wm (M:=M) (ds:=lb%nD) (v:=(o:Int)) (λd hd=>by let(x,_,rfl):=bu<*hd;show(_,rfl)) (G o ho);change(Ex.bm .index (.ix (.v 16) (.v 12)) (.o (.v 19))).WD W [a0,sP K r hs,a2,a3,b4,b5,b6,b7,b8,sR q,sI j,sI g.a,sI g.b,sR pm,cw,cx,D.vl (hl%Y8),sR w,Y8 row,sI o] M=_;simp[xR h2,Y8,Oo,N,nD])]
  simp[nD]
 show{2,↑(Y8 row),row%λ(z:Nat)=>bZ (z:Int) (lb%nD),?_,by rw[<-xS,q9];rfl,by simp[O],λx hx=>?_}
 .let pe:∀X,(Tg.names [11,12]).put (eD g) X\((X.set 11 (sI g.a)).set 12 (sI g.b)):=λ_=>rfl
  let ap:=Gm (d:=.WL ((row%λ(z:Nat)=>bZ (z:Int) (lb%nD))%nD)) I E;erw[q9]at F ap⊢;simp[-List.map_map,Lb,Rh,Vi A,pe,c3,F,Gg I,Jf,ap]
 .let(z,T,rfl):=bu<*hx
  let:=xP (G z T);simpa using this
def oY(h:nD a=nD b):a=b:=by erw[nD,D.int.injEq,Bc]at h;show h
def RT(Y:List F)(k:Nat):(uy Y k).Nodup:=by
 show vy.mpr (λh=>?_,?_)
 .let(x,_,e):=bu<*h
  simp[nD]at e
 .rw[j7,vh]
  show((j7<*List.nodup_range).filter _).imp λh e=>h (oY e)
def RU(Y:List F)(k g:Nat):(wT Y k g).Nodup:=(RT Y k).filter _
def xT(h:aO n k w=aO U Z w'):n=U/\k=Z/\w=w':=by erw[aO,D.WL.injEq,Ej,D.int.injEq,Bc,and_true]at h;show h
def Qv(nd:(ad%(·.1)).Nodup)(e:Nat):(WW Z ad e).Nodup:=by
 rw[j7];unfold WW;rw[List.pairwise_flatMap];show(λp _=>?_,?_)
 .rw[vh]
  show(j7<*(RU Z p.2 e)).imp λh q=>h (xT q).2.2
 .rw[j7,vh]at nd
  show nd.imp λh x T y Y q=>by let(u,_,rfl):=bu<*T;let(v,_,rfl):=bu<*Y;show h (xT q).1
def Hr{Y:Type}{l:List Y}(h:l.Nodup){i:Nat}{x:Y}(T:l[i]?\x)(G:l[j]?\x):i=j:=by let J:=(ak<*T).1;show(List.getElem?_inj J h)<*(T>>G.symm)
def eZ{j:Nat}(h:XC U Z x j\⇑v):bv U Z j ⇑x=v:=by simp[bv,h]
def RV(P:Hz sz K Z U)(G:Z[j1]?\g1)(C:Z[j2]?\g2)(e:g1.b=g2.a)(W:⇑x∈wT Z k g1.a) :
 (YZ Z g1 g2=-1/\(g1.WN g2).Uu/\bv Z U j2 ⇑(bv Z U j1 ⇑x)=x)\/∃j3:Nat,YZ Z g1 g2=j3/\Z[j3]?\(g1.WN g2)/\bv Z U j2 ⇑(bv Z U j1 ⇑x)=bv Z U j3 ⇑x:=by
 let S:¬((j1:Int)=-1):='a'
 let H:¬((j2:Int)=-1):='a'
 let L:=az G;let E:=az C;let Q:XC Z U j1 j2\⇑(YZ Z g1 g2):=by rw[XC,cz S,cz H];show P.YD G C e
 let(F,O):=Wa W;rcases Ek F with q|⟨i,f,q,hf,ef⟩
 .cases q
  let B:XC Z U (-1) j1\⇑j1:=by simp[XC]
  rw[eZ B,eZ Q,Qn];rcases P.Hd (P.cl g1 L g2 E e)with⟨Y,N⟩|⟨u,J,Y⟩
  .exact .inl (Y,N,Y)
  .refine .inr {1,u,Y,J,?_}
   rw[Y,eZ (v:=u) (by simp[XC])]
 .cases q
  let R:¬((i:Int)=-1):='a'
  rw[Em hf]at O;let B:XC Z U i j1\⇑(YZ Z f g1):=by rw[XC,cz R,cz S];show P.YD hf G O
  let(v,V,T):=P.sD hf G C O e;rw[eZ B,eZ V];rw[Qn]at T⊢;rcases P.Hd (P.cl g1 L g2 E e)with⟨Y,N⟩|⟨u,J,Y⟩
  .rw[Y]at T
   rw[XC,cz R,dm rfl]at T;cases T;show .inl (Y,N,rfl)
  .rw[Y]at T
   show .inr {1,u,Y,J,(eZ T).symm}
def Y9(h:l.Nodup)(Y:x< -l):Z5 l (l.getD x 0)=x:=by
 let m:l.getD x 0∈l:=XH Y;let T:=kR m;let G:=Wd m;show Hr h (x:=l.getD x 0) ?_ ?_
 .rw[bh G]
  rw[bx,bh G]at T;simpa using T
 .rw[bh Y,bx,bh Y];rfl
def Xu(Y:x< -la):(Ud U g js la Z).getD x 0=Z5 Z ((U g.b).getD (js.getD (la.getD x 0) 0) 0):=getD_map (α:=Nat) Y
def func(P:Hz sz K U jo){B:List (List Nat)}(nd:(ad%(·.1)).Nodup)(ml:∀e,e<K->-(Z e)=-WW U ad e)(T:∀e,e<K->∀x∈Z e,x< -WW U ad e)(fx:∀e,e<K->∀x∈Z e,(Z e).getD x 0=x)(cg:bg U as (-U) Z)(Q:∀(j:Nat) (g:F) (js:Y2),U[j]?\g->as[j]?\js->Ae U jo ad j g js)(hh:∀e l,B[e]?\l->l.Nodup/\∀x,x∈l↔x∈Z e){j1 S:Nat}(V:U[j1]?\g1)(J:U[S]?\g2)(e:g1.b=g2.a)(q1:as[j1]?\s1)(q2:as[S]?\s2)(G:B[g1.a]?\la)(A:B[g1.b]?\lb)(Y:B[g2.b]?\lc)(L:x< -la) :
 (YZ U g1 g2=-1/\(Ud Z g2 s2 lb lc).getD ((Ud Z g1 s1 la lb).getD x 0) 0=x) \/
  ∃j3:Nat,YZ U g1 g2=j3/\U[j3]?\(g1.WN g2)/\∀s3,as[j3]?\s3->(Ud Z g2 s2 lb lc).getD ((Ud Z g1 s1 la lb).getD x 0) 0=(Ud Z (g1.WN g2) s3 la lc).getD x 0:=by
 let X:=az V;let m2:=az J;let ka:=P.Z9 g1 X;let N:=P.bT g1 X;let kc:=P.bT g2 m2;let(na,ma):=hh _ _ G;let(_,mb):=hh _ _ A;let A1:=Q _ _ _ V q1;let H:=Q _ _ _ J q2;let D:=ma _<*(XH L);generalize ff:la.getD x 0=h at D;let Ib:=T _ ka h D;let(n,k,w,_,hw,er):=Jg (j9 Ib);let I:(WW U ad g1.a)[h]?\(aO n k ⇑w):=by rw[bh Ib,er]
 let r1:=A1.go _ _ _ _ I;let C:=H.go _ _ _ _ (by rw[<-e];show r1);let l1:s1.getD h 0< -Z g1.b:=by rw[ml _ N];show(ak<*r1).1
 let O:=XH l1;let yl:=Wd ((mb _).mpr O);rw[Xu L,ff,Xu yl,kR ((mb _).mpr O)];let c1:(Z g2.b).getD (s2.getD ((Z g1.b).getD (s1.getD h 0) 0) 0) 0=(Z g2.b).getD (s2.getD (s1.getD h 0) 0) 0:=by
  let M:=(ak<*J).1;show cg S g2 s2 M J q2 _ _ ?_ ?_ ?_
  .rw[H.len,<-e];show T _ N _ O
  .rw[H.len,<-e,<-ml _ N];show l1
  .rw[<-e];show fx _ N _ O
 rw[c1];rcases RV P V J e hw with⟨E,i1,R⟩|⟨j3,E,h3,R⟩
 .show .inl ?_
  show(E,?_);let W:g1.a=g2.b:=i1.1;rw[R,<-W]at C;rw[<-W]at Y;rw[G]at Y;cases Y;rw[Hr (Qv nd _) C I,<-W,fx _ ka h D,<-ff,Y9 na L]
 .right
  show{1,j3,E,h3,λs3 q3=>?_};let A3:=Q _ _ _ h3 q3;let r3:=A3.go h n k w I;rw[Xu L,ff];rw[R]at C;let:s2.getD (s1.getD h 0) 0=s3.getD h 0:=Hr (Qv nd g2.b) C r3;rw[this];rfl
def RW(f g:Nat->Nat)(K:Nat):('r' K%λe=>f e+g e).sum=('r' K%f).sum+('r' K%g).sum:=by
 induction K with
 |zero=>rfl|succ K Y=>simp[tu]at Y⊢;lia
def xU{f:Nat->Nat}(h:∀e,e<K->f e<=B):('r' K%f).sum<=K*B:=by
 induction K with
 |zero=>show iw _
 |succ K Y =>
  let T:=Y λe G=>h e (lz G)
  let J:=h K (mz K);simp[tu,Nat.succ_mul]at T⊢;lia
def RX{G:Type}{l:List G}(f:G->Nat)(h:∀x∈l,f x<K):('r' K%λe=>-(l.filter λx=>decide (f x=e))).sum=-l:=by
 let:∀n,('r' n%λe=>-(l.filter λx=>decide (f x=e))).sum=-(l.filter λx=>decide (f x<n)):=λn=>by
  induction n with
  |zero=>simp[List.filter_eq_nil_iff.mpr]
  |succ n Y =>
   erw[tu,jc,List.sum_append,Y];clear Y h
   induction l with
   |nil=>rfl
   |cons a l Y =>
    erw[By,gm,Ep,w6,List.sum_nil]at Y⊢
    by_cases z:f a<n
    .let T:f a<n+1:='a'
     let J:¬f a=n:='a'
     simp[z,T,J];lia
    .by_cases y:f a=n
     .simp[y];lia
     .let T:¬f a<n+1:='a'
      simp[z,T,y];lia
 rw[this K,List.filter_eq_self.mpr λx B=>uw (h x B)]
def cE._L(P:Hz sz K Z U)(h:cE Z K ad):('r' K%λe=>-(WW Z ad e)).sum=(ad%λq=>-(uy Z q.2)).sum:=by
 induction h with
 |nil =>
  let:=xU (K:=K) (B:=0) (f:=λe=>-(WW Z [] e)) λe _=>bz _
  simpa using this
 |snoc _ Y _ G =>
  erw[Wb,m5,dh,jc,List.sum_append,RW,G];let:=RX (l:=uy Z k) (K:=K) (Ak Z k) λd T=>Ur P Y T
  erw[wT,this];simp
def cE.ZJ(P:Hz sz K Z U)(h:cE Z K ad)(r:∀e,e<K->-(WW Z ad e)+-uy Z k<=7):(ad%λq=>-(uy Z q.2)).sum+3*-(uy Z k)<=21:=by
 let T:=xU (K:=K) (B:=7- -uy Z k) (f:=λe=>-(WW Z ad e)) λe Y=>by let:=r e Y;lia
 rw[h._L P]at T;let G:=r 0 P.k1;let:=Nat.mul_le_mul_right (7- -uy Z k) P.k3
 lia
def RY(P:Hz sz K Z U)(k:Nat):-(uy Z k)<=6:=by let Y:=p8 (Mh Z k) ('r' (-Z));let T:=P.len;simp[uy]at Y⊢;lia
def oZ:∀a,a<7->∀b,b<7->∀c,c<7->c+b+3*a<=21->c+3*b<=21->max 1 (c-2)+(max 1 (b-2)+max 1 (a-2))<=8:=by decide
def cE.cost(P:Hz sz K Z U)(h:cE Z K ad)(l:-ad<=3):(ad%λq=>max 1 (-uy Z q.2-2)).sum<=8:=by
 let w k:=Nat.lt_succ_of_le (RY P k);cases h with
 |nil=>simp
 |snoc h _ r =>
  let Y:=h.ZJ P r;cases h with
  |nil=>let:=oZ _ (w k) 0 ⋯ 0 ⋯ ('s' Y) ⋯;simp;show gh (Dg _ 1) (gh (Dg _ 1) this)
  |snoc h _ G =>
   let T:=h.ZJ P G;cases h with
   |nil=>let:=oZ _ (w k) _ (w k_1) 0 ⋯ ('s' Y) ('s' T);simp;show gh (Dg _ 1) this
   |snoc h _ r =>
    cases h with
    |nil=>let:=oZ _ (w k) _ (w k_1) _ (w k_2) ('s' Y) ('s' T);simpa using this
    |snoc _ _ _=>simp at l
structure Gn(K:Nat)(hs:List F)(Ge:Y2)(Gv:List (List Nat))(G:List (Nat×Nat)):Prop where
 v:∀g∈G,g.1<K/\g.2<Ge.getD g.1 0
 g:∀e x,e<K->x<Ge.getD e 0->∃g∈G,∃w:Int,⇑w∈wT hs g.1 e/\x=Cr Gv g.2 w
 c:(G%λg=>max 1 (-uy hs g.1-2)).sum<=8
def RZ(h:q∈ad):.WL [⇑q.1,⇑q.2,⇑(-1)]∈WW hs ad q.2:=
 Cd.mpr {1,q,h,bu.mpr {1,⇑(-1),jn.mpr (by simp[uy],by simp[Ak]),rfl}}
def gen(P:Hz sz K Z jo){Y:List (List Nat)}(nd:(ad%(·.1)).Nodup)(ap:cE Z K ad)(al:-ad<=3)(kd:∀q∈ad,q.2<K)(ml:∀e,e<K->-(U e)=-WW Z ad e)(L:∀e,e<K->∀x∈U e,x< -WW Z ad e)(I:∀e,e<K->∀x∈U e,(U e).getD x 0=x)(cg:bg Z as (-Z) U)(ae:∀(j:Nat) (g:F) (js:Y2),Z[j]?\g->as[j]?\js->Ae Z jo ad j g js)(qk:-as=-Z)(hl:-Y=K)(hh:∀e l,Y[e]?\l->l.Nodup/\∀x,x∈l↔x∈U e)(tl:-td=-Z)
 (tt:∀(j:Nat)(g:F)(js:Y2),Z[j]?\g->td[j]?\js->∃s la lb,as[j]?\s/\Y[g.a]?\la/\Y[g.b]?\lb/\js=Ud U g s la lb):∃G,Gn K Z (Y%List.length) td G:=by
 let X:∀q:Nat×Nat,∃z:Nat,q∈ad->(WW Z ad q.2)[z]?\(aO q.1 q.2 ⇑(-1)):=λq=>by
  by_cases h:q∈ad
  .let(z,H,e):=m9 (RZ (hs:=Z) h)
   show{1,z,λ_=>by rw[bh H,e];rfl}
  .exact{1,0,λg=>absurd g h}
 let(M,H):=Classical.axiomOfChoice X;let O:∀e,e<K->∃l,Y[e]?\l:=λe S=>(_,bh (b_ S (g_ hl)))
 let Q:∀{e l},Y[e]?\l->(Y%List.length).getD e 0=-l:=fun{e l} h=>by simp[bx,h]
 let gz:∀{e l},Y[e]?\l->Y.getD e []=l:=fun{e l} h=>by simp[bx,h]
 let zm:∀q∈ad,(U q.2).getD (M q) 0∈U q.2:=λq J=>XH (by rw[ml _ (kd q J)];show(ak<*(H q J)).1)
 show(ad%λq=>(q.2,Z5 (Y.getD q.2 []) ((U q.2).getD (M q) 0)),λg hg=>?_,λe x S W=>?_,?_)
 .let(q,J,rfl):=bu<*hg
  let(l,C):=O _ (kd q J);show(kd q J,?_);change Z5 _ _<_
  rw[Q C,gz C];show Wd (((hh _ _ C).2 _).mpr (zm q J))
 .let(lb,T):=O e S
  rw[Q T]at W;let(nb,mb):=hh _ _ T;let V:=mb _<*(XH W);generalize ff:lb.getD x 0=h at V;let Ib:=L _ S h V;let(n,k,w,J,hw,er):=Jg (j9 Ib);let r0:(WW Z ad e)[h]?\(aO n k ⇑w):=by rw[bh Ib,er]
  show{1,_,bu.mpr {1,(n,k),J,rfl},(w,hw,?_)};let R:=kd _ J;let E:=H _ J;let N:=zm _ J;simp only at R E N⊢;generalize M (n,k)=z at E N;let(la,B):=O k R;let(na,ma):=hh _ _ B;rw[gz B];let(w1,D):=Wa hw;rcases Ek w1 with q|⟨i,f,q,hf,ef⟩
  .cases q
   let:k=e:=by simpa[Ak]using D
   subst this;rw[B]at T;cases T;cases Hr (Qv nd k) E r0;rw[Cr,dm rfl,I _ R _ V,<-ff,Y9 na W]
  .cases q
   rw[Em hf]at D;subst ef D;let il:=(ak<*hf).1;let u1:td[i]?=↑td[i]:=bh (b_ il (g_ tl));let(s,qq,qv,i1,i2,i3,i4):=tt _ _ _ hf u1;rw[B]at i2;cases i2;rw[T]at i3;cases i3;let A:=ae _ _ _ hf i1;let r1:=A.go _ _ _ _ E;rw[eZ (v:=i) (by simp[XC])]at r1;let rz:=Hr (Qv nd f.b) r1 r0;let ni:¬((i:Int)=-1):='a'
   let zl:=(ak<*E).1;let u2:td.getD i []=Ud U f s la lb:=by rw[bx,u1,<-i4];rfl
   rw[Cr,cz ni,vg,u2,Xu (Wd ((ma _).mpr N)),kR ((ma _).mpr N)];let c1:=cg i f s il hf i1 _ z (by rw[A.len];show L _ R _ N) (by rw[A.len];show zl) (I _ R _ N);rw[c1,rz,I _ S _ V,<-ff,Y9 nb W]
 .rw[q9];show ap.cost P al
def xV(hm:2<=m)(P:Hz sz K Z jo)(hh:W7 t f M)(hr:M[r]?\(.dT jo))(y9:r≠t) :
 ∃Ge Gv M',prog.call m 27 [↥t,o7 K r Z,⇑3] M=.ok (du Ge Gv) M'/\Mj K Z Ge Gv/\(∃G,Gn K Z Ge Gv G)/\St t f M M':=by
 rw[WQ (a_ ⋯ hm) rfl];let h3:=P.k3;let hl:=P.len;let ht:t< -M:=by let(n,h,_):=hh;show wu h
 let uj:=wu hr;let r0:=wo (W:=(prog.call (m-1),prog.cls)) (M:=M) (K:=K) (y:=19) (e:=.ix (.v 1) (.i 0)) (ρ:=[sR t,sP K r Z,sI 3,(),(),(),(),(),(),(),(),(),(),(),(),(),(),(),()]) rfl (by simp[Z4]) (a_ h3 ⋯);let g0:Gs t f (-M) M (M++'R' K (.WK [])):=Gs.ZP hh (bz _) _;let w0:Rw Z K (-M) [] (M++'R' K (.WK [])):=(λi hi=>by
  rw[jf x_];simp[WW,hi],'b',by simp[WW],Dw,.nil)
 symm
 let(v,M1,e1,l1,s1,n1):=Dj (many:=4) (m:=m-1) (r_ hm) g0.has ⋯ ⋯;let(x5,R,e2,(H,Q,N,L,C,rfl),ad,w2,u6,g2,n2):=zf (S:=Ls) (W:=(prog.call (m-1),prog.cls)) (n:=v) rfl
  (ρ:=[sR t,sP K r Z,sI 3,↑(.vl (ym (-M) K)),(),(),(),(),()]++[(),(),(),(),(),(),(),(),(),()]) (M:=M++'R' K (.WK [])) (M1:=M1) (by simp[e1]) (e_ (b_ (o_ l1) ⋯))
  (λi B M'=>(∃H Q N L C:Option D,B=[sR t,sP K r Z,sI 3,↑(.vl (ym (-M) K)),H,Q,N,L,C]++[(),(),(),(),(),(),(),(),(),()])/\∃ad,Rw Z K (-M) ad M'/\(∀q∈ad,q.1<i)/\Gs t f (-M) M M'/\-M'=-M+K)
  ({5,(),(),(),(),(),rfl},[],(w0.rs.keep s1 ht,w0.kd,w0.le,w0.nd,w0.ap),'b',g0>>(Gs.iG s1),by simp at n1;show n1)
  (λi B R hi hI=>by
   symm
   let((H,Q,N,L,C,rfl),ad,q1,hn,X,q3):=hI;let(c5,c6,c7,c8,y5,U,e3,k1,Rj,k2,k3):=QZ (m:=m-1) (r:=r) (n:=i) (r_ hm) P X.has ht q1 hn (b5:=Q) (b6:=N) (b7:=L) (b8:=C) (rest:=[(),(),(),(),(),(),(),(),(),()]) rfl;left;show(_,.next,_,U,rfl,e3,.inl rfl,{5,↑⇑i,c5,c6,c7,c8,rfl},y5,k1,Rj,X>>k2,k3>>q3))
 left;symm
 let x6:=n2;let(x4,U,e3,(T,I,A,rfl),as,a3,a4,a5,w3,g3,n3):=zf (S:=Lj) (W:=(prog.call (m-1),prog.cls)) (n:=-Z) rfl
  (ρ:=[sR t,sP K r Z,sI 3,D.vl (ym (-M) K),H,Q,N,L,C,sR (-R),(),(),(),(),(),(),(),(),()]) (M:=R++[.WK []]) (M1:=R++[.WK []]) (by simp[Rh,Qm]) (a_ hl ⋯)
  (λj B M'=>(∃T I A:Option D,B=[sR t,sP K r Z,sI 3,↑(.vl (ym (-M) K)),H,Q,N,L,C,sR (-R),T,I,A,(),(),(),(),(),()]) /\
   ∃as:List (List Nat),M'[R.length]?\(.WK (as%λJ=>.vl (J%nD)))/\-as=j/\(∀(j:Nat)(g:F)(J:Y2),Z[j]?\g->as[j]?\J->Ae Z jo ad j g J)/\Rw Z K (-M) ad M'/\Gs t f (-M) M M'/\-M'=-R+1)
  ({3,(),(),(),rfl},[],'b',rfl,'b',(λi hi=>Af (w2.rs i hi),w2.kd,w2.le,w2.nd,w2.ap),g2>>(Gs.ZP g2.has 'a' _),'b')
  (λj B U hj hI=>by
   symm
   let((T,I,A,rfl),as,q1,X,q3,q4,q5,q6):=hI;let E:Z[j]?=↑Z[j]:=by simp[hj]
   let(J,c7,k1):=RA (m:=m-1) (M:=U) (r:=r) (r_ hm) P (q5.low _ _ uj y9 hr) q4 E (a0:=↑↥t) (a2:=↑⇑3) (a4:=H) (a5:=Q) (a6:=N) (a7:=L) (a8:=C) (a9:=↑↥(-R)) (rest:=[(),(),(),(),(),()]) rfl;let ap:=Gm (d:=.vl (J%nD)) q1 (by simp;show c_ (f_ X) (b_ hj (a_ hl ⋯)));let pe:∀B,(Tg.names [11,12]).put (eD Z[j]) B\((B.set 11 ↑(.int Z[j].a)).set 12 ↑(.int Z[j].b)):=λ_=>rfl
   erw[zc,yp]at c7;left;show{4,_,.next,_,U.set (-R) (.WK ((as%λJ=>.vl (J%nD))++[.vl (J%nD)])),rfl,by simp[Tc,Rh,Vi E,pe,Gg q1,c7,ap],.inl rfl,{3,↑⇑j,↑(.int Z[j].a),↑(.int Z[j].b),rfl},(as++[J],by rw[m6 q1];simp,by simp[X],λj' g q7 hg Y=>?_,(λi hi=>?_,q4.kd,q4.le,q4.nd,q4.ap),q5>>(Gs.wx q5.has (aH.set 'a') ht 'b'),by simp[q6])}
   .by_cases z:j'< -as
    .rw[gf z]at Y;show q3 j' g q7 hg Y
    .let ze:j'=j:=by let:=(ak<*Y).1;simp at this;lia
     subst ze;rw[jf (s_ z),X]at Y;simp at Y;subst Y;rw[E]at hg;cases hg;show k1
   .rw[jw 'a'];show q4.rs i hi)
 left;symm
 let(M4,e4,u0,zv,n4):=RM (W:=(prog.call (m-1),prog.cls)) (t:=t) (M:=U) (ρ:=[sR t,sP K r Z,sI 3,D.vl (ym (-M) K),H,Q,N,L,C,sR (-R),T,I,A,(),(),(),(),(),()]) rfl rfl w3.rs h3 w3.le 'a';let g4:Gs t f (-M) M M4:=g3>>(by let(n,h,o):=g3.has;show{1,n,zv _ _ h,o},λa o _ _ e=>zv a o e,'a');let jj:Ac (-R) Z (λe=>-(WW Z ad e)) as M4:=(zv _ _ a3,a4,λj g J h1 h2=>((a5 j g J h1 h2).len,(a5 j g J h1 h2).lt));let uu:bg Z as (-Z) (λe=>'r' (-WW Z ad e)):=λj g J _ h1 h2 x y hx hy e=>by
  let hl:=(a5 j g J h1 h2).len;let ex:('r' (-WW Z ad g.a)).getD x 0=x:=by simp[<-hl,hx]
  let ey:('r' (-WW Z ad g.a)).getD y 0=y:=by simp[<-hl,hy]
  erw[ex,ey]at e;rw[e]
 let(u,M5,e5,l5,s5,n5):=Dj (many:=4) (m:=m-1) (r_ hm) g4.has ⋯ ⋯;let(xw,M6,e6,(d5,zz,zu,zk,q8,qk,rfl),ms,V,z0,z3,g6,n6):=zf (S:=Lg) (W:=(prog.call (m-1),prog.cls)) (n:=u) rfl
  (ρ:=[sR t,sP K r Z,sI 3,D.vl (ym (-M) K),H,Q,N,L,C,sR (-R),T,I,A,sR (-U+K),(),(),(),(),()]) (M:=M4) (M1:=M5) (by simp[e5]) (e_ (b_ (o_ l5) ⋯))
  (λ_ B M'=>(∃Q T I A q0 qq:Option D,B=[sR t,sP K r Z,sI 3,↑(.vl (ym (-M) K)),H,Q,N,L,C,sR (-R),T,I,A,sR (-U+K),q0,qq,(),(),()]) /\
   ∃ms,Mk t (-U+K) K (λe=>-(WW Z ad e)) ms M'/\bg Z as (-Z) ms/\Ac (-R) Z (λe=>-(WW Z ad e)) as M'/\Gs t f (-M) M M'/\-U+K< -M')
  ({6,Q,T,I,A,(),(),rfl},_,u0.st s5 'a',uu,jj.of λo e=>s5.keep _ _ 'a' e,g4>>(Gs.iG s5),'a')
  (λi B M6 hi hI=>by
   symm
   let((Q,T,I,A,q0,qq,rfl),ms,q1,qc,X,q3,q4):=hI;let(c5,u4,y8,yk,yy,Ri,M7,e7,k1,kc,k2,k3):=RN (m:=m-1) (r:=r) (p:=-M) (r_ hm) P q3.has q1 X ht 'a' q4 'a' 'a' 'a' w3.le qc (a2:=↑⇑3) (a3:=↑(.vl (ym (-M) K))) (b4:=H) (b5:=Q) (b6:=N) (b7:=L) (b8:=C) (b10:=↑⇑i) (Nj:=I) (Xq:=A) (cw:=q0) (cx:=qq) (n16:=()) (n17:=()) (n18:=());left;show(_,.next,_,M7,rfl,e7,.inl rfl,{6,c5,sI i,u4,y8,yk,yy,rfl},Ri,k1,kc,k2,q3>>k3,by let:=k3.len;show b_ q4 this))
 left;let(O,e7,qv,zw):=RP (W:=(prog.call (m-1),prog.cls)) (M:=M6) (ρ:=[sR t,sP K r Z,sI 3,D.vl (ym (-M) K),H,d5,N,L,C,sR (-R),zz,zu,zk,sR (-U+K),q8,qk,(),(),()]) rfl rfl V h3 w3.le;let zj:∀e,e<K->∃l,O[e]?\l/\-l<=7/\∀x,x∈l↔x∈ms e:=λe he=>by let z:O[e]?=↑O[e]:=bh (b_ he (g_ qv));let(y1,_,y2):=zw e _ z;let:=w3.le e he;show{1,_,z,a_ y1 this,y2}
 symm
 let(xv,M8,e8,(y0,y7,j0,z7,rfl),td,t1,t2,t3,t4,g8,n8):=zf (S:=Ld) (W:=(prog.call (m-1),prog.cls)) (n:=-Z) rfl
  (ρ:=[sR t,sP K r Z,sI 3,D.vl (ym (-M) K),H,d5,N,L,C,sR (-R),zz,zu,zk,sR (-U+K),q8,qk,D.vl (O%Y8),sR (-M6),()]) (M:=M6++[.WK []]) (M1:=M6++[.WK []]) (by simp[Rh,Qm]) (a_ hl ⋯)
  (λj B M'=>(∃T I A zq:Option D,B=[sR t,sP K r Z,sI 3,↑(.vl (ym (-M) K)),H,d5,N,L,C,sR (-R),T,I,A,sR (-U+K),q8,qk,↑(.vl (O%Y8)),sR (-M6),zq]) /\
   ∃td:List (List Nat),M'[M6.length]?\(.WK (td%λJ=>.WL (J%nD)))/\-td=j/\(∀(j:Nat)(g:F)(J:Y2),Z[j]?\g->td[j]?\J->-J=(O%List.length).getD g.a 0/\∀x∈J,x<(O%List.length).getD g.b 0)/\(∀(j:Nat)(g:F)(J:Y2),Z[j]?\g->td[j]?\J->∃s la lb,as[j]?\s/\O[g.a]?\la/\O[g.b]?\lb/\J=Ud ms g s la lb)/\xj M6 M'/\-M'=-M6+1)
  ({4,zz,zu,zk,(),rfl},[],'b',rfl,'b','b',xj.ZP _ _,'b')
  (λj B M7 hj hI=>by
   symm
   let((T,I,A,zq,rfl),td,q1,X,q3,qe,q4,q5):=hI;let E:Z[j]?=↑Z[j]:=by simp[hj]
   let(sj,ej,_):=z3.get E;let hg:=az E;let(la,x1,x2,x3):=zj _ (P.Z9 _ hg);let(lb,y1,y2,y3):=zj _ (P.bT _ hg);let uk:=V.frame (M':=M7) (λa o _ _ e=>q4 a o e) 'a';let yv:=z3.of (M':=M7) λo e=>q4 _ _ e
   let(u7,zs,e9,kz,k1,k2):=RQ (W:=(prog.call (m-1),prog.cls)) (r:=r) uk yv (hl:=O) E ej (P.Z9 _ hg) (P.bT _ hg) x1 y1 x3 y3 x2 q1 (by simp;show c_ (f_ X) (b_ hj (a_ hl ⋯))) (a0:=↑↥t) (a2:=↑⇑3) (a3:=↑(.vl (ym (-M) K))) (b4:=H) (b5:=d5) (b6:=N) (b7:=L) (b8:=C) (Nj:=I) (Xq:=A) (cw:=q8) (cx:=qk) (oX:=zq);left;show(_,.next,_,_,rfl,e9,.inl rfl,{4,↑⇑j,↑(.int Z[j].a),↑(.int Z[j].b),u7,rfl},td++[zs],by rw[m6 q1];simp,by simp[X],λj' g q7 Xy Y=>?_,λj' g q7 Xy Y=>?_,λa o e=>?_,by simp[q5])
   .by_cases z:j'< -td
    .rw[gf z]at Y;show q3 j' g q7 Xy Y
    .let ze:j'=j:=by let:=(ak<*Y).1;simp at this;lia
     subst ze;rw[jf (s_ z),X]at Y;simp at Y;subst Y;rw[E]at Xy;cases Xy;let u1:(O%List.length).getD Z[j'].a 0=-la:=by simp[bx,x1]
     let u2:(O%List.length).getD Z[j'].b 0=-lb:=by simp[bx,y1]
     rw[u1,u2];show(k1,k2)
   .by_cases z:j'< -td
    .rw[gf z]at Y;show qe j' g q7 Xy Y
    .let ze:j'=j:=by let:=(ak<*Y).1;simp at this;lia
     subst ze;rw[jf (s_ z),X]at Y;simp at Y;subst Y;rw[E]at Xy;cases Xy;show{3,sj,la,lb,ej,x1,y1,kz}
   .rw[jw (by let:=wu e;show i_ this)];show q4 a o e)
 let c1:K7.WD (prog.call (m-1),prog.cls) [sR t,sP K r Z,sI 3,D.vl (ym (-M) K),H,d5,N,L,C,sR (-R),y0,y7,j0,sR (-U+K),q8,qk,D.vl (O%Y8),sR (-M6),z7] M8=.ok (.vl ((O%List.length)%nD)) M8:=by
  unfold K7;rw[Eg (d:=.vl (O%Y8)) (ds:=O%Y8) (M1:=M8) (g:=λd=>match d with|.vl l=>⇑(-l)|_=>.XQ) 'b' rfl (by simp;show a_ (f_ qv) (a_ h3 ⋯)) (λz hz=>by
   let(l,z4,rfl):=bu<*hz;show{1,_,rfl,?_};simp[Y8,qu,Yg])]
  simp[Y8,nD]
 left;show{3,O%List.length,td,M8,?_,(by simp[qv],t2,λx hx=>?_,t3,λj1 j2 g1 g2 z1 z2 h1 h2 eg q1 X x hx=>?_),?_,?_}
 .erw[zc,yp]at e2
  let jv:Ls.WD (prog.call (m-1),prog.cls) _ _=_:=e2;let z9:Lj.WD (prog.call (m-1),prog.cls) _ _=_:=e3;let z5:Lg.WD (prog.call (m-1),prog.cls) _ _=_:=e6;let xk:Ld.WD (prog.call (m-1),prog.cls) _ _=_:=e8;let xy:Q8.WD (prog.call (m-1),prog.cls) _ _=_:=r0;simp[-List.map_map,Fn.XM,Wu,Wt,xy,jv,MW.new,z9,e4,z5,e7,xk,c1,Jf,qu,Jo (ju t1),du]
 .symm
  let(l,z4,rfl):=bu<*hx;let(i,hi,rfl):=m9 z4;let(l2,y1,y2,_):=zj i (b_ hi (f_ qv));rw[bh hi]at y1;cases y1;left;show y2
 .symm
  let(s1,la,lb,i1,i2,i3,rfl):=t4 _ _ _ h1 q1;let(s2,x7,lc,i4,i5,i6,rfl):=t4 _ _ _ h2 X;rw[<-eg,i3]at i5;cases i5;let y4:x< -la:=by simpa[Ud]using hx
  left;rcases func P w3.nd V.len V.lt V.fx z0 a5 (λe l he=>(zw e l he).2) h1 h2 eg i1 i4 i2 i3 i6 y4 with⟨e1,e2⟩|⟨j3,e1,e2,e3⟩
  .rw[e2,Cr,dm e1]
  .symm
   let l3:=(ak<*e2).1;let u3:td[j3]?=↑td[j3]:=bh (b_ l3 (g_ t2));let(s3,R_,Rl,i7,i8,i9,y6):=t4 _ _ _ e2 u3;let i8:O[g1.a]?\R_:=i8;let i9:O[g2.b]?\Rl:=i9;rw[i2]at i8;cases i8;rw[i6]at i9;cases i9;let nj:¬((j3:Int)=-1):='a'
   left;rw[e3 _ i7,<-y6,Cr,e1,cz nj];simp[bx,u3]
 .refine gen P w3.nd w3.ap (by let:=lO w3.nd (n:=v) (λx hx=>by let(q,hq,rfl):=bu<*hx;show u6 q hq);rw[dh]at this;lia) w3.kd V.len V.lt V.fx z0 a5 a4 qv (λe l he=>(zw e l he).2) t2 t4
 .let:Gs t f (-M) M M8:=g6>>(by let(n,h,o):=g6.has;show{1,n,g8 _ _ h,o},λa o _ _ e=>g8 a o e,'a')
  show this.st
def ue(l:Y2):D:=.WL (l%nD)
def Ke(s:Y2)(a:List (List Nat))(M:fc):Ax (du s a) ⇑0 M\(ue s):=rfl
def iH(s:Y2)(a:List (List Nat))(M:fc):Ax (du s a) ⇑1 M\(.WL (a%ue)):=rfl
def Mi{l:Y2}(h:i< -l):Ax (ue l) ⇑i M\⇑(l.getD i 0):=Ik q_ (by simp[h,nD])
def oe{a:List (List Nat)}{j:Nat}(h:a[j]?\Z):Ax (.WL (a%ue)) ⇑j M\(ue Z):=Ik q_ (by simp[h])
def Za(Y:List F)(k:Nat):Ak Y k ⇑(-1)=k:=by simp[Ak]
def og(P:Hz sz K Z U)(T:⇑x∈uy Z k)(Y:⇑y∈uy Z (Ak Z k ⇑x)) :
 ∃v:Int,XC Z U x y\⇑v/\⇑v∈uy Z k/\Ak Z k ⇑v=Ak Z (Ak Z k ⇑x) ⇑y:=by
 rcases Ek T with q|⟨i,f,q,hf,ef⟩
 .cases q
  rw[Za]at Y⊢;show{1,y,by simp[XC],Y,rfl}
 .cases q
  rw[Em hf]at Y⊢;let B:¬((i:Int)=-1):='a'
  rcases Ek Y with q|⟨j,g,q,hg,eg⟩
  .cases q
   show(i,by simp[XC,B],T,by rw[Em hf,Za])
  .cases q
   let G:⇑(i:Int)∈wT Z k g.a:=jn.mpr (T,by simp[Em hf,eg]);let(L,z,_,C,J):=wd P hg G;cases z;let(O,N):=Wa J;show{1,_,C,O,by rw[N,Em hg]}
def Mj.act(w:Mj K hs Ge U){i:Nat}(G:hs[i]?\g):∃Z,U[i]?\Z/\(∀th,Cr U th i=Z.getD th 0)/\-Z=Ge.getD g.a 0/\∀x∈Z,x<Ge.getD g.b 0:=by
 let Y:=(ak<*G).1;let T:U[i]?\(U[i]'(by rw[w.la];show Y)):=bh _;generalize U[i]'(by rw[w.la];show Y)=Z at T;let J:¬((i:Int)=-1):='a'
 show{1,Z,T,λth=>by simp[Cr,J,bx,T],w.ok i g Z G T}
def We(Y:List (List Nat))(th:Nat):Cr Y th (-1)=th:=by simp[Cr]
def kS(w:Mj K Z U Gv)(J:⇑x∈uy Z k)(Y:th<U.getD k 0):Cr Gv th x<U.getD (Ak Z k ⇑x) 0:=by
 rcases Ek J with q|⟨i,f,q,hf,ef⟩
 .cases q;rw[We,Za];show Y
 .cases q
  let(O,C,T,G,B):=w.act hf;rw[T,Em hf];show B _ (XH (by rw[G,ef];show Y))
def kT(P:Hz sz K Z jo)(w:Mj K Z Ge Gv)(H:⇑x∈uy Z k)(B:⇑y∈uy Z (Ak Z k ⇑x))(Y:XC Z jo x y\⇑v)(G:U<Ge.getD k 0):Cr Gv (Cr Gv U x) y=Cr Gv U v:=by
 rcases Ek H with q|⟨i,f,q,hf,ef⟩
 .cases q
  let:v=y:=by simpa[XC]using Y.symm
  rw[We,this]
 .cases q
  let J:¬((i:Int)=-1):='a'
  rw[Em hf]at B;rcases Ek B with q|⟨j,g,q,hg,eg⟩
  .cases q
   let:v=i:=by simpa[XC,J]using Y.symm
   rw[We,this]
  .cases q
   let N:¬((j:Int)=-1):='a'
   rw[XC,cz J,cz N]at Y;let:=P.YD hf hg eg.symm;let T:v=YZ Z f g:=by let:=Y.symm>>this;simpa using this
   let(Q,C,R,E,_):=w.act hf;let(O,S,L,V,_):=w.act hg;rw[R,L,T];show w.fu i j f g Q O hf hg eg.symm C S U (by rw[E,ef];show G)
def kU(J:1<=m)(w:Mj K hs U Gv)(L:⇑x∈uy hs k)(Y:Z<U.getD k 0):prog.call m 28 [du U Gv,⇑Z,⇑x] M=.ok ⇑(Cr Gv Z x) M:=by
 rw[WQ J rfl];rcases Ek L with q|⟨i,g,q,hg,rfl⟩
 .cases q
  rw[We];simp[Fn.XM,Vs,Vr]
 .cases q
  let(T,N,B,C,_):=w.act hg;rw[B];let G:=Mi (M:=M) (l:=T) (i:=Z) (b_ Y (g_ C));let O:¬((i:Int)<0):='a'
  generalize T.getD Z 0=y at G;simp[Fn.XM,Vs,Vr,O,iH,oe N,G]
section
variable{W:Kh}{ρ:Env}{M:fc}{t:Tg}{it:Qz}{ds:List D}
def Xv{g:Nat->D}(T:it.WD W ρ M=.ok (.Ys ds) M)(N:-ds<=100000)(h:∀(i:Nat) d,ds[i]?\d->∃Z,t.put d (ρ++'R' k ())\Z/\e.WD W Z M=.ok (g i) M) :
 (Ex.WN true k t it e).WD W ρ M=.ok (.vl ('r' (-ds)%g)) M:=by
 rw[Pa,T];let(E,Y,O,C,rfl):=Jp (fin:=(XN.Ys ds).fin) (item:=(XN.Ys ds).item) (body:=λd M=>WR.wg (t.put d (ρ++'R' k ())) M*>λG M=>e.WD W G M*>λx Y=>.ok ↑x Y) (λi B Y=>B='r' i%g/\Y=M) (n:=-ds) (λi B Y J L=>by
  let(rfl,rfl):=L;let(Z,a,b):=h i ds[i] (by simp[J]);show{3,_,↑(g i),Y,by simp[XN.item,J];rfl,by rw[a];simp[b],by simp[tu],rfl}) (λ_ _ _=>rfl) (-ds) 0 [] M (xd _) (rfl,rfl)
 change(Bv (.Ys ds) _ Y)*>_=_;rw[Bv,show(XN.Ys ds).len=-ds from rfl,dm N,O,<-C];rfl
def kX{e:Ex}{n:Nat}(h:e.WD W ρ M=.ok ⇑(n:Nat) M)(Y:n<=100000):(Qz.aK e).WD W ρ M=.ok (.Ys ('r' n%nD)) M:=by rw[Uj,h,WR.Di];change(if(n:Int).natAbs<=100000 then _ else _)=_;rw[dm 'a'];rfl
def Xw{G:Ex}{n:Nat}{g:Nat->D}(T:G.WD W ρ M=.ok ⇑(n:Int) M)(J:n<=100000)(h:∀i,i<n->∃Z,t.put ⇑i (ρ++'R' k ())\Z/\e.WD W Z M=.ok (g i) M) :
 (Ex.WN true k t (.aK G) e).WD W ρ M=.ok (.vl ('r' n%g)) M:=by
 let:=Xv (t:=t) (k:=k) (e:=e) (g:=g) (kX T J) ('s' J) λi d Y=>by
  let B:i<n:=by simpa using(ak<*Y).1
  rw[ie,yo B]at Y;cases Y;show h i B
 simpa using this
end
def Ue{Y:Type}{l:List Y}{i:Nat}(h:i< -l):∃x,l[i]?\x:=(l[i],by simp[h])
def Gf{Y:Type}{l:List Y}{i:Nat}{x d:Y}(h:l[i]?\x):l.getD i d=x:=by simp[bx,h]
def Mj.s7(w:Mj K Z s a)(k:Nat):s.getD k 0<=7:=by
 rw[bx];cases e:s[k]? with
 |none=>show iw _|some x=>show w.sm x (az e)
abbrev Pl:=Nat×Nat
def wI(Y:List F)(k:Nat):List Int:=-1::('r' (-Y)).filter (Mh Y k)%λ(i:Nat)=>(i:Int)
def Ku(Y:List F)(k:Nat):uy Y k=wI Y k% .int:=by simp[uy,wI];show λ_ _ _=>rfl
def Bk:w∈wI Z k↔⇑w∈uy Z k:=by rw[Ku];simp
abbrev X3(hs:List F)(Gv:List (List Nat))(p:Pl)(w:Int):Pl:=(Ak hs p.1 ⇑w,Cr Gv p.2 w)
def Rt(P:Hz sz K Z U)(w:Mj K Z s a):ah Pl where
 V p:=p.1<K/\p.2<s.getD p.1 0
 W p:=wI Z p.1
 mv:=X3 Z a
 st p:=(by simp[wI],by simp[X3,Za,We])
 cl h hw:=(Ur P h.1 (Bk<*hw),kS w (Bk<*hw) h.2)
 tw {p x y} h hx hy:=by let(v,G,Y,T):=og P (Bk<*hx) (Bk<*hy);show(v,Bk.mpr Y,by erw[X3];rw[T,kT P w (Bk<*hx) (Bk<*hy) G h.2])
def oh(Y:1<=m)(T:⇑w∈uy Z k):prog.call m 19 [o7 K r Z,⇑k,⇑w] M=.ok ⇑(Ak Z k ⇑w) M:=by
 rcases Ek T with q|⟨i,f,q,hf,_⟩
 .cases q
  rw[WQ Y rfl,Za];simp[Fn.XM,Qg,Qf]
 .cases q
  rw[Em hf];show wc Y hf
abbrev KV:=List (List Kx×D)
def val(Y:KV)(q:Pl):Option D:=Am Y (ky q.1 q.2)
def Ro(Y:KV)(p q:Pl)(v:D):val (Fw Y (ky p.1 p.2) v) q=if q=p then ↑v else val Y q:=by
 rw[val,Xp]
 by_cases h:q=p
 .rw[h,dm rfl,dm rfl]
 .rw[cz h,cz λe=>h (by let(a,b):=iX e;show Prod.ext a b)];rfl
def SA{T:KV}(h:Ye T=true)(B:j<9)(J:k<9):Ye (Fw T (ky j k) v)=true:=by
 unfold Ye at h⊢;rw[jr]at h⊢;intro p Y;let:p.1=ky j k\/∃q∈T,q.1=p.1:=by
  unfold Fw at Y;split at Y
  .let(q,G,e):=bu<*Y
   show .inr (q,G,by rw[<-e];split<;>rfl)
  .rcases dz.mp Y with z|z
   .exact .inr (p,z,rfl)
   .rw[ig<*z];show .inl rfl
 rcases this with e|⟨q,G,e⟩
 .rw[e];simp[ky];lia
 .rw[<-e];show h q G
structure Alg(ws:X9)(hs:List F)(a1 a2:List (List Nat))(p:Pl)(g:Nat)(kv Oh:KV):Prop where
 new:∀w∈ws,val Oh (X3 hs a1 p w)\(nD (Cr a2 g w))
 old:∀q v,val kv q\v->val Oh q\v
 no:∀q v,val Oh q\v->val kv q\v\/∃w∈ws,q=X3 hs a1 p w
 sm:Ye Oh=true
 len:-Oh<=-kv+-ws
def Alg.put(h:Alg ws Z a1 a2 p g kv U)(J:val U (X3 Z a1 p w)=()\/val U (X3 Z a1 p w)\(nD (Cr a2 g w)))(O:(X3 Z a1 p w).1<9)(B:(X3 Z a1 p w).2<9):Alg (ws++[w]) Z a1 a2 p g kv (Fw U (ky (X3 Z a1 p w).1 (X3 Z a1 p w).2) (nD (Cr a2 g w))):=by
 let G:=λq=>Ro U (X3 Z a1 p w) q (nD (Cr a2 g w))
 show(λu T=>?_,λq v Y=>?_,λq v Y=>?_,SA h.sm O B,?_)
 .rw[G]
  rcases dz<*T with z|z
  .let c:=h.new u z
   by_cases e:X3 Z a1 p u=X3 Z a1 p w
   .rw[dm e]
    rw[e]at c;rcases J with d|d
    .rw[d]at c;cases c
    .rw[<-d];show c
   .rw[cz e];show c
  .rw[ig<*z,dm rfl]
 .rw[G]
  let c:=h.old q v Y
  by_cases e:q=X3 Z a1 p w
  .rw[dm e]
   rw[e]at c;rcases J with d|d
   .rw[d]at c;cases c
   .rw[<-d];show c
  .rw[cz e];show c
 .rw[G]at Y
  by_cases e:q=X3 Z a1 p w
  .exact .inr (w,'b',e)
  .rw[cz e]at Y
   rcases h.no q v Y with z|⟨u,T,z⟩
   .exact .inl z
   .exact .inr (u,qw _ T,z)
 .let O:=oT U (ky (X3 Z a1 p w).1 (X3 Z a1 p w).2) (nD (Cr a2 g w))
  let B:=h.len;rw[m5];simp;lia
def SD(h:M[n]?\(.dT Z))(Y:Ut b\k):Kg .get ↥n [b,d] M=.ok ((Am Z k).getD d) M:=by simp[Kg,gG,h,Y]
def xW(h:M[n]?\(.dT Z)):Oo .get ↥n M=true:=by simp[Oo,h]
abbrev G7(p:Pl):D:=.WL [⇑p.1,⇑p.2]
abbrev EA(pt w1 w2:D)(n:Nat)(p:Pl)(g:Nat)(b6 b7 b8 b9:Option D):Env:=[↑pt,↑w1,↑w2,sR n,↑(G7 p),sI g,b6,b7,b8,b9]
def SE(E:2<=m)(P:Hz sz K Z jo)(F:Mj K Z s1 a1)(w2:Mj K Z s2 a2)(hk:p.1<K)(hx:p.2<s1.getD p.1 0)(hg:g<s2.getD p.1 0)(hn:M[n]?\(.dT kv))(L:Ye kv=true)(hl:-kv<=1000)(hv:∀q v,val kv q\v->∃y,v=nD y) :
 ∃d U,prog.call m 29 [o7 K r Z,du s1 a1,du s2 a2,↥n,G7 p,⇑g] M=.ok d U/\xj M U/\(d=.XQ\/∃Oh,d=↥(-M)/\U[M.length]?\(.dT Oh)/\Alg (wI Z p.1) Z a1 a2 p g kv Oh):=by
 rw[WQ (a_ ⋯ E) rfl];let C:=P.len;let h3:=P.k3;let wl:-(uy Z p.1)=-wI Z p.1:=by rw[Ku,dh]
 let go:=iV (S:=Hq) (W:=PW (m-1)) (ρ:=EA (o7 K r Z) (du s1 a1) (du s2 a2) n p g (sR (-M)) () () ()) (M:=M++[.dT kv]) (M1:=M++[.dT kv]) (s:=.Ys (uy Z p.1)) (n:=-wI Z p.1) rfl
  (by simp[Xn (m:=m-1) (r_ E) C,YJ]) wl
  (λi N U=>(∃R T B,N=EA (o7 K r Z) (du s1 a1) (du s2 a2) n p g (sR (-M)) R T B)/\xj M U/\∃Oh,U[M.length]?\(.dT Oh)/\Alg ((wI Z p.1).take i) Z a1 a2 p g kv Oh)
  (λd U=>d=.XQ/\xj M U) ({3,(),(),(),rfl},xj.ZP _ _,kv,Ft,'b',λ_ _ h=>h,λ_ _ h=>.inl h,L,x_) (λ_ _ _=>rfl)
  (λi N U hi hI=>by
   symm
   let((R,T,B,rfl),O,Oh,G,J):=hI;let(w,H):=Ue hi;let Y:⇑w∈uy Z p.1:=Bk<*(az H);let A:=oh (m:=m-1) (K:=K) (r:=r) (M:=U) (r_ E) Y;let I:=kU (m:=m-1) (M:=U) (r_ E) F Y hx;let X:=kU (m:=m-1) (M:=U) (r_ E) w2 Y hg;let k1:=Ur P hk Y;let k2:=kS F Y hx;let k3:=F.s7 (Ak Z p.1 ⇑w);let kt:Ut (.WL [⇑(Ak Z p.1 ⇑w),⇑(Cr a1 p.2 w)])\(ky (Ak Z p.1 ⇑w) (Cr a1 p.2 w)):=rfl;left;let tk:(wI Z p.1).take (i+1)=(wI Z p.1).take i++[w]:=by rw[zr,H];rfl
   let V:=SD (d:=⇑(Cr a2 g w)) G kt;let len:=J.len;let qk:-((wI Z p.1).take i)<=6:=a_ (Dt i _) (by rw[<-wl];show Pr C)
   let st:=qZ (d:=⇑(Cr a2 g w)) G kt 'a';show{2,⇑w,EA (o7 K r Z) (du s1 a1) (du s2 a2) n p g (sR (-M)) ↑⇑w T B,by simp[XN.item,Ku,H],rfl,?_};let ok:∀y:Nat,(Am Oh (ky (Ak Z p.1 ⇑w) (Cr a1 p.2 w))).getD ⇑(Cr a2 g w)=⇑y->(y=Cr a2 g w->val Oh (X3 Z a1 p w)=()\/val Oh (X3 Z a1 p w)\(nD (Cr a2 g w)))->Goes (λi N U=>(∃R T B,N=EA (o7 K r Z) (du s1 a1) (du s2 a2) n p g (sR (-M)) R T B)/\xj M U/\∃Oh,U[M.length]?\(.dT Oh)/\Alg ((wI Z p.1).take i) Z a1 a2 p g kv Oh) (λd U=>d=.XQ/\xj M U) (i+1) (Ho.WD (PW (m-1)) (EA (o7 K r Z) (du s1 a1) (du s2 a2) n p g (sR (-M)) ↑⇑w T B) U):=λy hy hc=>by
    rw[hy]at V
    by_cases z:y=Cr a2 g w
    .let pu:=J.put (w:=w) (hc z) (show Ak Z p.1 ⇑w<9 by lia) (show Cr a1 p.2 w<9 by lia)
     show{3,.next,EA (o7 K r Z) (du s1 a1) (du s2 a2) n p g (sR (-M)) ↑⇑w ↑(G7 (X3 Z a1 p w)) (sI (Cr a2 g w)),_,?_,.inl (rfl,{3,_,_,_,rfl},λa o ha=>?_,_,m6 G,by rw[tk];show pu)}
     .simp[Ho,A,I,X,xW G,V,st,z];rfl
     .rw[jw (i_ (wu ha))];show O a o ha
    .let z':¬((y:Int)=(Cr a2 g w:Int)):=λe=>z (D_ e)
     show{3,.ret .XQ,EA (o7 K r Z) (du s1 a1) (du s2 a2) n p g (sR (-M)) ↑⇑w ↑(G7 (X3 Z a1 p w)) (sI (Cr a2 g w)),U,by simp[Ho,A,I,X,xW G,V,z'],.inr (_,rfl,rfl,O)}
   cases e:val Oh (X3 Z a1 p w)with
   |none =>
    let Q:Am Oh (ky (Ak Z p.1 ⇑w) (Cr a1 p.2 w))=():=e;show ok (Cr a2 g w) (by rw[Q];rfl) λ_=>.inl e
   |some v =>
    let Q:Am Oh (ky (Ak Z p.1 ⇑w) (Cr a1 p.2 w))\v:=e;obtain⟨y,rfl⟩:∃y,v=nD y:=by
     rcases J.no _ _ e with z|⟨u,hu,z⟩
     .exact hv _ _ z
     .rw[z,J.new u hu]at e;cases e;show(_,rfl)
    show ok y (by rw[Q];rfl) λz=>.inr (by rw[e,z]))
 let D:qu .dict [↥n] M=.ok ↥(-M) (M++[.dT kv]):=by simp[qu,hn,L,MW.new]
 obtain⟨fl,qq,U,e,⟨rfl,⟨R,T,B,rfl⟩,O,Oh,G,J⟩|⟨v,rfl,rfl,O⟩⟩:=go
 .let e:Hq.WD _ _ _=_:=e
  rw[An]at J;show{2,_,U,by simp[Fn.XM,Qi,Qh,D,e],O,.inr {1,Oh,rfl,G,J}}
 .let e:Hq.WD _ _ _=_:=e
  show{2,_,U,by simp[Fn.XM,Qi,Qh,D,e],O,.inl rfl}
def Hc(T:it.WD W U M=.ok d M1)(O:gr M1 d\ds)(N:-ds<=100000)(h:∀x∈ds,∃Z,t.put x (U++'R' k ())\Z/\c.WD W Z M1=.ok (.bl (q x)) M1/\e.WD W Z M1=.ok x M1) :
 (Ex.Eo true k t (.val it) c e).WD W U M=.ok (.vl (ds.filter q)) M1:=by
 rw[Ni,Mu,T];let(s,E,G):=Tn (g:=λx=>if q x then ↑x else ()) (body:=λd M=>WR.wg (t.put d (U++'R' k ())) M*>λY M=>c.WD W Y M*>λb B =>
  match b with
   |.bl true=>e.WD W Y B*>λx J=>.ok ↑x J
   |.bl false=>.ok () B|_=>.WY) O N (λx P=>by
  let(Z,a,b,c):=h x P;rw[a,WR.Fq,WR.Di,b,WR.Di];cases e:q x with
  | true=>simp[c]|false=>simp)
 let:ds.filterMap (λx=>if q x then ↑x else ())=ds.filter q:=by
  clear O N h G
  induction ds with
  |nil=>rfl|cons a l L=>cases e:q a<;>simp[e,L]
 rw[this]at G;rw[WR.Di,E,WR.Fq,WR.Di];show rm (λr:WR (List D)=>r*>λds C=>if true=true then .ok (.vl ds) C else new (.WK ds) C) G
def SF(p q:Pl):Bb M (G7 p) (G7 q)\(decide (p=q)):=by
 change U0 (Mm M 5) [⇑p.1,⇑p.2] [⇑q.1,⇑q.2]=_;rw[Fy (x:=decide (p.1=q.1)) (y:=decide (p.2=q.2)) (by rw[Wo];simp[Bc]) (by rw[Fy (x:=decide (p.2=q.2)) (y:=true) (by rw[Wo];simp[Bc]) rfl,Bool.and_true])]
 by_cases h:p=q
 .simp[h]
 .simp[h];intro Y T;show h (Prod.ext Y T)
def SG(p:Pl)(Y:List Pl):_O M (G7 p) (Y%G7)\(decide (p∈Y)):=by
 let:Pz M (G7 p) (Y%G7)\(Y%λq=>decide (q=p)):=by
  induction Y with
  |nil=>rfl|cons q Y J=>simp[Pz,SF,J]
 rw[_O,this];erw[xq,List.any_map,Bj];rw[Ay,Bx,f9];show(λ(x,T,G)=>by rw[<-j8 G];show T,λh=>(p,h,uw rfl))
def xX(h:M[n]?\(.WK Z))(Y:-Z+-ys<100000):Kg .extend ↥n [.vl ys] M=.ok .XQ (M.set n (.WK (Z++ys))):=by simp[Kg,cJ,h,Y]
def xY(h:M[n]?\(.WK Z)):Oo .extend ↥n M=true:=by simp[Oo,gr,h]
def xZ(G:List F)(a:List (List Nat))(k:Nat)(Y:List Pl):Prop:=-Y<=7*k/\∀q,q∈Y↔∃(j:Nat)(g:F)(T:Y2),j<k/\G[j]?\g/\a[j]?\T/\q.1=g.b/\q.2∈T
def xa(s:Y2)(k:Nat)(Y:List Pl):Prop:=-Y<=7*k/\∀q,q∈Y↔q.1<k/\q.2<s.getD q.1 0
abbrev bj(pt w:D)(b2 b3 b4 b5:Option D):Env:=[↑pt,↑w,b2,b3,b4,b5]
def SH(P:Hz sz K Z jo)(w:Mj K Z s a):∃U M',J7.WD W (bj (o7 K r Z) (du s a) (sR (-M)) () () ()) (M++[.WK []])=.ok (.next,U) M' /\
 (∃b3,U=bj (o7 K r Z) (du s a) (sR (-M)) b3 () ())/\xj M M'/\∃ps,M'[M.length]?\(.WK (ps%G7))/\xZ Z a (-Z) ps:=by
 let N:=P.len;show zf (S:=J7) (W:=W) (n:=-Z) (M1:=M++[.WK []]) rfl (by simp[Rh,Qm]) (a_ N ⋯)
  (λj U M'=>(∃b3,U=bj (o7 K r Z) (du s a) (sR (-M)) b3 () ())/\xj M M'/\∃ps,M'[M.length]?\(.WK (ps%G7))/\xZ Z a j ps)
  (((),rfl),xj.ZP _ _,[],Ft,'b',λq=>(λh=>absurd h 'b',λ(_,_,_,h,_)=>absurd h (vz _))) (λj ρ M1 A X=>?_)
 symm
 let((b3,rfl),F,ps,C,h2,D):=X;let(g,B):=Ue A;let(T,E,_,jl,_):=w.act B;let l7:=w.s7 g.a;let c:J6.WD W (bj (o7 K r Z) (du s a) (sR (-M)) (sI j) () ()) M1=.ok (.vl ((T%λy=>(g.b,y))%G7)) M1:=by
  unfold J6;rw[Gu (ds:=T%nD) (M1:=M1) (g:=λd=>.WL [⇑g.b,d]) (by simp[iH,oe E];rfl) (by simp;lia) (λx hx=>{1,_,rfl,by simp[Rh,Vi B,W9]})]
  simp;show λ_ _=>rfl
 let e:=xX C (ys:=(T%λy=>(g.b,y))%G7) (by simp;lia);left;show{4,bj (o7 K r Z) (du s a) (sR (-M)) (sI j) () (),.next,_,M1.set (-M) (.WK (ps%G7++(T%λy=>(g.b,y))%G7)),rfl,by simp[-List.map_map,Rc,xY C,c,e];rfl,.inl rfl,(_,rfl),λb o V=>?_,(ps++T%(λy=>(g.b,y)),?_,?_,λq=>?_)}
 .rw[jw (i_ (wu V))];show F b o V
 .rw[m6 C,jc]
 .simp;lia
 .rw[dz,D]
  constructor
  .rintro(⟨L,R,Y,Q,G,J,O⟩|h)
   .exact{3,L,R,Y,lz Q,G,J,O}
   .let(y,I,rfl):=bu<*h
    show{3,j,g,T,mz j,B,E,rfl,I}
  .rintro⟨L,R,Y,Q,G,J,O,H⟩
   rcases Nat.lt_or_eq_of_le (Bh Q)with z|z
   .exact .inl {3,L,R,Y,z,G,J,O,H}
   .subst z
    rw[B]at G;cases G;rw[E]at J;cases J;show .inr (bu.mpr (q.2,H,by rw[<-O]))
def SI(P:Hz sz K hs jo)(w:Mj K hs s a):∃Z U,J5.WD W (bj (o7 K r hs) (du s a) (sR e2) b3 (sR (-M)) ()) (M++[.WK []])=.ok (.next,Z) U /\
 (∃b5,Z=bj (o7 K r hs) (du s a) (sR e2) b3 (sR (-M)) b5)/\xj M U/\∃ps,U[M.length]?\(.WK (ps%G7))/\xa s K ps:=by
 let k3:=P.k3;show zf (S:=J5) (W:=W) (n:=K) (M:=M++[.WK []]) (M1:=M++[.WK []]) rfl (by simp[Z4]) (a_ k3 ⋯)
  (λj Z U=>(∃b5,Z=bj (o7 K r hs) (du s a) (sR e2) b3 (sR (-M)) b5)/\xj M U/\∃ps,U[M.length]?\(.WK (ps%G7))/\xa s j ps)
  (((),rfl),xj.ZP _ _,[],Ft,'b',λq=>(λh=>absurd h 'b',λh=>absurd h.1 (vz _))) (λj R M1 L C=>?_)
 symm
 let((b5,rfl),N,ps,G,Q,E):=C;let l7:=w.s7 j;let B:=Mi (M:=M1) (l:=s) (i:=j) (by rw[w.ls];show L);generalize hz:s.getD j 0=z at l7 B;let c:J2.WD W (bj (o7 K r hs) (du s a) (sR e2) b3 (sR (-M)) (sI j)) M1=.ok (.vl (('r' z%λy=>(j,y))%G7)) M1:=by unfold J2;rw[Xw (n:=z) (g:=λy=>G7 (j,y)) (by simp[Ke,B]) 'a' (λx H=>{1,_,rfl,'b'})];simp
 let e:=xX G (ys:=('r' z%λy=>(j,y))%G7) (by simp;lia);left;show{4,bj (o7 K r hs) (du s a) (sR e2) b3 (sR (-M)) (sI j),.next,_,M1.set (-M) (.WK (ps%G7++('r' z%λy=>(j,y))%G7)),rfl,by simp[-List.map_map,Rb,xY G,c,e];rfl,.inl rfl,(_,rfl),λb o J=>?_,(ps++'r' z%(λy=>(j,y)),?_,?_,λq=>?_)}
 .rw[jw (i_ (wu J))];show N b o J
 .rw[m6 G,jc]
 .simp;lia
 .rw[dz,E]
  constructor
  .rintro(⟨T,Y⟩|h)
   .exact(lz T,Y)
   .let(y,O,rfl):=bu<*h
    show(mz j,by rw[hz];show jg<*O)
  .rintro⟨T,Y⟩
   rcases Nat.lt_or_eq_of_le (Bh T)with y|y
   .exact .inl (y,Y)
   .exact .inr (bu.mpr (q.2,jg.mpr (by rw[<-hz,<-y];show Y),by rw[<-y]))
def SJ(hm:1<=m)(P:Hz sz K Z jo)(w:Mj K Z s a):∃(N E:List Pl)(I:fc),prog.call m 30 [o7 K r Z,du s a] M=.ok (.vl ((N++E)%G7)) I/\xj M I/\(∀p∈N,(Rt P w).V p/\¬(Rt P w).End p)/\(∀q,(Rt P w).V q->¬(Rt P w).End q->q∈N)/\(∀q,q∈N++E↔(Rt P w).V q)/\-(N++E)<=42:=by
 rw[WQ hm rfl];symm
 let(qk,B,e1,(Q,rfl),k1,Y,h1,n1,m1):=SH (W:=PW (m-1)) (M:=M) (r:=r) P w;let(qq,M2,X,(b5,rfl),k2,T,h2,n2,G):=SI (W:=PW (m-1)) (M:=B) (r:=r) (e2:=-M) (b3:=Q) P w;let k3:=P.k3;let he:M2[M.length]?\(.WK (Y%G7)):=k2 _ _ h1;let D:∀q,q∈Y↔(Rt P w).End q:=λq=>by
  rw[m1];constructor
  .rintro⟨j,g,F,_,R,hj,A,H⟩
   symm
   let(qv,e,L,C,_):=w.act R;rw[hj]at e;cases e;let(x,J,e):=m9 H;left;show{1,(g.a,x),(P.Z9 g (az R),by rw[<-C];show J),(j,Bk.mpr (Wa (oO R rfl)).1,'a',Prod.ext ?_ ?_)}
   .change q.1=Ak Z g.a ⇑j
    rw[Em R,A]
   .change q.2=Cr a x j
    rw[L,bx,bh J,e];rfl
  .rintro⟨x,⟨v1,v2⟩,k,hk,nk,rfl⟩
   rcases Ek (Bk<*hk)with z|⟨i,f,z,hf,ef⟩
   .cases z;show absurd rfl nk
   .cases z
    let(F,e,L,C,_):=w.act hf;show{3,i,f,F,(ak<*hf).1,hf,e,Em (k:=x.1) hf,?_};change Cr a x.2 i∈F;rw[L];show XH (by rw[C,ef];show v2)
 let mo:∀p,Nu M2 (G7 p) ↥(-M)\(decide (p∈Y)):=λp=>by erw[Nu,he,Cm,gr,uo];show SG p Y
 let U:∀q:Pl->Bool,(T%G7).filter (λd=>match d with|.WL [⇑i,⇑j]=>q (i.toNat,j.toNat)|_=>false)=T.filter q%G7:=λq=>by rw[List.filter_map];rfl
 left;let O:-(T%G7)<=100000:=by simp;lia
 let c1:Q9.WD (PW (m-1)) (bj (o7 K r Z) (du s a) (sR (-M)) Q (sR (-B)) b5) M2=.ok (.vl ((T.filter λp=>!decide (p∈Y))%G7)) M2:=by rw[<-U];show Hc (d:=↥(-B)) 'b' (ju h2) O λx J=>by let(p,_,rfl):=bu<*J;show{1,_,rfl,by simp[mo],'b'}
 let c2:Ra.WD (PW (m-1)) (bj (o7 K r Z) (du s a) (sR (-M)) Q (sR (-B)) b5) M2=.ok (.vl ((T.filter λp=>decide (p∈Y))%G7)) M2:=by rw[<-U];show Hc (d:=↥(-B)) 'b' (ju h2) O λx J=>by let(p,_,rfl):=bu<*J;show{1,_,rfl,by simp[mo],'b'}
 let L:=p8 (λp=>!decide (p∈Y)) T;let C:=p8 (λp=>decide (p∈Y)) T;show{3,T.filter λp=>!decide (p∈Y),T.filter λp=>decide (p∈Y),M2,?_,k1>>k2,λp hp=>?_,λq S ne=>?_,λq=>?_,by rw[m5];lia}
 .let ad:=Uk (M:=M2) ((T.filter λp=>!decide (p∈Y))%G7) ((T.filter λp=>decide (p∈Y))%G7) (by erw[dh];lia)
  simp[-List.map_append,Fn.XM,Va,U9,MW.new,e1,X,c1,c2,ad];rw[jc]
 .let(A,H):=jn<*hp
  show(G p<*A,λz=>by simp[(D p).mpr z]at H)
 .exact jn.mpr ((G q).mpr S,by simp[(D q),ne])
 .rw[dz,jn,jn]
  constructor
  .rintro(z|z)
   .exact(G q)<*z.1
   .exact(G q)<*z.1
  .intro S
   by_cases z:q∈Y
   .exact .inr ((G q).mpr S,by simp[z])
   .exact .inl ((G q).mpr S,by simp[z])
structure Pm(S:ah Pl)(a2:List (List Nat))(s2:Y2)(l:List Pl)(kv:KV):Prop where
 dom:∀q,(∃v,val kv q\v)↔S.Dm l q
 num:∀q v,val kv q\v->∃y,v=nD y/\y<s2.getD q.1 0
 ev:∀q y,val kv q\(nD y)->∀w∈S.W q,val kv (S.mv q w)\(nD (Cr a2 y w))
 sm:Ye kv=true
 le:-kv<=6*-l
def dW(G T:KV):Prop:=∃q v Y,val G q\v/\val T q\Y/\v≠Y
def Ext(T Y:KV):Prop:=∀q v,val T q\v->val Y q\v
def dW.ext(h:dW a b)(B:Ext a Z)(G:Ext b b'):dW Z b':=by let(q,v,Y,O,T,J):=h;show{3,q,v,Y,B _ _ O,G _ _ T,J}
def Bd(S:ah Pl)(T:List (List Nat))(Y:Y2)(l:List Pl):Prop:=∀W_:List (Nat×KV),(∀x∈W_,Pm S T Y l x.2)->W_.Pairwise (λx y=>dW x.2 y.2)->-W_<=5764801
def iI(Y:KV)(q:Pl):Nat:=match val Y q with|some ⇑i=>i.toNat|_=>0
def Qw(h:val Z q\(nD y)):iI Z q=y:=by simp[iI,h,nD]
def SK{S:ah Pl}(F:Mj K Z s2 a2)(E:∃A:List Pl,-A<=8/\(∀a∈A,S.Dm l a)/\∀q,S.Dm l q->∃a∈A,S.R a q):Bd S a2 s2 l:=λW_ G W=>by
 let(A,Q,M,V):=E;let get:∀{x},x∈W_->∀{q},S.Dm l q->∃y,val x.2 q\(nD y)/\y<s2.getD q.1 0:=fun{x} Y {q} J=>by let(v,N):=((G x Y).dom q).mpr J;let(y,rfl,T):=(G x Y).num _ _ N;show(y,N,T)
 let:=ah.count (S:=S) (A:=A) (D:=S.Dm l) (fs:=W_%λx=>iI x.2) (act:=λ_ v w=>Cr a2 v w) Q M V (λf B q J=>by
  let(x,Y,rfl):=bu<*B;let(y,e,T):=get Y J;rw[Qw e];show b_ T (F.s7 _)) (λf B p L w H=>by
  let(x,Y,rfl):=bu<*B;let(y,e,T):=get Y L;rw[Qw e,Qw ((G x Y).ev _ _ e w H)]) (by
  rw[vh];show W.imp_of_mem fun{x y} Y T h=>?_
  let(q,v,I,O,C,P):=h;let(z,rfl,_):=(G x Y).num _ _ O;let(X,rfl,_):=(G y T).num _ _ C;show(q,(G x Y).dom q<*(_,O),by rw[Qw O,Qw C];show λe=>P (by rw[e])))
 rw[dh]at this;show this
def xb{S:ah Pl}:S.Dm (l++[p]) q↔S.Dm l q\/S.R p q:=by
 constructor
 .rintro⟨x,T,Y⟩
  rcases dz<*T with z|z
  .exact .inl (x,z,Y)
  .rw[ig<*z]at Y;show .inr Y
 .rintro(⟨x,T,Y⟩|h)
  .exact(x,qw _ T,Y)
  .exact(p,'b',h)
def Pm.nil{S:ah Pl}:Pm S a2 s2 [] []:=(λq=>(λ(v,h)=>by simp[val,Am]at h,λ(p,h,_)=>by cases h),λq v h=>by simp[val,Am]at h,λq v h=>by simp[val,Am]at h,rfl,iw _)
def Pm.ZQ{S:ah Pl}(h:Pm S a2 s2 l kv)(Y:S.Dm l p):Pm S a2 s2 (l++[p]) kv:=by show(λq=>?_,h.num,h.ev,h.sm,by let:=h.le;rw[m5];lia);rw[h.dom,xb];show(.inl,λz=>z.elim id λr=>Y.cl r)
def Pm.XF{P:Hz sz K Z jo}{B:Mj K Z s1 a1}(N:Mj K Z s2 a2)(h:Pm (Rt P B) a2 s2 l U)(L:(Rt P B).V p)(R:g<s2.getD p.1 0)(G:Alg (wI Z p.1) Z a1 a2 p g U Oh):Pm (Rt P B) a2 s2 (l++[p]) Oh:=by
 let O:∀q v,val Oh q\v->val U q\v\/∃w∈wI Z p.1,q=X3 Z a1 p w/\v=nD (Cr a2 g w):=λq v T=>by
  rcases G.no q v T with z|⟨w,Y,rfl⟩
  .exact .inl z
  .rw[G.new w Y]at T;cases T
   show .inr {1,w,Y,rfl,rfl}
 show(λq=>?_,λq v T=>?_,λq y T u J=>?_,G.sm,?_)
 .rw[xb]
  constructor
  .rintro⟨v,T⟩
   rcases O q v T with z|⟨w,Y,z,_⟩
   .exact .inl (h.dom q<*(v,z))
   .exact .inr (L,w,Y,z)
  .rintro(z|⟨_,w,Y,z⟩)
   .let(v,T):=(h.dom q).mpr z
    show(v,G.old q v T)
   .rw[z];show(_,G.new w Y)
 .rcases O q v T with z|⟨w,Y,rfl,rfl⟩
  .exact h.num q v z
  .exact(_,rfl,kS N (Bk<*Y) R)
 .rcases O q _ T with z|⟨w,Y,rfl,e⟩
  .exact G.old _ _ (h.ev q y z u J)
  .let W:y=Cr a2 g w:=oY e
   let(v,C,E,S):=og P (Bk<*Y) (Bk<*J);let Q:=kT P B (Bk<*Y) (Bk<*J) C L.2;let H:=kT P N (Bk<*Y) (Bk<*J) C R;let:=G.new v (Bk.mpr E);rw[W,H,<-this];change val Oh (X3 Z a1 (X3 Z a1 p w) u)=val Oh (X3 Z a1 p v);erw[X3];rw[S,Q]
 .let C:=h.le
  let E:=G.len;let S:-(wI Z p.1)<=6:=by let:=Pr (k:=p.1) P.len;rw[Ku,dh]at this;show this
  rw[m5];simp;lia
abbrev rf(x:Nat×KV):D:=.ref x.1
structure Ot(S:ah Pl)(a2:List (List Nat))(s2:Y2)(l:List Pl)(d:D)(M:fc)(W_:List (Nat×KV)):Prop where
 ls:gr M d\(W_%rf)
 rw:∀x∈W_,M[x.1]?\(.dT x.2)
 pm:∀x∈W_,Pm S a2 s2 l x.2
 df:W_.Pairwise λx y=>dW x.2 y.2
def Ot.keep(h:Ot S a2 s2 l d M W_)(k:xj M Z):Ot S a2 s2 l d Z W_:=(k.gr h.ls,λx Y=>k _ _ (h.rw x Y),h.pm,h.df)
def xc(h:gr M ↥n\ds):M[n]?\(.WK ds):=by
 erw[gr]at h;cases e:M[n]? with
 |none=>rw[e]at h;cases h|some o=>cases o<;>rw[e]at h<;>cases h;rfl
def Ot.XS(h:Ot S a2 s2 l ↥Z M W_)(b:Bd S a2 s2 l)(C:M[x.1]?\(.dT x.2))(B:Pm S a2 s2 l x.2)(O:∀y∈W_,dW y.2 x.2) :
 ∃o,Oo .append ↥Z M=true/\Kg .append ↥Z [↥x.1] M=.ok .XQ (M.set Z o)/\Ot S a2 s2 l ↥Z (M.set Z o) (W_++[x]):=by
 let T:=xc h.ls;let N:=b W_ h.pm h.df;let G:∀y:Nat×KV,M[y.1]?\(.dT y.2)->Z≠y.1:=λy Y e=>by rw[e,Y]at T;cases T
 show{1,.WK (W_%rf++[rf x]),Gg T,lF T (by rw[dh];lia),(ju (by rw[m6 T,jc];rfl),λy Y=>?_,λy Y=>?_,?_)}
 .let:M[y.1]?\(.dT y.2):=by
   rcases dz<*Y with z|z
   .exact h.rw y z
   .rw[ig<*z];show C
  rw[jw (G y this)];show this
 .rcases dz.mp Y with z|z
  .exact h.pm y z
  .rw[ig<*z];show B
 .refine List.pairwise_append.mpr (h.df,Br _ _,λy Y z J=>?_)
  rw[ig<*J];show O y Y
abbrev EM(pt w1 w2:D)(b3 b4 b5 b6 b7 b8:Option D):Env:=[↑pt,↑w1,↑w2,b3,b4,b5,b6,b7,b8,(),(),()]
def SN(hm:3<=m)(P:Hz sz K hs jo)(Y:Mj K hs s1 a1)(O:Mj K hs s2 a2)(N:Pm (Rt P Y) a2 s2 l kv)(hl:-l<=100)(B:(Rt P Y).V p)(bd:Bd (Rt P Y) a2 s2 (l++[p]))(hn:M[n]?\(.dT kv))(X:Ot (Rt P Y) a2 s2 (l++[p]) ↥(-U) M W_)(D:xj U M)(fr:∀x∈W_,dW x.2 kv) :
 ∃qq M',N5.WD (PW m) (EM (o7 K r hs) (du s1 a1) (du s2 a2) b3 ↑(G7 p) (sR (-U)) (sR n) b7 b8) M=.ok (.next,qq) M' /\
  (∃b7 b8,qq=EM (o7 K r hs) (du s1 a1) (du s2 a2) b3 ↑(G7 p) (sR (-U)) (sR n) b7 b8)/\xj U M'/\M'[n]?\(.dT kv)/\∃Z,Ot (Rt P Y) a2 s2 (l++[p]) ↥(-U) M' (W_++Z)/\∀x∈Z,Ext kv x.2/\∃y,y<s2.getD p.1 0/\val x.2 p\(nD y):=by
 let F:=Mi (M:=M) (l:=s2) (i:=p.1) (by rw[O.ls];show B.1);let s7:=O.s7 p.1;show zf (S:=N5) (W:=PW m) (n:=s2.getD p.1 0) (M:=M) (M1:=M) rfl (by
  generalize s2.getD p.1 0=z at F;simp[Ke,F]) (a_ s7 ⋯)
  (λg qq M'=>(∃b7 b8,qq=EM (o7 K r hs) (du s1 a1) (du s2 a2) b3 ↑(G7 p) (sR (-U)) (sR n) b7 b8)/\xj U M'/\M'[n]?\(.dT kv)/\∃Z,Ot (Rt P Y) a2 s2 (l++[p]) ↥(-U) M' (W_++Z)/\∀x∈Z,Ext kv x.2/\∃y,y<g/\val x.2 p\(nD y))
  ({2,b7,b8,rfl},D,hn,[],by rw[De];show X,by simp) (λg ρ T H hI=>?_)
 symm
 let((b7,b8,rfl),Q,E,Z,R,f1):=hI;let(d,C,e,k2,z):=SE (m:=m) (r:=r) (M:=T) (a_ ⋯ hm) P Y O B.1 B.2 H E N.sm (by let:=N.le;lia) (λq v hv=>by let(y,h,_):=N.num q v hv;show(y,h));left;rcases z with rfl|⟨Oh,rfl,h1,al⟩
 .refine{4,EM (o7 K r hs) (du s1 a1) (du s2 a2) b3 ↑(G7 p) (sR (-U)) (sR n) (sI g) b8,.next,EM (o7 K r hs) (du s1 a1) (du s2 a2) b3 ↑(G7 p) (sR (-U)) (sR n) (sI g) ↑.XQ,C,rfl,?_,.inl rfl,{2,_,_,rfl},Q>>k2,k2 _ _ E,(Z,R.keep k2,λx L=>?_)}
  .let:Mp .Wi .XQ .XQ C\false:=rfl
   simp[Nz,e,this]
  .let(a,y,b,c):=f1 x L
   show(a,y,lz b,c)
 .let A:val Oh p\(nD g):=by
   let:=al.new (-1) (by simp[wI]);rw[We]at this;show(rm (val Oh) (((Rt P Y).st p).2).symm)>>this
  let(o,t1,t2,t3):=(R.keep k2).XS bd (x:=(-T,Oh)) h1 (N.XF O B H al) (λy hy=>by
   rcases dz<*hy with z|z
   .exact(fr y z).ext (λ_ _ h=>h) al.old
   .let(_,y',h2,h3):=f1 y z
    show{3,p,_,_,h3,A,λe=>by let:=oY e;lia})
  let J:=k2 _ _ E;let G:=xc (R.keep k2).ls;show{4,EM (o7 K r hs) (du s1 a1) (du s2 a2) b3 ↑(G7 p) (sR (-U)) (sR n) (sI g) b8,.next,EM (o7 K r hs) (du s1 a1) (du s2 a2) b3 ↑(G7 p) (sR (-U)) (sR n) (sI g) (sR (-T)),C.set (-U) o,rfl,?_,.inl rfl,{2,_,_,rfl},λa o I=>?_,?_,(Z++[(-T,Oh)],by rw[<-yj];show t3,λx L=>?_)}
  .let:Mp .Wi ↥(-T) .XQ C\true:=rfl
   simp[Nz,e,this,t1,t2]
  .rw[jw (i_ (wu I))];show k2 _ _ (Q _ _ I)
  .rw[jw (λe=>by rw[e,J]at G;cases G)];show J
  .rcases dz.mp L with z|z
   .let(a,y,b,c):=f1 x z
    show(a,y,lz b,c)
   .rw[ig<*z]
    show(al.old,g,mz g,A)
def SO(hm:3<=m)(P:Hz sz K U jo)(G:Mj K U s1 a1)(w2:Mj K U s2 a2)(hl:-l<=100)(hp:(Rt P G).V p)(bd:Bd (Rt P G) a2 s2 (l++[p]))(N:Ot (Rt P G) a2 s2 l d M ps) :
 ∃Z M',N7.WD (PW m) (EM (o7 K r U) (du s1 a1) (du s2 a2) ↑d ↑(G7 p) b5 b6 b7 b8) M=.ok (.next,Z) M' /\
  (∃b5 b6 b7 b8 d' qq,Z=EM (o7 K r U) (du s1 a1) (du s2 a2) ↑d' ↑(G7 p) b5 b6 b7 b8/\Ot (Rt P G) a2 s2 (l++[p]) d' M' qq)/\xj M M':=by
 symm
 let(Z,M',e,(A,H,I,rfl),J,W_,o1,_):=Fv (S:=Vf) (W:=PW m) (d:=d) (ds:=ps%rf) (ρ:=EM (o7 K r U) (du s1 a1) (du s2 a2) ↑d ↑(G7 p) (sR (-M)) b6 b7 b8) (M:=M++[.WK []]) (M1:=M++[.WK []]) rfl 'b' ((xj.ZP _ _).gr N.ls)
  (λi Z M'=>(∃b6 b7 b8,Z=EM (o7 K r U) (du s1 a1) (du s2 a2) ↑d ↑(G7 p) (sR (-M)) b6 b7 b8)/\xj M M'/\∃W_,Ot (Rt P G) a2 s2 (l++[p]) ↥(-M) M' W_/\∀x∈W_,∃y∈ps.take i,Ext y.2 x.2)
  ({3,b6,b7,b8,rfl},xj.ZP _ _,[],(ju Ft,'b','b',.nil),'b') (λi ρ M' h=>h.2.1.gr N.ls)
  (λi x ρ E T hI=>by
   symm
   let((b6,b7,b8,rfl),J,W_,ot,F):=hI;rw[ie]at T;let((n,kv),Q,rfl):=dg<*T;let B:=az Q;let hn:E[n]?\(.dT kv):=J _ _ (N.rw _ B);let R:=N.pm _ B;left;let tk:ps.take (i+1)=ps.take i++[(n,kv)]:=by rw[zr,Q];rfl
   let fr:∀x∈W_,dW x.2 kv:=λx T=>by let(y,O,C):=F x T;let:=(List.take_append_drop i ps▸N.df:(ps.take i++ps.drop i).Pairwise _);let:=(List.pairwise_append.mp this).2.2 y O (n,kv) (az (i:=0) (by rw[List.getElem?_drop];show Q));show this.ext C λ_ _ h=>h
   let Y:=qX (M:=E) (b:=G7 p) (k:=ky p.1 p.2) hn rfl
   by_cases q:(Rt P G).Dm l p
   .let(v,L):=(R.dom p).mpr q
    let L:Am kv (ky p.1 p.2)\v:=L;rw[L]at Y;let(o,t1,t2,t3):=ot.XS bd (x:=(n,kv)) hn (R.ZQ q) fr;show{4,EM (o7 K r U) (du s1 a1) (du s2 a2) ↑d ↑(G7 p) (sR (-M)) (sR n) b7 b8,.next,EM (o7 K r U) (du s1 a1) (du s2 a2) ↑d ↑(G7 p) (sR (-M)) (sR n) b7 b8,E.set (-M) o,rfl,by simp[N6,Y,t1,t2],.inl rfl,{3,_,_,_,rfl},λa o ha=>?_,(_,t3,λx T=>?_)}
    .rw[jw (i_ (wu ha))];show J _ _ ha
    .rw[tk]
     rcases dz<*T with z|z
     .let(y,O,C):=F x z
      show{1,y,qw _ O,C}
     .rw[ig<*z];show{1,_,'b',λ_ _ h=>h}
   .symm
    let L:Am kv (ky p.1 p.2)=():=by
     cases e:Am kv (ky p.1 p.2)with
     |none=>rfl|some v=>show absurd (R.dom p<*(v,e)) q
    rw[L]at Y;let(Z,M',e,(D,X,rfl),k2,n2,qk,t3,t4):=SN (r:=r) (b3:=↑d) (b7:=b7) (b8:=b8) hm P G w2 R hl hp bd hn ot J fr;left;show{4,EM (o7 K r U) (du s1 a1) (du s2 a2) ↑d ↑(G7 p) (sR (-M)) (sR n) b7 b8,.next,EM (o7 K r U) (du s1 a1) (du s2 a2) ↑d ↑(G7 p) (sR (-M)) (sR n) D X,M',rfl,by simp[N6,Y,e],.inl rfl,{3,_,_,_,rfl},k2,(_,t3,λx T=>?_)};rw[tk];rcases dz<*T with z|z
    .let(y,O,C):=F x z
     show{1,y,qw _ O,C}
    .exact{1,_,'b',(t4 x z).1})
 left;show{2,EM (o7 K r U) (du s1 a1) (du s2 a2) (sR (-M)) ↑(G7 p) (sR (-M)) A H I,M',by simp[N7,MW.new,e],(_,_,_,_,_,W_,rfl,o1),J}
def Kf(T:Y2)(Y:KV)(k:Nat):List Nat:='r' (T.getD k 0)%λx=>iI Y (k,x)
abbrev EF(pt w1 w2:D)(b3 b4 b5 b6 b7 b8 b9 b10 Nj:Option D):Env:=[↑pt,↑w1,↑w2,b3,b4,b5,b6,b7,b8,b9,b10,Nj]
def SQ(P:Hz sz K hs jo)(B:Mj K hs s1 a1)(E:Pm (Rt P B) a2 s2 l Z)(I:∀q,(Rt P B).V q->q∈l)(X:M[n]?\(.dT Z))(D:M[U]?\(.WK ds))(F:-ds<6000000) :
 ∃M',Ny.WD W (EF (o7 K r hs) (du s1 a1) w b3 b4 b5 (sR n) b7 b8 (sR U) b10 Nj) M=.ok (.next,EF (o7 K r hs) (du s1 a1) w b3 b4 b5 (sR n) b7 b8 (sR U) (sR (-M)) (if K=0 then Nj else sI (K-1:Nat))) M' /\
  M'[U]?\(.WK (ds++[.WL ('r' K%λk=>ue (Kf s1 Z k))]))/\∀a o,a≠U->M[a]?\o->M'[a]?\o:=by
 let k3:=P.k3;let(G,M',e,rfl,T,J):=zf (S:=Vc) (W:=W) (n:=K) (ρ:=EF (o7 K r hs) (du s1 a1) w b3 b4 b5 (sR n) b7 b8 (sR U) (sR (-M)) Nj) (M:=M++[.WK []]) (M1:=M++[.WK []]) rfl (by simp[Z4]) (a_ k3 ⋯)
  (λk G M'=>G=EF (o7 K r hs) (du s1 a1) w b3 b4 b5 (sR n) b7 b8 (sR U) (sR (-M)) (if k=0 then Nj else sI (k-1:Nat))/\M'[M.length]?\(.WK ('r' k%λk=>ue (Kf s1 Z k)))/\xj M M')
  (rfl,Ft,xj.ZP _ _) (λk H M1 C u=>by
   let(rfl,T,J):=u;let L:=Mi (M:=M1) (l:=s1) (i:=k) (by rw[B.ls];show C);let s7:=B.s7 k;let c:Nx.WD W (EF (o7 K r hs) (du s1 a1) w b3 b4 b5 (sR n) b7 b8 (sR U) (sR (-M)) (sI k)) M1=.ok (.vl (Kf s1 Z k%nD)) M1:=by
    unfold Nx;rw[Xw (n:=s1.getD k 0) (g:=λx=>nD (iI Z (k,x))) (by
     generalize s1.getD k 0=z at L;simp[Ke,L]) (a_ s7 ⋯) (λx Q=>by
     let(v,N):=(E.dom (k,x)).mpr ((k,x),I _ (C,Q),ah.R.gI (C,Q));let(y,rfl,_):=E.num _ _ N;let:=fD (b:=G7 (k,x)) (k:=ky k x) (J _ _ X) rfl;rw[show Am Z (ky k x)\(nD y)from N]at this;show{1,_,rfl,by simp[this,Qw N]})]
    simp[Kf]
   let ap:=Gm (d:=.WL (Kf s1 Z k%nD)) T (by simp;lia);show{4,EF (o7 K r hs) (du s1 a1) w b3 b4 b5 (sR n) b7 b8 (sR U) (sR (-M)) (sI k),.next,_,M1.set (-M) (.WK (('r' k%λk=>ue (Kf s1 Z k))++[.WL (Kf s1 Z k%nD)])),rfl,by simp[Vb,Gg T,c,Jf,ap],.inl rfl,rfl,by rw[m6 T,tu];simp[ue],λa o O=>?_};rw[jw (i_ (wu O))];show J _ _ O)
 let Y:=J _ _ D;let ap:=lF (d:=.WL ('r' K%λk=>ue (Kf s1 Z k))) Y F;show{1,_,by simp[Ny,MW.new,e,Gg Y,qu,Jo (ju T),ap],m6 Y,λa o A O=>?_};rw[jw (j4 A)];show J _ _ O
def SR(l:Y2):iO (ue l)\-l:=by change(Yd (l%nD))%(-·)=_;rw[l9];simp
def SS(f:Nat->List Nat)(l:Y2):Wk (l%λk=>ue (f k))\(l%λk=>-(f k)):=by
 induction l with
 |nil=>rfl|cons a l Y=>simp[Wk,SR,Y]
def SU(T:Mj K Z s1 a1)(G:KV):eB (.WL ('r' K%λk=>ue (Kf s1 G k)))\s1:=by
 change Wk _=_;rw[SS]
 congr 1
 apply uf;intro i
 by_cases h:i<K
 .let Y:i< -s1:=b_ h (g_ T.ls)
  simp[Kf,h,Y]
 .let Y:¬i< -s1:=λz=>h (b_ z (f_ T.ls))
  simp[h,Y]
abbrev Mr(K:Nat)(R:Nat->List Nat):D:=.WL ('r' K%λk=>ue (R k))
structure cy(s1 s2:Y2)(R:Nat->List Nat):Prop where
 len:∀k,-R k=s1.getD k 0
 lt:∀k,∀y∈R k,y<s2.getD k 0
def SV(T:Mj K U s1 a1){P:Hz sz K U jo}(J:Pm (Rt P T) a2 s2 l Z)(C:∀q,(Rt P T).V q->q∈l):∃R,cy s1 s2 R/\.WL ('r' K%λk=>ue (Kf s1 Z k))=Mr K R:=by
 show(λk=>if k<K then Kf s1 Z k else 'R' (s1.getD k 0) 0,(λk=>?_,λk y Y=>?_),?_)
 .change-(if k<K then _ else _:Y2)=_
  split
  .simp[Kf]
  .simp
 .by_cases h:k<K
  .erw[h,my,Kf,bu,jg]at Y
   let(x,B,rfl):=Y;let(v,G):=(J.dom (k,x)).mpr ((k,x),C _ (h,B),ah.R.gI (h,B));let(y,rfl,Y):=J.num _ _ G;rw[Qw G];show Y
  .rw[cz h]at Y
   let:s1.getD k 0=0:=by rw[bx,jk (by rw[T.ls];show Nat.le_of_not_lt h)];rfl
   rw[this]at Y;cases Y
 .congr 1
  show qg λk O=>by change _=ue (if k<K then _ else _);rw[dm (jg<*O)]
def SW(hm:4<=m)(P:Hz sz K hs jo)(V:Mj K hs s1 a1)(w2:Mj K hs s2 a2)(G:∃G,Gn K hs s1 a1 G):∃q Z U,prog.call m 31 [o7 K r hs,du s1 a1,du s2 a2] M=.ok ↥q U/\U[q]?\(.Ui Z)/\-M<=q/\xj M U/\(∀d∈Z,∃R,cy s1 s2 R/\d=Mr K R)/\-Z<6000000:=by
 rw[WQ (a_ ⋯ hm) rfl];symm
 let k1:=P.k1;let(N,E,M1,e1,qk,hN,hA,hV,hl):=SJ (m:=m-1) (r:=r) (M:=M++[.dT []]) (r_ (a_ ⋯ hm)) P V;let bd:∀j,Bd (Rt P V) a2 s2 ((N++E).take j):=λj=>by
  let(G,g):=G;show SK w2 (ah.gens (G:=G) g.v (λq X=>?_) ?_ hN hA j)
  .let(x,Y,w,hw,e):=g.g q.1 q.2 X.1 X.2
   let(h1,h2):=Wa hw;show(x,Y,g.v x Y,w,Bk.mpr h1,Prod.ext h2.symm e)
  .refine gh (Nat.le_of_eq ?_) g.c
   erw[ah.cost,Rt,Ku,dh]
 let(q3,H,e2,(d,I,C,T,L,B,A,rfl,O),q1):=Fv (S:=Vg) (W:=PW (m-1)) (d:=.vl ((N++E)%G7)) (ds:=(N++E)%G7) (ρ:=EM (o7 K r hs) (du s1 a1) (du s2 a2) ↑(.vl [↥(-M)]) () () () () ()) (M:=M++[.dT []]) (M1:=M1) rfl (by simp[-List.map_append,e1]) rfl
  (λj Q U=>(∃d I C T L B A,Q=EM (o7 K r hs) (du s1 a1) (du s2 a2) ↑d I C T L B/\Ot (Rt P V) a2 s2 ((N++E).take j) d U A)/\xj M U)
  ({7,_,(),(),(),(),(),[(-M,[])],rfl,(rfl,λx Y=>by rw[ig<*Y];show qk _ _ Ft,λx Y=>by rw[ig<*Y];show Pm.nil,Br _ _)},xj.ZP _ _>>qk) (λ_ _ _ _=>rfl)
  (λj x ρ H Y hI=>by
   symm
   let((d,I,C,T,L,B,A,rfl,O),F):=hI;rw[ie]at Y;let(p,hp,rfl):=dg<*Y;left;let tk:(N++E).take (j+1)=(N++E).take j++[p]:=by rw[zr,hp];rfl
   symm
   let(Q,M3,e,(C,T,L,B,d',q0,rfl,o3),k3):=SO (m:=m-1) (r:=r) (b5:=C) (b6:=T) (b7:=L) (b8:=B) (r_ hm) P V w2 (a_ (Dt j _) (a_ hl ⋯)) (hV p<*(az hp)) (by rw[<-tk];show bd _) O;left;show(_,.next,_,M3,rfl,e,.inl rfl,(d',_,_,_,_,_,q0,rfl,by rw[tk];show o3),F>>k3))
 let hb:=bd _ A O.pm O.df;rw[dh,An]at O;let(q2,M3,e3,(T,J,Nj,rfl),h3,qv):=Fv (S:=Ve) (W:=PW (m-1)) (d:=d) (ds:=A%rf) (ρ:=EF (o7 K r hs) (du s1 a1) (du s2 a2) ↑d I C T L B (sR (-H)) () ()) (M:=H++[.WK []]) (M1:=H++[.WK []]) rfl 'b' ((xj.ZP _ _).gr O.ls)
  (λi Q U=>(∃T J Nj,Q=EF (o7 K r hs) (du s1 a1) (du s2 a2) ↑d I C T L B (sR (-H)) J Nj)/\U[H.length]?\(.WK (A.take i%λx=>.WL ('r' K%λk=>ue (Kf s1 x.2 k))))/\xj H U)
  ({3,T,(),(),rfl},Ft,xj.ZP _ _) (λi ρ U h=>h.2.2.gr O.ls)
  (λi x ρ M3 Y hI=>by
   symm
   let((T,J,Nj,rfl),h3,F):=hI;rw[ie]at Y;let((n,kv),hi,rfl):=dg<*Y;let qq:=az hi;let(M4,e4,f4,k4):=SQ (W:=PW (m-1)) (r:=r) (w:=du s2 a2) (b3:=↑d) (b4:=I) (b5:=C) (b7:=L) (b8:=B) (b10:=J) (Nj:=Nj) P V (O.pm _ qq) (λq X=>(hV q).mpr X) (F _ _ (O.rw _ qq)) h3 (by rw[dh];show c_ (Dt i _) (c_ hb ⋯));left;show(_,.next,_,M4,rfl,e4,.inl rfl,{3,_,_,_,rfl},?_,λa o ha=>k4 _ _ (h_ (wu ha)) (F _ _ ha));rw[f4,zr,hi,jc];rfl)
 rw[dh,An]at h3;let F:=q1>>qv;generalize hds:(A%λx=>D.WL ('r' K%λk=>ue (Kf s1 x.2 k)))=Z at h3;left;let hn:-Z<6000000:=by rw[<-hds,dh];show c_ hb ⋯
 let hD:∀d∈Z,∃R,cy s1 s2 R/\d=Mr K R:=λd hd=>by rw[<-hds]at hd;let(y,hy,rfl):=bu<*hd;show SV V (O.pm y hy) λq X=>(hV q).mpr X
 let Ui:qu .sorted [↥(-H)] M3=.ok ↥(-M3) (M3++[.Ui Z]):=by
  let:qu .sorted [↥(-H)] M3=gF Z M3:=by simp[qu,ju h3]
  rw[this];cases xh:Z with
  |nil=>rfl
  |cons d0 dr =>
   let all:∀x∈d0::dr,eB x\s1:=λx Y=>by rw[<-xh,<-hds]at Y;let(y,_,rfl):=bu<*Y;show SU V y.2
   let ne:s1≠[]:=λz=>by let:=V.ls;rw[z]at this;simp at this;lia
   rw[xh]at hn;erw[gF,all d0 'b'];rw[dm (ne,all,hn)];rfl
 show{3,-M3,Z,M3++[.Ui Z],?_,Ft,F.len,F>>(xj.ZP _ _),hD,hn};simp[Fn.XM,Zh,Zg,MW.new,e2,e3,Ui]
def SX(n:Nat):_V ('R' n (.bl true))\true:=by
 induction n with
 |zero=>rfl|succ n Y=>rw[List.replicate_succ,_V,Y];rfl
inductive cT:Nat->D->Prop
 |int:cT (n+1) ⇑i
 |bl:cT (n+1) (.bl y)
 |WL:-ds<=100000->(∀d∈ds,cT n d)->cT (n+1) (.WL ds)
 |vl:-ds<=100000->(∀d∈ds,cT n d)->cT (n+1) (.vl ds)
def zip_get{i:Nat}(h:(Fl ls n)[i]?\d):i<n/\d=.WL (ls%λl=>l.getD i .XQ):=by
 let Y:i<n:=by simpa[Fl]using(ak<*h).1
 simp[Fl,Y]at h;show(Y,h.symm)
def zip2(h:-U=-Z):Yh [.WL U,.WL Z] M=.ok (.Ys (Fl [U,Z] (-Z))) M:=qK rfl (.inl rfl) (by simp[h])
def SY(h:-U=-Z):Yh [.vl U,.vl Z] M=.ok (.Ys (Fl [U,Z] (-Z))) M:=qK rfl (.inl rfl) (by simp[h])
def xi{x:D}(R:x=.WL ds\/x=.vl ds)(N:-ds<=100000)(B:1<=m)(C:∀d∈ds,prog.call (m-1) 34 [d,d] M=.ok (.bl true) M):prog.call m 34 [x,x] M=.ok (.bl true) M:=by
 rw[WQ B rfl];obtain⟨b,T,G,O,P,E,z⟩:∃b T,qu ._S [x] M=.ok (.bl true) M/\qu ._s [x] M=.ok (.bl b) M/\qu .isList [x] M=.ok (.bl T) M/\qu .len [x] M=.ok (.int (-ds)) M/\Yh [x,x] M=.ok (.Ys (Fl [ds,ds] (-ds))) M:=by
  rcases R with rfl|rfl
  .exact{2,true,false,rfl,rfl,rfl,rfl,zip2 rfl}
  .exact{2,false,true,rfl,rfl,rfl,rfl,SY rfl}
 let c:N8.WD (PW (m-1)) [↑x,↑x] M=.ok (.vl ('R' (-ds) (.bl true))) M:=by
  unfold N8;rw[Xv (ds:=Fl [ds,ds] (-ds)) (g:=λ_=>.bl true) (by simp[z]) (by simpa[Fl]using N) (λi d J=>by
   let(Y,rfl):=zip_get J;let:=C ds[i] (j9 Y);show{1,[↑x,↑x,↑ds[i],↑ds[i]],by simp[Tg.put,P0,Y],by simp[this]})]
  simp[List.map_const',Fl]
 let L:qu .all [.vl ('R' (-ds) (.bl true))] M=.ok (.bl true) M:=by change WR.wg (_V _%D.bl) M=_;rw[SX];rfl
 simp[Fn.XM,Nf,M9,c,G,O,P,E,L]
def oi(h:cT n d):∀{m M},n<=m->prog.call m 34 [d,d] M=.ok (.bl true) M:=by
 induction h with
 |int =>
  intro m M Y;let T:qu ._S [⇑i] M=.ok (.bl false) M:=rfl;let J:qu ._A [⇑i] M=.ok (.bl false) M:=rfl;rw[WQ (a_ y_ Y) rfl];simp[Fn.XM,Nf,M9,T,J]
 |bl =>
  intro m M Y;let T:qu ._S [.bl y] M=.ok (.bl false) M:=rfl;let J:qu ._A [.bl y] M=.ok (.bl true) M:=rfl;let C:Bb M (.bl y) (.bl y)\true:=by simp[Bb,Mm]
  rw[WQ (a_ y_ Y) rfl];simp[Fn.XM,Nf,M9,T,J,C]
 |WL O _ B=>intro m M Y;show xi (.inl rfl) O (a_ y_ Y) λd G=>B d G (r_ Y)
 |vl O _ B=>intro m M Y;show xi (.inr rfl) O (a_ y_ Y) λd G=>B d G (r_ Y)
def rD(r:List (List Nat)):D:=.WL (r%ue)
def oj(Y:-l<=100000):cT (n+2) (ue l):=.WL (by rw[dh];show Y) λd T=>by let(x,_,rfl):=bu<*T;show .int
def xl(Y:-q<=100000)(T:∀l∈q,-l<=100000):cT (n+3) (rD q):=.WL (by rw[dh];show Y) λd G=>by let(x,h,rfl):=bu<*G;show oj (T x h)
abbrev cI(l:Y2):List Int:=l%λ(x:Nat)=>(x:Int)
def tI(l:X9):D:=.WL (l%D.int)
def iJ(l:Y2):tI (cI l)=ue l:=rm D.WL (xO l)
theorem xn:∀l:List Int,Yd (l%D.int)\l
 |[]=>rfl|a::l=>by change(Yd (l%D.int))%_=_;rw[xn l];rfl
theorem xo(M:fc)(n:Nat):∀a b:List Int,U0 (Mm M (n+1)) (a%D.int) (b%D.int)\(decide (a=b))
 |[],[]=>rfl|[],_::_=>rfl|_::_,[]=>rfl
 |x::a,y::b=>by
  let:=Fy (Wo (M:=M) n x y) (xo M n a b);show this>>?_
  by_cases h:x=y<;>simp[h]
def S_{a b:X9}(h:gr M d\(a%D.int))(Y:gr M d'\(b%D.int))(T:∃n,d=↥n):Bb M d d'\(decide (a=b)):=by
 let(n,rfl):=T;change(match gr M ↥n,gr M d' with
  |some as,↑bs=>if -as=-bs then U0 (Mm M 5) as bs else ↑false
  | _,_=>())=_
 rw[h,Y]
 by_cases e:-a=-b
 .erw[dh,e,my];show xo M 4 a b
 .erw[dh,e,jt]
  rw[t8 (λz=>e (by rw[z]))]
abbrev dA(l:X9):Prop:=l.Pairwise (· < ·)
def om(l:X9):l=YS (yz l)↔dA l:=by
 constructor
 .intro h
  let p:=lI (yz l);let n:=(Il (yz l)).nodup_iff.mpr (gH l);rw[<-h]at p n;show(p.and (j7<*n)).imp fun{a b} (h:a<=b/\a≠b)=>(by lia:a<b)
 .intro h
  show lJ (h.imp fun{a b} h=>(by lia:a<=b)) (j7.mpr (h.imp fun{a b} h=>(by lia:a≠b))) λ_=>Iff.rfl
def xp{l:X9}(h:Cm M d\(l%D.int))(Y:-l<31):qu .Ey [d] M=.ok (.vl (YS (yz l)%D.int)) M:=by let:=iT l;change WR.wg ((Cm M d*>Yd)*>λis=>if-(yz is)<31 then ↑(D.vl (YS (yz is)%D.int))else ()) M=_;rw[h,uo,xn,uo,dm (c_ this Y)];rfl
def xt{l:X9}{i:Nat}(h:i< -l):Ax (tI l) ⇑i M\⇑(l.getD i 0):=Ik q_ (by simp[h])
def Sa(M:fc)(x:Int):∀l:List Int,_O M ⇑x (l%D.int)\(decide (x∈l)):=λl=>by
 let e:∀l:List Int,Pz M ⇑x (l%D.int)\(l%λy=>decide (y=x)):=λl=>by
  induction l with
  |nil=>rfl|cons a l Y=>simp[Pz,Y]
 rw[_O,e];erw[xq]
 congr 1
 rw[Ay];simp
def x8{l:X9}:Nu M ⇑x (tI l)\(decide (x∈l)):=Sa M x l
structure Nb(l:Y2)(kv:List (Kx×D)):Prop where
 got:∀x∈l,Am kv (.inl (x:Int))\(nD (Z5 l x))
 no:∀y:Int,(∀x∈l,y≠x)->Am kv (.inl y)=()
def Nb.has(h:Nb l Z)(x:Nat):(Am Z (.inl (x:Int))).isSome=decide (x∈l):=by
 by_cases m:x∈l
 .rw[h.got x m];simp[m]
 .rw[h.no x (λy Y e=>m (by let:=D_ e;subst this;show Y))];simp[m]
def Z6(A:1<=m)(nd:l.Nodup)(X:-l<=1000):∃Z M',prog.call m 38 [ue l] M=.ok ↥(-M) M'/\M'[M.length]?\(.dK Z)/\Nb l Z/\xj M M':=by
 rw[WQ A rfl];let:=Tp (S:=W0) (W:=PW (m-1)) (ds:=l%nD) (ρ:=[ue l,sR (-M),(),()]) (M:=M++[.dK []]) (M1:=M++[.dK []]) rfl rfl
  (λj G M'=>(∃N E,G=[↑(ue l),sR (-M),N,E])/\∃Z,M'[M.length]?\(.dK Z)/\-Z<=j/\(∀i x,i<j->l[i]?\x->Am Z (.inl (x:Int))\(nD i))/\(∀y:Int,(∀i x,i<j->l[i]?\x->y≠x)->Am Z (.inl y)=())/\xj M M')
  ({2,(),(),rfl},[],Ft,bz _,λi x h _=>'a',λ_ _=>rfl,xj.ZP _ _) (λj x F R T I=>by
   let((N,E,rfl),Z,J,K,C,L,B):=I;rw[ie]at T;let(y,Y,rfl):=dg<*T;let D:=(ak<*Y).1;let st:=xF (k:=(y:Int)) (d:=⇑j) J 'a';show{4,_,.next,[↑(ue l),sR (-M),sI j,↑(nD y)],R.set (-M) (.dK (Fw Z (.inl (y:Int)) ⇑j)),rfl,by simp[Wz,nD,st],.inl rfl,{2,_,_,rfl},(_,m6 J,gh (oT _ _ _) (v_ K),λi x P e=>?_,λz Q=>?_,λa o H=>?_)}
   .rw[Xp]
    by_cases O:x=y
    .subst O
     rw[dm rfl,Hr nd Y e];rfl
    .rw[cz (λq=>O (by let:=Sum.inl.inj q;show D_ this))]
     show C i x ?_ e;rcases qi i j with q|q
     .exact q
     .let:i=j:='a'
      subst this;rw[Y]at e;cases e;show absurd rfl O
   .rw[Xp,cz (λq=>Q j y (mz j) Y (Sum.inl.inj q))]
    show L z λi x P e=>Q i x (lz P) e
   .rw[jw (i_ (wu H))];show B _ _ H)
 let(G,M',e,(N,E,rfl),Z,J,_,C,L,B):=this;show{2,Z,M',by simp[Fn.XM,rG,rF,MW.new,e],J,(λx T=>?_,λy Y=>L y λi x _ e=>Y x (az e)),B};rw[C (Z5 l x) x ('s' (Wd T)) (by
  let:=kR T;rw[bx]at this;let V:=Wd T;rw[bh V]at this⊢;show rm some this)]
def PD(q:List (List Int)):D:=.WL (q%tI)
abbrev fg(s:Y2)(q:List (List Int))(k:Nat):Prop:=dA (q.getD k [])/\∀x∈q.getD k [],0<=x/\x<(s.getD k 0:Int)
abbrev dB(s:Y2)(q:List (List Int)):Prop:=-q=-s/\∀k,k< -s->fg s q k
def Sb{q:List (List Int)}{k:Nat}(h:k< -q):Ax (PD q) ⇑k M\(tI (q.getD k [])):=Ik q_ (by simp[h])
def all_map{Y:Type}(f:Y->Bool)(l:List Y):qu .all [.vl (l%λx=>.bl (f x))] M=.ok (.bl (l.all f)) M:=by
 change WR.wg (_V _%D.bl) M=_;let:_V (l%λx=>.bl (f x))\(l.all f):=by
  induction l with
  |nil=>rfl|cons a l T=>simp[_V,T]
 rw[this];rfl
def x9{G T:Type}{f:G->D}{g:T->D}{J:List G}{Y:List T}{i:Nat}{x:G}{y:T}(h:J[i]?\x)(k:Y[i]?\y)(e:-J=-Y):(XN.Ys (Fl [J%f,Y%g] (-(Y%g)))).item i M\(.WL [f x,g y]):=by
 let B:=(ak<*k).1;let O:Y[i]=y:=by let:=k;rw[bh B]at this;show j6 this
 simp[XN.item,Fl,B,h,O]
def oo{Y:Type}{l:List Y}{i:Nat}{d:Y}(h:i< -l):l[i]?\(l.getD i d):=by simp[bx,h]
def inB(z:Nat)(x:Int):Bool:=decide (0<=x/\x<(z:Int))
def Se(l:X9)(z:Nat)(T:-l<=1000):K4.WD W [w,p,tI l,nD z] M=.ok (.vl (l%λx=>.bl (inB z x))) M:=by
 unfold K4;let:=Gu (W:=W) (v:=true) (k:=1) (t:=.name 4) (it:=.v 2) (e:=.ZG .le .lt (.i 0) (.v 4) (.v 3)) (ρ:=[w,p,tI l,nD z]) (M:=M) (M1:=M) (ds:=l%D.int) (g:=λd=>match d with|⇑x=>.bl (inB z x)|_=>.XQ) rfl (by simp;lia) (λx Y=>by
  let(y,_,rfl):=bu<*Y;show{1,[w,p,↑(tI l),↑(nD z),sI y],rfl,?_}
  by_cases h:0<=y<;>simp[h,nD,inB])
 show this>>?_;simp[q9]
def Sf(hm:1<=m)(X:-s<=100)(hl:∀r∈q,-r<=30):∃b M',prog.call m 23 [du s a,PD q] M=.ok (.bl b) M'/\(b=true↔dB s q)/\xj M M':=by
 rw[WQ hm rfl];let E:qu .len [PD q] M=.ok ⇑(-q) M:=by simp[PD,Wq]
 let N:qu .len [ue s] M=.ok ⇑(-s) M:=by simp[ue,Wq]
 by_cases e:-q=-s
 .let:=iV (S:=Su) (W:=PW (m-1)) (s:=.Ys (Fl [q%tI,s%nD] (-(s%nD)))) (n:=-s) (ρ:=[du s a,PD q,(),()]) (M:=M) (M1:=M) rfl
   (by simp[Ke,PD,ue,zip2,e]) (by simp[XN.len,Fl])
   (λi J M'=>(∃R F,J=[↑(du s a),↑(PD q),R,F])/\(∀k,k<i->fg s q k)/\xj M M')
   (λv M'=>v=.bl false/\¬(∀k,k< -s->fg s q k)/\xj M M')
   ({2,(),(),rfl},λk h=>'a',xj.refl _) (λ_ _ _=>rfl) (λi ρ Y L hI=>by
    let((R,F,rfl),Z,G):=hI;let A:=oo (d:=[]) (show i< -q by lia);let hr:=hl _ (az A);show{2,_,_,x9 A (oo (d:=0) L) e,Pb _ _ _ _ _,?_};generalize hrr:q.getD i []=r at *;generalize kY:s.getD i 0=z at *;let V:qu .list [tI r] Y=.ok ↥(-Y) (Y++[.WK (r%D.int)]):=rfl;let C:=xp (M:=Y++[.WK (r%D.int)]) (d:=tI r) (l:=r) rfl 'a';let P:=S_ (M:=Y++[.WK (r%D.int)]) (d:=↥(-Y)) (d':=.vl (YS (yz r)%D.int)) (a:=r) (b:=YS (yz r)) (ju Ft) rfl (_,rfl);let I:=Se (W:=PW (m-1)) (w:=↑(du s a)) (p:=↑(PD q)) (M:=Y++[.WK (r%D.int)]) r z 'a';let O:=all_map (M:=Y++[.WK (r%D.int)]) (inB z) r;let T:=G>>(xj.ZP Y [.WK (r%D.int)])
    by_cases c:dA r
    .by_cases B:∀x∈r,0<=x/\x<(z:Int)
     .let H:r.all (inB z)=true:=by simpa[inB]using B
      rw[H]at O;show{3,.next,[↑(du s a),↑(PD q),↑(tI r),↑(nD z)],Y++[.WK (r%D.int)],by simp[Hl,V,C,P,uw ((om r).mpr c),I,O],.inl (rfl,{2,_,_,rfl},λk hk=>?_,T)}
      .rcases qi k i with y|y
       .exact Z k y
       .let:k=i:='a'
        subst this;change dA (q.getD k [])/\_;rw[hrr,kY];show(c,B)
     .let H:r.all (inB z)=false:=by
       rw[Bool.eq_false_iff];intro y;show B (by simpa[inB]using y)
      rw[H]at O;show{3,.ret (.bl false),[↑(du s a),↑(PD q),↑(tI r),↑(nD z)],Y++[.WK (r%D.int)],by simp[Hl,V,C,P,uw ((om r).mpr c),I,O],.inr {1,_,rfl,(rfl,λy=>?_,T)}};let:=(y i L).2;rw[hrr,kY]at this;show B this
    .refine{3,.ret (.bl false),[↑(du s a),↑(PD q),↑(tI r),↑(nD z)],Y++[.WK (r%D.int)],by simp[Hl,V,C,P,t8 (λy=>c (om r<*y))],.inr {1,_,rfl,(rfl,λy=>?_,T)}}
     let:=(y i L).1;rw[hrr]at this;show c this)
  obtain⟨fl,J,M',K,⟨rfl,⟨R,F,rfl⟩,Q,G⟩|⟨v,rfl,rfl,Q,G⟩⟩:=this
  .exact{2,true,M',by simp[Fn.XM,Km,Kl,E,N,Ke,e,K],by erw[true_iff];show(e,Q),G}
  .exact{2,false,M',by simp[Fn.XM,Km,Kl,E,N,Ke,e,K],(λh=>(by cases h),λh=>absurd h.2 Q),G}
 .let U:¬((-q:Int)=-s):=λz=>e (D_ z)
  show{2,false,M,by simp[Fn.XM,Km,Kl,E,N,Ke,U],(λh=>(by cases h),λh=>absurd h.1 e),xj.refl _}
abbrev aI(J:Env->Prop)(Q:fc->Prop)(p:Prop)(r:WR (Flow×Env)):Prop:=∃ρ' M',Q M'/\((p/\J ρ'/\r=.ok (.next,ρ') M')\/(¬p/\r=.ok (.ret (.bl false),ρ') M'))
def Us{J:Env->Prop}{Q:fc->Prop}{it:Qz}(T:Nat->Prop)(R:S=Ea.YX t it b)(O:it.WD W ρ M=.ok (.Ys ds) M)(V:J ρ)(H:Q M)
 (XF:∀i d ρ M,ds[i]?\d->J ρ->Q M->∃Z,t.put d ρ\Z/\aI J Q (T i) (b.WD W Z M)):aI J Q (∀k,k< -ds->T k) (S.WD W ρ M):=by
 obtain⟨K,Y,G,e,⟨rfl,h⟩|⟨v,rfl,h⟩⟩:=iV (n:=-ds) R O rfl (λi Y G=>J Y/\Q G/\∀k,k<i->T k) (λv G=>v=.bl false/\Q G/\¬(∀k,k< -ds->T k)) (V,H,λk h=>'a') (λ_ _ _=>rfl) (λi ρ M N P=>by
  let(j,q,z):=P;let(d,B):=Ue N;obtain⟨Z,C,Y,G,L,⟨p,E,e⟩|⟨p,e⟩⟩:=XF i d ρ M B j q
  .refine{2,d,Z,B,C,(.next,Y,G,e,.inl (rfl,E,L,λk F=>?_))}
   rcases qi k i with y|y
   .exact z k y
   .let:k=i:='a'
    subst this;show p
  .exact{2,d,Z,B,C,(.ret (.bl false),Y,G,e,.inr (_,rfl,rfl,L,λy=>p (y i N)))})
 .exact{2,Y,G,h.2.1,.inl (h.2.2,h.1,e)}
 .let(rfl,q,n):=h
  show{2,Y,G,q,.inr (n,e)}
def aI.iff{J:Env->Prop}{Q:fc->Prop}(h:aI J Q p r)(e:p↔p'):aI J Q p' r:=by
 obtain⟨Y,T,q,⟨x,y⟩|⟨x,y⟩⟩:=h
 .exact{2,Y,T,q,.inl (e<*x,y)}
 .exact{2,Y,T,q,.inr (λz=>x (e.mpr z),y)}
def yA{J:Env->Prop}{Q:fc->Prop}(c:Ex)(b:Bool)(T:c.WD W Z M=.ok (.bl b) U)(Y:b=true↔¬p)(j:J Z)(q:Q U):aI J Q p ((nq.o (.f c (.o (.ret (.ZX (.bl false)))))).WD W Z M):=by
 cases b with
 |true=>show{2,Z,U,q,.inr (Y<*rfl,by simp[T])}|false=>show{2,Z,U,q,.inl (w5 λh=>(by let:=Y.mpr h;cases this),j,by simp[T])}
def aI.one{J:Env->Prop}{Q:fc->Prop}{s:Ea}(h:aI J Q p (s.WD W Z M)):aI J Q p ((nq.o s).WD W Z M):=by
 obtain⟨Y,T,q,⟨x,y,e⟩|⟨x,e⟩⟩:=h
 .exact{2,Y,T,q,.inl (x,y,by simp[e])}
 .exact{2,Y,T,q,.inr (x,by simp[e])}
def PN(Y:List (List Nat)):D:=.WL (Y%ue)
structure bo(s:Y2)(ps:List (List Nat)):Prop where
 len:-ps=-s
 up:∀k,(ps.getD k []).Pairwise (· < ·)
 lt:∀k,∀x∈ps.getD k [],x<s.getD k 0
abbrev dX(hs:List F)(a ps:List (List Nat)):Prop:=∀j g,hs[j]?\g->∀x∈ps.getD g.a [],(a.getD j []).getD x 0∈ps.getD g.b []
def bo.nd(h:bo s ps)(k:Nat):(ps.getD k []).Nodup:=j7.mpr ((h.up k).imp fun{a b} h=>(h_ h:a≠b))
def bo.l7(h:bo s ps)(w:Mj K Z s a)(k:Nat):-(ps.getD k [])<=7:=gh (lO (h.nd k) (h.lt k)) (w.s7 k)
def Xx{ps:List (List Nat)}{k:Nat}(h:k< -ps):Ax (PN ps) ⇑k M\(ue (ps.getD k [])):=Ik q_ (by simp[h])
def Si(h:M[n]?\(.dK Z))(y:Int):Nu M ⇑y ↥n\(Am Z (.inl y)).isSome:=by simp[Nu,h]
def yB{i:Nat}(T:1<=m)(Y:ZS n r K Z U M)(h:ρ[i]?\(sR n)):(Ex.meth (.ZD i) 0).WD (PW m) ρ M=.ok (Ko Z) M:=by let cl:(PW m).cls[2]?\(0,[(0,2)]):=rfl;rw[Wn];simp[h,Y.1,cl,List.lookup,QQ T Y]
def Sj(F:2<=m)(P:Hz sz K Z jo)(md:ZS n r K Z jo M)(w:Mj K Z s a)(o:bo s ps):∃b M',prog.call m 24 [↥n,du s a,PN ps] M=.ok (.bl b) M'/\(b=true↔dX Z a ps)/\xj M M':=by
 rw[WQ (a_ ⋯ F) rfl];let me:=yB (m:=m-1) (i:=0) (ρ:=[sR n,du s a,PN ps,(),(),()]) (r_ F) md rfl;let t:=Us (S:=O6) (W:=PW (m-1)) (ρ:=[sR n,du s a,PN ps,(),(),()]) (M:=M) (J:=λO=>∃V A E,O=[sR n,↑(du s a),↑(PN ps),V,A,E]) (Q:=xj M)
  (ds:=Fl [a%ue,Z%eD] (-(Z%eD))) (λj=>∀g,Z[j]?\g->∀x∈ps.getD g.a [],(a.getD j []).getD x 0∈ps.getD g.b []) rfl (by rw[lE];simp[-Wn,me,iH,Ko,zip2,w.la]) {3,_,_,_,rfl} (xj.refl _) (λi d H T hd hj C=>by
   let(V,A,E,rfl):=hj;let(R,rfl):=zip_get hd;let R:i< -Z:='s' R
   let(g,Y):=Ue R;let(js,X,_,hl,Ib):=w.act Y;let ga:=P.Z9 g (az Y);let gb:=P.bT g (az Y);let lp:-ps=K:=o.len>>w.ls;let e1:((a%ue).getD i .XQ)=ue js:=by simp[bx,X]
   let e2:((Z%eD).getD i .XQ)=eD g:=by simp[bx,Y]
   let e3:a.getD i []=js:=by simp[bx,X]
   show{1,[sR n,↑(du s a),↑(PN ps),↑(ue js),↑(eD g),E],by erw[gm,Ep,e1,e2];rfl,?_};let(kv,M2,D,c2,c3,k2):=Z6 (m:=m-1) (M:=T) (r_ (a_ ⋯ F)) (o.nd g.b) (a_ (o.l7 w g.b) ⋯);let i1:=Xx (M:=T) (ps:=ps) (k:=g.b) (b_ gb (g_ lp));let i2:=Xx (M:=M2) (ps:=ps) (k:=g.a) (b_ ga (g_ lp));let lt:=o.lt g.a;generalize hpa:ps.getD g.a []=pa at *;generalize hpb:ps.getD g.b []=pb at *;let l7:-pa<=7:=by rw[<-hpa];show o.l7 w _
   let c:Jb.WD (PW (m-1)) [sR n,↑(du s a),↑(PN ps),↑(ue js),↑(eD g),sR (-T)] M2=.ok (.vl (pa%λx=>.bl (decide (js.getD x 0∈pb)))) M2:=by
    unfold Jb;let:=Gu (W:=PW (m-1)) (v:=true) (k:=1) (t:=.name 6) (it:=.ix (.v 2) (.ix (.v 4) (.i 0))) (e:=.XX .inn (.ix (.v 3) (.v 6)) (.v 5)) (ρ:=[sR n,du s a,PN ps,ue js,eD g,sR (-T)]) (M:=M2) (M1:=M2) (ds:=pa%nD) (g:=λd=>match d with|⇑x=>.bl (decide (js.getD x.toNat 0∈pb))|_=>.XQ) (by simp[eG,i2];rfl) (by simp;lia) (λx B=>by
     let(y,hy,rfl):=bu<*B;let ix:=Mi (M:=M2) (l:=js) (i:=y) (by rw[hl];show lt y hy);show{1,[sR n,↑(du s a),↑(PN ps),↑(ue js),↑(eD g),sR (-T),sI y],rfl,?_};erw[nD,vg];simp[-List.getD_eq_getElem?_getD,ix,Si c2,c3.has])
    show this>>?_;simp[q9,nD]
   let N:=all_map (M:=M2) (λx=>decide (js.getD x 0∈pb)) pa;show{2,[sR n,↑(du s a),↑(PN ps),↑(ue js),↑(eD g),sR (-T)],M2,C>>k2,?_};let I:(∀L,Z[i]?\L->∀x∈ps.getD L.a [],(a.getD i []).getD x 0∈ps.getD L.b [])↔∀x∈pa,js.getD x 0∈pb:=by
    rw[e3];constructor
    .intro h x B;rw[<-hpb];show h g Y x (by rw[hpa];show B)
    .intro h L U x B
     rw[Y]at U;cases U;rw[hpa]at B;rw[hpb];show h x B
   by_cases q:∀x∈pa,js.getD x 0∈pb
   .let G:(pa.all λx=>decide (js.getD x 0∈pb))=true:=by simpa[-List.getD_eq_getElem?_getD]using q
    rw[G]at N;show .inl (I.mpr q,{3,_,_,_,rfl},by simp[-List.getD_eq_getElem?_getD,Jc,W9,i1,D,c,N])
   .let G:(pa.all λx=>decide (js.getD x 0∈pb))=false:=by
     rw[Bool.eq_false_iff];intro y;show q (by simpa[-List.getD_eq_getElem?_getD]using y)
    rw[G]at N;show .inr (λz=>q (I<*z),by simp[-List.getD_eq_getElem?_getD,Jc,W9,i1,D,c,N]))
 obtain⟨O,M',C,⟨h,⟨V,A,E,rfl⟩,e⟩|⟨h,e⟩⟩:=t.iff (p':=dX Z a ps) (λh j g Y=>h j (by simpa[Fl]using(ak<*Y).1) g Y,λh j _ g Y=>h j g Y)
 .exact{2,true,M',by simp[Fn.XM,K6,K5,e],by erw[true_iff];show h,C}
 .exact{2,false,M',by simp[Fn.XM,K6,K5,e],(λz=>(by cases z),λz=>absurd z h),C}
def aI.j{J T:Env->Prop}{Q:fc->Prop}(h:aI J Q p r)(e:∀Z,J Z->T Z):aI T Q p r:=by
 obtain⟨Y,G,q,⟨x,y,z⟩|x⟩:=h
 .exact{2,Y,G,q,.inl (x,e _ y,z)}
 .exact{2,Y,G,q,.inr x}
def toN(q:List (List Int)):List (List Nat):=q%λr=>r%Int.toNat
abbrev oq(hs:List F)(s:Y2)(a:List (List Nat))(q:List (List Int)):Prop:=dB s q/\dX hs a (toN q)
def yC(q:List (List Int))(k:Nat):(toN q).getD k []=q.getD k []%Int.toNat:=by erw[toN,bx,ie];cases q[k]?<;>rfl
def dB.row(h:dB s q)(k:Nat):fg s q k:=by
 rcases qi k (-s) with y|y
 .exact h.2 k y
 .let:q.getD k []=[]:=by rw[bx,jk (a_ (f_ h.1) y)];rfl
  change dA (q.getD k [])/\_;rw[this];show(.nil,λx Y=>by cases Y)
def dB.okN(h:dB s q):bo s (toN q):=(by simp[toN,h.1],λk=>by
 rw[yC,vh];let:=(h.row k).2;show(h.row k).1.imp_of_mem fun{x y} Y T e=>by let:=(h.row k).2 x Y;let:=(h.row k).2 y T;lia,λk x Y=>by
 rw[yC]at Y;let(y,T,rfl):=bu<*Y;let:=(h.row k).2 y T;lia)
def dB.pd(h:dB s q):PD q=PN (toN q):=by
 change D.WL (q%tI)=.WL (toN q%ue);rw[toN,q9]
 congr 1
 apply qg;intro r G;let(k,Y):=Be G;let:=(h.row k).2;rw[show q.getD k []=r by simp[bx,Y]]at this;change tI r=ue (r%Int.toNat);rw[<-iJ,cI,q9]
 congr 1
 conv=>lhs;rw[<-List.map_id r]
 show qg λx T=>by let:=this x T;change x=((x.toNat:Nat):Int);lia
def yD(T:3<=m)(P:Hz sz K Z U)(C:ZS n r K Z U M)(w:Mj K Z s a)(E:∀r∈q,-r<=30):∃b M',prog.call m 22 [↥n,du s a,PD q] M=.ok (.bl b) M'/\(b=true↔oq Z s a q)/\xj M M':=by
 rw[WQ (a_ ⋯ T) rfl];let(b,O,G,B,Y):=Sf (m:=m-1) (a:=a) (M:=M) (s:=s) (r_ (a_ ⋯ T)) (by let:=w.ls;let:=P.k3;lia) E;cases b with
 |false=>show{2,false,O,by simp[Fn.XM,Yk,Yj,G],(λz=>(by cases z),λz=>B.mpr z.1),Y}
 |true =>
  let o:=B<*rfl;let(b,N,J,L,k2):=Sj (m:=m-1) (r_ T) P (C.keep Y) w o.okN;rw[<-o.pd]at J;show{2,b,N,by simp[Fn.XM,Yk,Yj,G,J],L>>(λz=>(o,z),λz=>z.2),Y>>k2}
theorem yE:∀{r:X9},(∀k,k< -r->k=0\/r.getD (k-1) 0<r.getD k 0)->dA r
 |[],_=>.nil|[_],_=>Br _ _
 |x::y::r,h=>by
  let G:=yE (r:=y::r) λk J=>by
   cases k with
   |zero=>show .inl rfl
   |succ k =>
    rcases h (k+2) (Nat.succ_lt_succ J)with z|z
    .cases z
    .exact .inr z
  let T:x<y:=by
   rcases h 1 'b'with z|z
   .cases z
   .exact z
  show .cons (λz Y=>?_) G;rcases dj<*Y with rfl|Y
  .exact T
  .exact Int.lt_trans T (List.rel_of_pairwise_cons G Y)
def Sk(h:dA r){k:Nat}(Y:k+1< -r):r.getD k 0<r.getD (k+1) 0:=by let:=List.pairwise_iff_getElem.mp h k (k+1) 'a' Y 'a';simpa[bx,Y,Nat.lt_of_succ_lt Y]using this
abbrev EZ(pt w p:D)(b3 b4 b5 b6:Option D):Env:=[↑pt,↑w,↑p,b3,b4,b5,b6]
abbrev JZ(pt w p:D)(ρ:Env):Prop:=∃b3 b4 b5 b6,ρ=EZ pt w p b3 b4 b5 b6
abbrev JK(pt w p:D)(k:Nat)(ρ:Env):Prop:=∃b4 b5 b6,ρ=EZ pt w p (sI k) b4 b5 b6
def Sl{r':Nat}(w:Mj K Z s a)(e:-q=K)(I:K<=100000)(U:∀k,-q.getD k []<=30):aI (JZ (o7 K r' Z) (du s a) (PD q)) (·=M) (∀k,k<K->fg s q k) (Je.WD W (EZ (o7 K r' Z) (du s a) (PD q) () () () ()) M):=by
 let t:=Us (S:=Je) (W:=W) (ρ:=EZ (o7 K r' Z) (du s a) (PD q) () () () ()) (M:=M) (J:=JZ (o7 K r' Z) (du s a) (PD q)) (Q:=(·=M)) (ds:='r' K%nD) (fg s q) rfl (kX (by simp[o7]) I) {4,_,_,_,_,rfl} rfl (λk d A V G O H=>by
  let(b3,F,L,C,rfl):=O;subst H;obtain⟨hk,rfl⟩:k<K/\nD k=d:=by let:=(ak<*G).1;simp at this;simp[this]at G;show(this,G)
  show{1,_,rfl,aI.one (aI.j (J:=JK (o7 K r' Z) (du s a) (PD q) k) ?_ λ_ (F,L,C,h)=>{4,_,F,L,C,h})};let N:=Sb (M:=V) (q:=q) (k:=k) 'a';let R:=Mi (M:=V) (l:=s) (i:=k) (by let:=w.ls;lia);let ow:∀M,Ax (o7 K r' Z) ⇑0 M\⇑K:=λ_=>rfl
  generalize hrr:q.getD k []=r at *;generalize kY:s.getD k 0=z at *;show aI.iff (Us (S:=O9) (ds:='r' (-r)%nD) (J:=JK (o7 K r' Z) (du s a) (PD q) k) (Q:=(·=V)) (λj=>(0<=r.getD j 0/\r.getD j 0<(z:Int))/\(j=0\/r.getD (j-1) 0<r.getD j 0)) rfl (kX (n:=-r) (by simp[N,nD,tI,Wq]) (by let:=U k;rw[hrr]at this;lia)) (_,_,_,rfl) rfl λj d A P G O H=>?_) ?_
  .let(F,L,C,rfl):=O
   subst H;obtain⟨O,rfl⟩:j< -r/\nD j=d:=by let:=(ak<*G).1;simp at this;simp[this]at G;show(this,G)
   show{1,EZ (o7 K r' Z) (du s a) (PD q) (sI k) (sI j) L C,rfl,?_};let E:=xt (M:=P) (l:=r) (i:=j) O;let x2:∀i,j=i+1->Ax (tI r) ⇑((j:Int)-1) P\⇑(r.getD i 0):=λi h=>by rw[show((j:Int)-1)=(i:Nat)by lia];show xt 'a'
   let:∃b,(Ex.or (.not (.ZG .le .lt (.i 0) (.xx (.v 2) (.v 3) (.v 4)) (.xx (.v 1) (.i 0) (.v 3)))) (.and (.XX .gt (.v 4) (.i 0)) (.XX .ge (.xx (.v 2) (.v 3) (.YG .sub (.v 4) (.i 1))) (.xx (.v 2) (.v 3) (.v 4))))).WD W (EZ (o7 K r' Z) (du s a) (PD q) (sI k) (sI j) L C) P=.ok (.bl b) P/\(b=true↔¬((0<=r.getD j 0/\r.getD j 0<(z:Int))/\(j=0\/r.getD (j-1) 0<r.getD j 0))):=by
    generalize r.getD j 0=x at *;let p0:j=0->¬(0:Int)<(j:Int):=λh=>'a'
    let p1:∀i,j=i+1->(0:Int)<(j:Int):=λi h=>'a'
    generalize(j:Int)=jj at *
    by_cases T:0<=x
    .by_cases B:x<(z:Int)
     .cases j with
      |zero=>show{1,false,by simp[N,R,Ke,E,T,B,p0 rfl],by simp[T,B]}
      |succ i =>
       let X:=x2 i rfl;rw[show i+1-1=i by lia];generalize r.getD i 0=y at *;show{1,decide (x<=y),by simp[N,R,Ke,E,T,B,X,p1 i rfl],?_};rw[f9];erw[T,B,and_self,true_and]
       lia
     .exact{1,true,by simp[N,R,Ke,E,T,B],by simp[T,B]}
    .exact{1,true,by simp[N,R,Ke,E,T],by simp[T]}
   let(b,D,hb):=this;show yA _ b D hb {3,_,_,_,rfl} rfl
  .erw[dh,Ag]
   change _↔dA (q.getD k [])/\_;rw[hrr,kY];constructor
   .intro h
    show(yE λi Y=>(h i Y).2,λx hx=>?_);let(i,Y,rfl):=m9 hx;let:=(h i Y).1;simpa[bx,Y]using this
   .intro h i Y
    show(h.2 _ (by rw[bx,bh Y];show j9 Y),?_);cases i with
    | zero=>show .inl rfl|succ i=>show .inr (Sk h.1 Y))
 simpa using t
def Sn{r':Nat}(H:1<=m)(P:Hz sz K Z jo)(w:Mj K Z s a)(o:bo s ps)(h3:∃b3 b4 b5 U,ρ=EZ (o7 K r' Z) (du s a) (PN ps) b3 b4 b5 U):aI (JZ (o7 K r' Z) (du s a) (PN ps)) (·=M) (dX Z a ps) (Jd.WD (PW m) ρ M):=by
 let hK:=P.k3;let lp:-ps=K:=o.len>>w.ls;let(b3,b4,b5,U,rfl):=h3;show aI.iff (Us (S:=Jd) (J:=JZ (o7 K r' Z) (du s a) (PN ps)) (Q:=(·=M)) (ds:='r' K%nD) (λk=>∀i,i< -ps.getD k []->∀j,j< -wI Z k->Cr a ((ps.getD k []).getD i 0) ((wI Z k).getD j 0)∈ps.getD (Ak Z k ⇑((wI Z k).getD j 0)) []) rfl (kX (n:=K) (by simp[o7]) (a_ hK ⋯)) {4,_,_,_,_,rfl} rfl (λk d ρ F Y T C=>?_)) ?_
 .let(b3,b4,b5,U,rfl):=T
  subst C;obtain⟨V,rfl⟩:k<K/\nD k=d:=by let:=(ak<*Y).1;simp at this;simp[this]at Y;show(this,Y)
  show{1,_,rfl,aI.one (aI.j (J:=JK (o7 K r' Z) (du s a) (PN ps) k) ?_ λ_ (b4,b5,U,h)=>{4,_,b4,b5,U,h})};let i1:=Xx (M:=F) (ps:=ps) (k:=k) 'a';let lt:=o.lt k;generalize ps.getD k []=r at *;show aI.iff (Us (S:=O8) (ds:=r%nD) (J:=JK (o7 K r' Z) (du s a) (PN ps) k) (Q:=(·=F)) (λi=>∀j,j< -wI Z k->Cr a (r.getD i 0) ((wI Z k).getD j 0)∈ps.getD (Ak Z k ⇑((wI Z k).getD j 0)) []) rfl (by simp[i1,nD,ue,YJ]) (_,_,_,rfl) rfl λi d ρ M2 Y T C=>?_) 'b';let(b4,b5,U,rfl):=T;subst C;rw[ie]at Y;let(x,B,rfl):=dg<*Y;rw[Gf B];let E:=lt x (az B);show{1,_,rfl,aI.one (aI.j (J:=fun ρ=>∃U,ρ=EZ (o7 K r' Z) (du s a) (PN ps) (sI k) b4 (sI x) U) ?_ λ_ (U,h)=>{3,_,_,U,h})};show aI.iff (Us (S:=O7) (ds:=wI Z k% .int) (J:=fun ρ=>∃U,ρ=EZ (o7 K r' Z) (du s a) (PN ps) (sI k) b4 (sI x) U) (Q:=(·=M2)) (λj=>Cr a x ((wI Z k).getD j 0)∈ps.getD (Ak Z k ⇑((wI Z k).getD j 0)) []) rfl (by simp[Xn H P.len,YJ,Ku]) (_,rfl) rfl λj d ρ L Y T C=>?_) 'b';let(U,rfl):=T;subst C;rw[ie]at Y;let(v,A,rfl):=dg<*Y;rw[Gf A];let G:=Bk<*(az A);let I:=kU (m:=m) (M:=L) H w G E;let X:=oh (m:=m) (r:=r') (K:=K) (M:=L) H G;let i2:=Xx (M:=L) (ps:=ps) (k:=Ak Z k ⇑v) (by rw[lp];show Ur P V G);let D:Nu L ⇑(Cr a x v:Nat) (ue (ps.getD (Ak Z k ⇑v) []))\(decide (Cr a x v∈ps.getD (Ak Z k ⇑v) [])):=by
   rw[<-iJ,x8]
   congr 1
   rw[decide_eq_decide];show mem_cast>>(λ(z,h,e)=>by rw[D_ e];show h,λh=>(_,h,rfl))
  show{1,_,rfl,yA _ (!decide (Cr a x v∈ps.getD (Ak Z k ⇑v) [])) ?_ (by simp[-List.getD_eq_getElem?_getD]) {1,_,rfl} rfl};generalize ps.getD (Ak Z k ⇑v) []=pe at *;simp[I,X,i2,D]
 .erw[dh,Ag]
  constructor
  .intro h j g N x B
   let ga:=P.Z9 g (az N);let(i,O,rfl):=m9 B;let G:⇑(j:Int)∈uy Z g.a:=oN N rfl;let(l,W):=Be (Bk.mpr G);let:=h g.a ga i O l (ak<*W).1;rw[Gf W,Em N,Gf (bh O)]at this;let(js,R,e,_):=w.act N;rw[e]at this;rw[Gf R];show this
  .intro h k V i O j T
   let B:(ps.getD k []).getD i 0∈ps.getD k []:=by rw[Gf (bh O)];show j9 O
   let G:=Bk<*(show(wI Z k).getD j 0∈wI Z k by rw[Gf (bh T)];show j9 T);generalize(ps.getD k []).getD i 0=x at *;generalize(wI Z k).getD j 0=v at *;rcases Ek G with e|⟨l,f,e,hf,fa⟩
   .cases e
    rw[We,Za];show B
   .cases e
    let(js,R,e,_):=w.act hf;rw[Em hf,e];let:=h l f hf x (by rw[fa];show B);rw[Gf R]at this;show this
def So{r':Nat}(L:2<=m)(P:Hz sz K Z U)(w:Mj K Z s a)(H:∀r∈q,-r<=30):∃b,prog.call m 35 [o7 K r' Z,du s a,PD q] M=.ok (.bl b) M/\(b=true↔oq Z s a q):=by
 rw[WQ (a_ ⋯ L) rfl];let Y:qu .len [PD q] M=.ok ⇑(-q) M:=by simp[PD,Wq]
 let G:Ax (o7 K r' Z) ⇑0 M\⇑K:=rfl;let O:∀k,-q.getD k []<=30:=λk=>by
  rcases qi k (-q) with y|y
  .exact H _ (az (oo (d:=[]) y))
  .rw[bx,jk y];show iw _
 by_cases e:-q=K
 .obtain⟨Q,V,rfl,⟨N,E,T⟩|⟨N,T⟩⟩:=Sl (M:=M) (W:=PW (m-1)) (r':=r') w e (a_ P.k3 ⋯) O
  .let o:dB s q:=(e>>w.ls.symm,λk J=>N k (by rw[<-w.ls];show J))
   rw[o.pd]at E T;obtain⟨R,F,rfl,⟨C,_,B⟩|⟨C,B⟩⟩:=Sn (m:=m-1) (M:=V) (r':=r') (r_ L) P w o.okN E
   .exact{1,true,by rw[o.pd]at Y⊢;simp[Fn.XM,Gi,Gh,Y,G,e,T,B],by erw[true_iff];show(o,C)}
   .exact{1,false,by rw[o.pd]at Y⊢;simp[Fn.XM,Gi,Gh,Y,G,e,T,B],(λz=>(by cases z),λz=>absurd z.2 C)}
  .exact{1,false,by simp[Fn.XM,Gi,Gh,Y,G,e,T],(λz=>(by cases z),λz=>absurd (λk J=>z.1.2 k (by rw[w.ls];show J)) N)}
 .let S:¬((-q:Int)=K):=λz=>e (D_ z)
  show{1,false,by simp[Fn.XM,Gi,Gh,Y,G,S],(λz=>(by cases z),λz=>absurd (z.1.1>>w.ls) e)}
def el(Y:List (List Nat)):List Nat:=Y%(-·)
def kZ(T:List F)(a Y:List (List Nat))(j:Nat):List Nat:=match T[j]? with
 |some g=>Y.getD g.a []%λx=>Z5 (Y.getD g.b []) ((a.getD j []).getD x 0)
 |none=>[]
def bB(T:List F)(a Y:List (List Nat))(n:Nat):List (List Nat):='r' n%(kZ T a Y)
def ox:-(bB Z a ps n)=n:=by simp[bB]
def yF(Y:List (List Nat)){c:Ex}(G:c=.WN true 1 (.name y) (.val (.v 2)) (.l (.v y)))(T:y=-ρ)(J:ρ[2]?\↑(PN Y))(O:-Y<=1000):c.WD W ρ M=.ok (.vl (el Y%nD)) M:=by
 subst G;let:=Gu (W:=W) (v:=true) (k:=1) (t:=.name y) (it:=.v 2) (e:=.l (.v y)) (ρ:=ρ) (M:=M) (M1:=M) (ds:=Y%ue) (g:=λd=>match d with|.WL ds=>⇑(-ds)|_=>.XQ) (by simp[J];rfl) (by simp;lia) (λx B=>by
  let(l,_,rfl):=bu<*B;show{1,_,rfl,?_};subst T;simp[ue,Wq])
 show this>>?_;simp[el,q9];show λ_ _=>by simp[ue,nD]
def S7{Y:Y2}{v:Nat}(h:v∈Y):Kg .Py (ue Y) [⇑v] M=.ok (nD (Z5 Y v)) M:=wm (M:=M) (xQ Y) (oW h)
def yG{c:Ex}{e:Ex}{js pa pb:Y2}{y:Nat}(T:c=.WN true 1 (.name y) (.val Z) e)(J:Z.WD W ρ M=.ok (ue pa) M)(O:-pa<=7)
 (h:∀x∈pa,e.WD W ((ρ++'R' 1 ()).set y (sI x)) M=.ok (nD (Z5 pb (js.getD x 0))) M):(Ex.tp c).WD W ρ M=.ok (ue (pa%λx=>Z5 pb (js.getD x 0))) M:=by
 subst T;let:=Gu (W:=W) (v:=true) (k:=1) (t:=.name y) (it:=Z) (e:=e) (ρ:=ρ) (M:=M) (M1:=M) (ds:=pa%nD) (g:=λd=>match d with|⇑x=>nD (Z5 pb (js.getD x.toNat 0))|_=>.XQ) J (by simp;lia) (λx B=>by
  let(z,Y,rfl):=bu<*B;show{1,_,rfl,by simpa[nD]using h z Y})
 let G:((pa%nD)%λd=>match d with|⇑x=>nD (Z5 pb (js.getD x.toNat 0))|_=>.XQ)=(pa%λx=>Z5 pb (js.getD x 0))%nD:=by rw[q9,q9];rfl
 rw[G]at this;simp[this,qu,ue]
def TB(F:2<=m)(P:Hz sz K Z jo)(u:ZS n r K Z jo M)(w:Mj K Z s a)(o:bo s ps)(st:dX Z a ps):∃M',prog.call m 25 [↥n,du s a,PN ps] M=.ok (.WL [du (el ps) (bB Z a ps (-Z)),PN ps]) M'/\xj M M':=by
 rw[WQ (a_ ⋯ F) rfl];let D:-ps=K:=o.len>>w.ls;let l3:=P.k3;let l5:=P.len;let t:=yB (m:=m-1) (i:=0) (ρ:=[sR n,du s a,PN ps,sR (-M),(),(),(),()]) (r_ F) (u.keep (xj.ZP M [.WK []])) rfl;let(O,M',e,(L,E,B,rfl),Q,R):=rR (S:=Sy) (W:=PW (m-1)) (ρ:=[sR n,du s a,PN ps,sR (-M),(),(),(),()]) (M:=M++[.WK []]) (M1:=M++[.WK []]) (s:=.Ys (Fl [a%ue,Z%eD] (-(Z%eD)))) (n:=-Z) rfl
  (by rw[lE];simp[-Wn,t,iH,Ko,zip2,w.la]) (by simp[XN.len,Fl])
  (λj O M'=>(∃L E B,O=[sR n,↑(du s a),↑(PN ps),sR (-M),L,E,B,()])/\M'[M.length]?\(.WK (bB Z a ps j%ue))/\xj M M')
  ({3,(),(),(),rfl},Ft,xj.ZP _ _) (λ_ _ _=>rfl) (λi C J q hI=>by
   let((L,E,B,rfl),Q,R):=hI;let(g,G):=Ue q;let(Y,V,_,U,Ib):=w.act G;let ga:=P.Z9 g (az G);let gb:=P.bT g (az G);let eS:bB Z a ps (i+1)=bB Z a ps i++[ps.getD g.a []%λx=>Z5 (ps.getD g.b []) (Y.getD x 0)]:=by simp[bB,tu,kZ,G,V]
   rw[eS];show{2,_,[sR n,↑(du s a),↑(PN ps),sR (-M),↑(ue Y),↑(eD g),B,()],x9 V G w.la,rfl,?_};let(kv,N,f,v,I,k2):=Z6 (m:=m-1) (M:=J) (r_ (a_ ⋯ F)) (o.nd g.b) (a_ (o.l7 w g.b) ⋯);let i1:=Xx (M:=J) (ps:=ps) (k:=g.b) (b_ gb (g_ D));let i2:=Xx (M:=N) (ps:=ps) (k:=g.a) (b_ ga (g_ D));let lt:=o.lt g.a;let l7:=o.l7 w g.a;let T:=st i g G;rw[Gf V]at T;generalize hpa:ps.getD g.a []=pa at *;generalize hpb:ps.getD g.b []=pb at *;let c:=yG (W:=PW (m-1)) (c:=Sw) (ρ:=[sR n,du s a,PN ps,sR (-M),ue Y,eD g,sR (-J),()]) (M:=N) (js:=Y) (pa:=pa) (pb:=pb) rfl (by simp[eG,i2]) l7 (λx A=>by
    let p:=Mi (M:=N) (l:=Y) (i:=x) (by rw[U];show lt x A);let:=I.got _ (T x A);let:=qY (b:=⇑(Y.getD x 0:Nat)) v rfl;rw[I.got _ (T x A)]at this;generalize Y.getD x 0=z at *;simp[p,this])
   let H:=k2 _ _ Q;let ap:=Gm (d:=ue (pa%λx=>Z5 pb (Y.getD x 0))) H (by rw[dh,ox];lia);show{2,[sR n,↑(du s a),↑(PN ps),sR (-M),↑(ue Y),↑(eD g),sR (-J),()],N.set (-M) (.WK (bB Z a ps i%ue++[ue (pa%λx=>Z5 pb (Y.getD x 0))])),?_,{3,_,_,_,rfl},?_,λb o X=>?_}
   .generalize(pa%λx=>Z5 pb (Y.getD x 0))=row at *
    simp[-Qa,Sx,W9,i1,f,Gg H,c,ap]
   .rw[m6 H,jc];rfl
   .rw[jw (i_ (wu X))];show k2 _ _ (R _ _ X))
 let cl:=yF (W:=PW (m-1)) (M:=M') ps (c:=Sv) (y:=8) (ρ:=[sR n,du s a,PN ps,sR (-M),L,E,B,()]) rfl rfl rfl 'a';show{1,M',?_,R};simp[Fn.XM,Ws,Wr,MW.new,e,cl,qu,Jo (ju Q)];rfl
def TC{r':Nat}(U:2<=m)(P:Hz sz K Z jo)(w:Mj K Z s a)(o:bo s ps)(st:dX Z a ps):∃M',prog.call m 32 [o7 K r' Z,du s a,PN ps] M=.ok (du (el ps) (bB Z a ps (-Z))) M'/\xj M M':=by
 rw[WQ (a_ ⋯ U) rfl];let V:-ps=K:=o.len>>w.ls;let l3:=P.k3;let l5:=P.len;let la:=w.la;let H:∀M,Ax (o7 K r' Z) ⇑1 M\(Ko Z):=λ_=>rfl
 let(C,M',e,(L,N,O,rfl),J,E):=zf (S:=Wy) (W:=PW (m-1)) (n:=-Z) (ρ:=[o7 K r' Z,du s a,PN ps,sR (-M),(),(),()]) (M:=M++[.WK []]) (M1:=M++[.WK []]) rfl
  (by simp[H,Qm]) 'a'
  (λj C M'=>(∃L N O,C=[↑(o7 K r' Z),↑(du s a),↑(PN ps),sR (-M),L,N,O])/\M'[M.length]?\(.WK (bB Z a ps j%ue))/\xj M M')
  ({3,(),(),(),rfl},Ft,xj.ZP _ _) (λi R Y X hI=>by
   let((L,N,O,rfl),J,E):=hI;let(g,G):=Ue X;let(T,Q,_,u,Ib):=w.act G;let t:=P.Z9 g (az G);let gb:=P.bT g (az G);let eS:bB Z a ps (i+1)=bB Z a ps i++[ps.getD g.a []%λx=>Z5 (ps.getD g.b []) (T.getD x 0)]:=by simp[bB,tu,kZ,G,Q]
   rw[eS];let f:=Xx (M:=Y) (ps:=ps) (k:=g.b) (b_ gb (g_ V));let p:=Xx (M:=Y) (ps:=ps) (k:=g.a) (b_ t (g_ V));let I:=oe (M:=Y) Q;let lt:=o.lt g.a;let l7:=o.l7 w g.a;let B:=st i g G;rw[Gf Q]at B;generalize hpa:ps.getD g.a []=pa at *;generalize hpb:ps.getD g.b []=pb at *;let c:=yG (W:=PW (m-1)) (c:=Ww) (ρ:=[o7 K r' Z,du s a,PN ps,sR (-M),sI i,D.int g.a,D.int g.b]) (M:=Y) (js:=T) (pa:=pa) (pb:=pb) rfl (by simp[p]) l7 (λx A=>by
    let q:=Mi (M:=Y) (l:=T) (i:=x) (by rw[u];show lt x A);let r:=B x A;let bt:Oo .Py (ue pb) Y=true:=rfl;generalize T.getD x 0=z at *;let:=S7 (M:=Y) r;simp[f,bt,iH,I,q,this])
   let ap:=Gm (d:=ue (pa%λx=>Z5 pb (T.getD x 0))) J (by rw[dh,ox];lia);let v:(Tg.names [5,6]).put (eD g) [↑(o7 K r' Z),↑(du s a),↑(PN ps),sR (-M),sI i,N,O]=some [↑(o7 K r' Z),↑(du s a),↑(PN ps),sR (-M),sI i,↑⇑g.a,↑⇑g.b]:=rfl;show{4,_,.next,[↑(o7 K r' Z),↑(du s a),↑(PN ps),sR (-M),sI i,↑⇑g.a,↑⇑g.b],Y.set (-M) (.WK (bB Z a ps i%ue++[ue (pa%λx=>Z5 pb (T.getD x 0))])),rfl,?_,.inl rfl,{3,_,_,_,rfl},?_,λb o F=>?_}
   .generalize(pa%λx=>Z5 pb (T.getD x 0))=row at *
    simp[-Qa,Wx,H,Vi G,v,Gg J,c,ap]
   .rw[m6 J,jc];rfl
   .rw[jw (i_ (wu F))];show E _ _ F)
 let cl:=yF (W:=PW (m-1)) (M:=M') ps (c:=Wv) (y:=7) (ρ:=[o7 K r' Z,du s a,PN ps,sR (-M),L,N,O]) rfl rfl rfl 'a';show{1,M',?_,E};simp[Fn.XM,qr,qo,MW.new,e,cl,qu,Jo (ju J)];rfl
structure fh(hs:List F)(a:List (List Nat))(k x:Nat)(l l':Nat->List Nat)(ws:X9):Prop where
 old:∀e y,y∈l e->y∈l' e
 new:∀w∈ws,Cr a x w∈l' (Ak hs k ⇑w)
 only:∀e y,y∈l' e->y∈l e\/∃w∈ws,Ak hs k ⇑w=e/\Cr a x w=y
 len:∀e,-l' e<=-(l e)+-ws
def en(l:Nat->List Nat)(e y:Nat):Nat->List Nat:=λY=>if Y=e then l Y++[y]else l Y
def oy:z∈en l e y Z↔z∈l Z\/(Z=e/\z=y):=by
 unfold en;split
 .rename_i h;simp[h]
 .rename_i h;simp[h]
def fh.snoc(g:fh Z a k x l U ws)(w:Int):fh Z a k x l (en U (Ak Z k ⇑w) (Cr a x w)) (ws++[w]):=⟨λe y h=>oy.mpr (.inl (g.old e y h)),λv Y=>by
 rw[oy];rcases dz<*Y with h|h
 .exact .inl (g.new v h)
 .rw[ig<*h];show .inr (rfl,rfl),λe y h=>by
 rcases oy<*h with h|⟨h1,h2⟩
 .rcases g.only e y h with h|⟨v,Y,q⟩
  .exact .inl h
  .exact .inr {1,v,qw _ Y,q}
 .exact .inr {1,w,'b',h1.symm,h2.symm},λe=>by
 let:=g.len e;unfold en;split<;>simp<;>lia⟩
abbrev EG(t:Nat)(pt w:D)(p K:Nat)(b4 b5 b6 b7:Option D):Env:=[sR t,↑pt,↑w,↑(.vl (ym p K)),b4,b5,b6,b7]
def TF{r':Nat}(R:1<=m)(P:Hz sz K Z jo)(w:Mj K Z s a)(A:k<K)(hx:x<s.getD k 0)(h:RS p K (λe=>l e%nD) M)(D:∀e,e<K->-(l e)<=100) :
 ∃b7 l' U,Ly.WD (PW m) (EG t (o7 K r' Z) (du s a) p K b4 (sI k) (sI x) fe) M=.ok (.next,EG t (o7 K r' Z) (du s a) p K b4 (sI k) (sI x) b7) U/\RS p K (λe=>l' e%nD) U/\aH p M U/\-U=-M/\fh Z a k x l l' (wI Z k):=by
 let F:-(wI Z k)<=6:=by let:=Pr (k:=k) P.len;rw[Ku]at this;simpa using this
 let(G,U,e,(b7,rfl),l',J,Q,O,Y):=rR (S:=Ly) (W:=PW m) (ρ:=EG t (o7 K r' Z) (du s a) p K b4 (sI k) (sI x) fe) (M:=M) (M1:=M) (s:=.Ys (wI Z k% .int)) (n:=-wI Z k) rfl
  (by simp[Xn R P.len,YJ,Ku]) (by simp[XN.len])
  (λi G U=>(∃b7,G=EG t (o7 K r' Z) (du s a) p K b4 (sI k) (sI x) b7)/\∃l',RS p K (λe=>l' e%nD) U/\aH p M U/\-U=-M/\fh Z a k x l l' ((wI Z k).take i))
  ({1,_,rfl},l,h,aH.refl _ _,rfl,(λ_ _ h=>h,λw h=>(by cases h),λ_ _ h=>.inl h,λ_=>bz _)) (λ_ _ _=>rfl) (λi I T B X=>by
   let((b7,rfl),l',J,Q,O,Y):=X;let(v,L):=Ue B;let C:=Bk<*(az L);let N:=Ur P A C;let g:=J _ N;let H:=kU (m:=m) (M:=T) R w C hx;let V:=oh (m:=m) (r:=r') (K:=K) (M:=T) R C;let ll:=Y.len (Ak Z k ⇑v);let ap:=Gm (d:=nD (Cr a x v)) g (by rw[dh];let:=D _ N;let:=Dt i (wI Z k);lia);show{2,⇑v,_,by simp[XN.item,L],rfl,(EG t (o7 K r' Z) (du s a) p K b4 (sI k) (sI x) (sI v),T.set (p+Ak Z k ⇑v) (.WK (l' (Ak Z k ⇑v)%nD++[nD (Cr a x v)])),?_,{1,_,rfl},en l' (Ak Z k ⇑v) (Cr a x v),λi B=>?_,Q>>(aH.set x_),by rw[uh];show O,by rw[zr,L];show Y.snoc v)}
   .generalize Cr a x v=y at *
    generalize Ak Z k ⇑v=e at *;let E:Kg .append ↥(p+e) [⇑(y:Nat)] T=_:=ap;simp[Tf,H,V,kO N,Gg g,E]
   .by_cases z:i=Ak Z k ⇑v
    .subst z
     rw[m6 g];simp[en]
    .rw[jw 'a',J i B];simp[en,z])
 rw[An]at Y;show{3,b7,l',U,e,J,Q,O,Y}
structure Gr(hs:List F)(s:Y2)(a:List (List Nat))(K n:Nat)(l:Nat->List Nat):Prop where
 lt:∀e,e<K->∀y∈l e,y<s.getD e 0
 cl:∀e,e<K->∀y∈l e,∀w∈wI hs e,Cr a y w∈l (Ak hs e ⇑w)
 len:∀e,-l e<=6*n
def Gr.turn(P:Hz sz K Z U)(w:Mj K Z s a)(h:Gr Z s a K n l)(L:k<K)(J:x<s.getD k 0)(g:fh Z a k x l l' (wI Z k)):Gr Z s a K (n+1) l':=⟨λe G y T=>by
 rcases g.only e y T with q|⟨v,Y,rfl,rfl⟩
 .exact h.lt e G y q
 .exact kS w (Bk<*Y) J,λe G y T v Y=>by
 rcases g.only e y T with q|⟨u,hu,rfl,rfl⟩
 .exact g.old _ _ (h.cl e G y q v Y)
 .let(c,B,O,N):=og P (Bk<*hu) (Bk<*Y)
  rw[kT P w (Bk<*hu) (Bk<*Y) B J,<-N];show g.new c (Bk.mpr O),λe=>by
 let:=g.len e;let:=h.len e;let C:-(wI Z k)<=6:=by let:=Pr (k:=k) P.len;rw[Ku]at this;simpa using this
 lia⟩
def TH{l:Y2}(h:Cm M d\(l%nD))(G:-l<31):∃Z:List Nat,qu .Ey [d] M=.ok (.vl (Z%nD)) M/\Z.Pairwise (· < ·)/\∀x,x∈Z↔x∈l:=by
 let(b,J):=bnd l;let Y:∀z,z∈l↔z<b/\decide (z∈l)=true:=λz=>by rw[f9];show(λq=>(J z q,q),λq=>q.2)
 let(T,B):=oV (f:=λz=>decide (z∈l)) h (.inr G) Y;show{1,_,T,kQ b _,λx=>by rw[Xr];show(Y x).symm}
def TJ{r':Nat}(E:2<=m)(P:Hz sz K Z jo)(w:Mj K Z s a)(hh:W7 t f M):∃ps U,prog.call m 42 [↥t,o7 K r' Z,du s a] M=.ok (PN ps) U/\St t f M U/\bo s ps/\dX Z a ps:=by
 rw[WQ (a_ ⋯ E) rfl];let h3:=P.k3;let h1:=P.k1;let ht:t< -M:=by let(n,h,_):=hh;show wu h
 let ow:∀M,Ax (o7 K r' Z) ⇑0 M\⇑K:=λ_=>rfl
 let rn:=wo (W:=PW (m-1)) (y:=8) (ρ:=[sR t,o7 K r' Z,du s a,(),(),(),(),()]) (M:=M) (e:=.ix (.v 1) (.i 0)) (K:=K) rfl (by simp[ow]) (a_ h3 ⋯);let rn:Ti.WD (PW (m-1)) [sR t,↑(o7 K r' Z),↑(du s a),(),(),(),(),()] M=_:=rn;let qq:RS (-M) K (λe=>([]:Y2)%nD) (M++'R' K (.WK [])):=λi V=>by rw[jf x_];simp[V]
 let qk:W7 t f (M++'R' K (.WK [])):=by let(n,h,o):=hh;show{1,n,Af h,o}
 let(v,M1,e1,l1,X,n1):=Dj (m:=m-1) (many:=4) (M:=M++'R' K (.WK [])) (r_ (a_ ⋯ E)) qk ⋯ ⋯;let v4:v<4:='a'
 let(L,M2,e2,(R,b5,I,B,rfl),l,q1,q2,q3,D,T):=zf (S:=Th) (W:=PW (m-1)) (n:=v) (ρ:=EG t (o7 K r' Z) (du s a) (-M) K () () () ()) (M:=M++'R' K (.WK [])) (M1:=M1) rfl (by simp[e1]) 'a'
  (λi L U=>(∃R b5 I B,L=EG t (o7 K r' Z) (du s a) (-M) K R b5 I B)/\∃l,RS (-M) K (λe=>l e%nD) U/\W7 t f U/\(∀b o,b< -M->b≠t->M[b]?\o->U[b]?\o)/\-M<=-U/\Gr Z s a K i l)
  ({4,_,_,_,_,rfl},λ_=>[],qq.keep X ht,X.has,λb o Q G e=>X.keep b o G (Af e),a_ 'b' X.len,(λ_ _ y hy=>(by cases hy),λ_ _ y hy=>(by cases hy),λ_=>iw _)) (λi ρ M2 V hI=>by
   let((R,b5,I,B,rfl),l,q1,q2,q3,D,T):=hI;let(k,M3,e3,l3,s3,n3):=Dj (m:=m-1) (many:=K) (M:=M2) (r_ (a_ ⋯ E)) q2 'a' 'a';let(x,F,e4,l4,s4,n4):=Dj (m:=m-1) (many:=8) (M:=M3) (r_ (a_ ⋯ E)) s3.has ⋯ ⋯;let st:=s3>>s4;let Y:k<K:=o_ l3
   let i1:=Mi (M:=F) (l:=s) (i:=k) (by rw[w.ls];show Y);let q6:=q1.keep st ht;let q7:∀b o,b< -M->b≠t->M[b]?\o->F[b]?\o:=λb o Q G e=>st.keep b o G (q3 b o Q G e)
   let gl:=T.len
   by_cases c:x<s.getD k 0
   .let c':(x:Int)<(s.getD k 0:Nat):=m_ c
    let(N,l',M5,e5,r1,r2,r3,r4):=TF (m:=m-1) (t:=t) (r':=r') (M:=F) (b4:=sI i) (fe:=B) (r_ (a_ ⋯ E)) P w Y c q6 (λe _=>by let:=gl e;lia);show{4,_,.next,EG t (o7 K r' Z) (du s a) (-M) K (sI i) (sI k) (sI x) N,M5,rfl,?_,.inl rfl,{4,_,_,_,_,rfl},(l',r1,by let(n,h,o):=st.has;show{1,n,r2 _ _ ht h,o},λb o Q G e=>r2 _ _ Q (q7 b o Q G e),by rw[r3];show a_ D st.len,T.turn P w Y c r4)};generalize s.getD k 0=z at *;simp[Lz,ow,e3,e4,Ke,i1,c',e5]
   .let c':¬(x:Int)<(s.getD k 0:Nat):=λh=>c (o_ h)
    show{4,_,.next,EG t (o7 K r' Z) (du s a) (-M) K (sI i) (sI k) (sI x) B,F,rfl,?_,.inl rfl,{4,_,_,_,_,rfl},(l,q6,st.has,q7,a_ D st.len,(T.lt,T.cl,λe=>by let:=gl e;lia))};generalize s.getD k 0=z at *;simp[Lz,ow,e3,e4,Ke,i1,c'])
 let qv:∀k,∃C:List Nat,k<K->qu .Ey [↥(-M+k)] M2=.ok (.vl (C%nD)) M2/\C.Pairwise (· < ·)/\∀x,x∈C↔x∈l k:=λk=>by
  by_cases Y:k<K
  .let(C,h):=TH (Jo (ju (q1 k Y))) (by let:=T.len k;lia)
   show{1,C,λ_=>h}
  .exact{1,[],λh=>absurd h Y}
 have(H,hH):=Classical.axiomOfChoice qv;let c:Lx.WD (PW (m-1)) (EG t (o7 K r' Z) (du s a) (-M) K R b5 I B) M2=.ok (.vl ('r' K%λk=>ue (H k))) M2:=by
  unfold Lx;rw[Xv (ds:=ym (-M) K) (g:=λk=>ue (H k)) (by simp[YJ]) (by simp[ym];lia) (λi d hd=>by
   obtain⟨V,rfl⟩:i<K/\↥(-M+i)=d:=by let:=(ak<*hd).1;simp[ym]at this;simp[ym,this]at hd;show(this,hd)
   show{1,_,rfl,?_};let:=(hH i V).1;simp[this,Jf,ue])]
  simp[ym]
 let A:∀k,k<K->('r' K%H).getD k []=H k:=λk Y=>by simp[bx,Y]
 let Xy:∀k,¬k<K->('r' K%H).getD k []=[]:=λk Y=>by simp[bx,Y]
 show{2,'r' K%H,M2,?_,(D,q2,λb o G e=>q3 b o (wu e) G e),(by simp[w.ls],λk=>?_,λk x J=>?_),λj g O x J=>?_}
 .simp[Fn.XM,W5,W4,rn,e2,c,Jf,PN]
 .by_cases Y:k<K
  .rw[A k Y];show(hH k Y).2.1
  .rw[Xy k Y];show .nil
 .by_cases Y:k<K
  .rw[A k Y]at J;show T.lt k Y x ((hH k Y).2.2 x<*J)
  .rw[Xy k Y]at J;cases J
 .let ga:=P.Z9 g (az O)
  let gb:=P.bT g (az O);rw[A _ ga]at J;rw[A _ gb];let:=T.cl _ ga x ((hH _ ga).2.2 x<*J) j (Bk.mpr (oN O rfl));rw[Em O]at this;let(js,ha,e,_):=w.act O;rw[e]at this;rw[Gf ha];show((hH _ gb).2.2 _).mpr this
def yH(Y:List (List Nat)):PN Y=PD (Y%cI):=by
 change D.WL (Y%ue)=.WL ((Y%cI)%tI);rw[q9]
 congr 1
 show qg λl _=>(iJ l).symm
def oz(q:List (List Int))(Y T:Option Int):∃Z,Wj (PD q) Y T M\(PD Z)/\(∀r∈Z,r∈q)/\-Z<=-q:=
 {1,(q.drop (clip (-q) 0 Y)).take (clip (-q) (-q) T-clip (-q) 0 Y),by simp[Wj,PD,cH,List.map_take,List.map_drop],λr h=>List.mem_of_mem_drop (Du h),by simp;lia}
def o9{q q':List (List Int)}(h:-q<=1000)(Y:-q'<=1000):G6 .XS (PD q) (PD q') M=.ok (PD (q++q')) M:=by change(if-(q%tI)+-(q'%tI)<=100000 then WR.ok (D.WL (q%tI++q'%tI)) M else .WY)=_;rw[dm (by simp;lia),<-jc];rfl
abbrev vI(l:X9):D:=.vl (l%D.int)
def yI{l l':X9}(e:M[n]?\(.WK (l%D.int)))(h:-l<=1000)(Y:-l'<=1000):G6 .XS ↥n (vI l') M=.ok (vI (l++l')) M:=by
 change(match gr M ↥n,gr M (vI l')with
  |some xs,↑ys=>if -xs+-ys<=100000 then WR.ok (D.vl (xs++ys)) M else .WY
  | _,_=>.WY)=_
 rw[ju e];change(if-(l%D.int)+-(l'%D.int)<=100000 then WR.ok (D.vl (l%D.int++l'%D.int)) M else .WY)=_;rw[dm (by simp;lia),<-jc]
def TK{l l':X9}(e:M[n]?\(.WK (l%D.int)))(h:-l<=1000)(Y:-l'<=1000):G6 .XS (vI l') ↥n M=.ok (vI (l'++l)) M:=by
 change(match gr M (vI l'),gr M ↥n with
  |some xs,↑ys=>if -xs+-ys<=100000 then WR.ok (D.vl (xs++ys)) M else .WY
  | _,_=>.WY)=_
 rw[ju e];change(if-(l'%D.int)+-(l%D.int)<=100000 then WR.ok (D.vl (l'%D.int++l%D.int)) M else .WY)=_;rw[dm (by simp;lia),<-jc]
abbrev Vd(d:D):Prop:=∃l:List Int,d=vI l/\-l<=30
abbrev EB(t:Nat)(pt w p:D)(b4 b5 b6 b7 b8:Option D):Env:=[sR t,↑pt,↑w,↑p,b4,b5,b6,b7,b8]
def TL{r':Nat}(C:2<=m)(P:Hz sz K Z jo)(w:Mj K Z s a)(o:bo s ps)(hh:W7 t f M):∃q U,prog.call m 43 [↥t,o7 K r' Z,du s a,PN ps] M=.ok (PD q) U/\St t f M U/\∀r∈q,-r<=30:=by
 rw[WQ (a_ ⋯ C) rfl];let h3:=P.k3;let h1:=P.k1;let lp:-ps=K:=o.len>>w.ls;let ow:∀M,Ax (o7 K r' Z) ⇑0 M\⇑K:=λ_=>rfl
 let(k,Y,e1,l1,F,n1):=Dj (m:=m-1) (many:=K) (M:=M) (r_ (a_ ⋯ C)) hh 'a' 'a';let S:k<K:=o_ l1
 let i1:=Xx (M:=Y) (ps:=ps) (k:=k) 'a';let l7:=o.l7 w k;let n2:qu .list [ue (ps.getD k [])] Y=.ok ↥(-Y) (Y++[.WK (cI (ps.getD k [])%D.int)]):=by rw[<-iJ];rfl
 let s2:=F>>(St.of F.has (xj.ZP Y [.WK (cI (ps.getD k [])%D.int)]));let g2:(Y++[.WK (cI (ps.getD k [])%D.int)])[Y.length]?\(.WK (cI (ps.getD k [])%D.int)):=Ft;let tM:t< -Y:=by let(n,h,_):=F.has;show wu h
 let L:-(cI (ps.getD k []))<=7:=by rw[dh];show l7
 generalize cI (ps.getD k [])=r at *;let(v,M3,e3,l3,s3,n3):=Dj (m:=m-1) (many:=9) (r_ (a_ ⋯ C)) s2.has ⋯ ⋯;let i4:=Mi (M:=M3) (l:=s) (i:=k) (by rw[w.ls];show S);let z7:=w.s7 k;generalize hz:s.getD k 0=z at *;let mx:qu .max [⇑1,⇑(z:Nat)] M3=.ok (nD (max 1 z)) M3:=max2 1 z;let(x,M4,e4,l4,s4,n4):=Dj (m:=m-1) (many:=(max 1 z:Nat)) (r_ (a_ ⋯ C)) s3.has 'a' 'a';let O:=s3>>s4;let B:=O.keep _ _ (i_ tM) g2;let i5:=Mi (M:=M4) (l:=s) (i:=k) (by rw[w.ls];show S);rw[hz]at i5;let a1:=yI (l':=[(x:Int)]) B (a_ L ⋯) 'b';let a2:=xp (M:=M4) (d:=vI (r++[(x:Int)])) (l:=r++[(x:Int)]) rfl (by simp;lia);let a3:qu .rev [↥(-Y)] M4=.ok (vI r.reverse) M4:=by change WR.wg ((gr M4 ↥(-Y))%λQ=>D.vl Q.reverse) M4=_;rw[ju B];simp
 let a4:=TK (l':=[-1-(x:Int)]) B (a_ L ⋯) 'b';let a5:=yI (l':=[(z:Int)+(x:Int)]) B (a_ L ⋯) 'b';let ls:-(YS (yz (r++[(x:Int)])))<=8:=by let:=(Il (yz (r++[(x:Int)]))).length_eq;let:=iT (r++[(x:Int)]);simp at this;lia
 obtain⟨d2,c2,v2⟩:∃d2,Jk.WD (PW (m-1)) (EB t (o7 K r' Z) (du s a) (PN ps) (sI k) (sR (-Y)) (sI v) (sI x) none) M4=.ok d2 M4/\Vd d2:=by
  show{1,vI (r.filter λy=>!decide (y=(x:Int))),?_,(_,rfl,a_ (p8 _ _) (a_ L ⋯))};unfold Jk;rw[Hc (d:=↥(-Y)) (ds:=r%D.int) (M1:=M4) (q:=λd=>match d with|⇑y=>!decide (y=(x:Int))|_=>false) rfl (ju B) (by simp;lia) (λd hd=>by
   let(y,_,rfl):=bu<*hd;show{1,_,rfl,'b','b'})]
  simp[List.filter_map];rfl
 let v1:Vd (.vl (YS (yz (r++[(x:Int)]))%D.int)):={1,_,rfl,'a'};let v3:Vd (vI (r++[(x:Int)])):={1,_,rfl,by simp;lia};let v4:Vd (vI r.reverse):=(_,rfl,by simp;lia);let v5:Vd (vI ([-1-(x:Int)]++r)):={1,_,rfl,by simp;lia};let v6:Vd (vI (r++[(z:Int)+(x:Int)])):={1,_,rfl,by simp;lia};generalize vI (r++[(x:Int)])=d3 at *;generalize(D.vl (YS (yz (r++[(x:Int)]))%D.int))=d1 at *;generalize vI r.reverse=d4 at *;generalize vI ([-1-(x:Int)]++r)=d5 at *;generalize vI (r++[(z:Int)+(x:Int)])=d6 at *;obtain⟨G,M5,c1,v7,N⟩:∃G M5,Ob.WD (PW (m-1)) (EB t (o7 K r' Z) (du s a) (PN ps) (sI k) (sR (-Y)) (sI v) (sI x) (some (.vl [d1,d2,d3,d4]))) M4=.ok G M5/\Vd G/\St t f M4 M5:=by
  let:=W6 (v:=true) (k:=1) (t:=.name 9) (it:=.i 3) (e:=.YG .sub (.k2 14 (.v 0) (.i 9)) (.i 1)) (W:=PW (m-1)) (ρ:=EB t (o7 K r' Z) (du s a) (PN ps) (sI k) (sR (-Y)) (sI v) (sI x) ↑(.vl [d1,d2,d3,d4])) (M:=M4) (M1:=M4) (n:=3) rfl ⋯ (λi Q U=>(∃l:List Int,Q=l%D.int/\-l=i)/\St t f M4 U) (([],rfl,rfl),St.of s4.has (xj.refl _)) (λi Q M5 hi hI=>by
   let((l,rfl,rfl),N):=hI;let(u,M6,e6,l6,s6,_):=Dj (m:=m-1) (many:=9) (r_ (a_ ⋯ C)) N.has ⋯ ⋯;show{3,_,⇑(u-1),M6,rfl,by simp[e6],{1,l++[(u:Int)-1],'b','b'},N>>s6})
  let(ys,U,e,(l,rfl,hl),h):=this;show{2,_,U,e,(l,rfl,'a'),h}
 let b:G6 .XS (.vl [⇑(-1-(x:Int))]) ↥(-Y) M4=.ok d5 M4:=a4;let g:G6 .XS ↥(-Y) (.vl [⇑((z:Int)+(x:Int))]) M4=.ok d6 M4:=a5;let qq:G6 .XS ↥(-Y) (.vl [⇑(x:Int)]) M4=.ok d3 M4:=a1;let av:G6 .XS (.vl [d1,d2,d3,d4]) (.vl [d5,d6,G]) M5=.ok (.vl [d1,d2,d3,d4,d5,d6,G]) M5:=Uk _ _ 'b';let J:=(s2>>O)>>N;let lq:-(ps%cI)<=1000:=by rw[dh];lia
 let T:∀r∈ps%cI,-r<=30:=λr hr=>by let(l,hl,rfl):=bu<*hr;let(k,S):=Be hl;let:=o.l7 w k;rw[Gf S]at this;rw[dh];lia
 obtain⟨R,hR⟩:∃R,R=nq.q (.f (.XX .eq (.v 6) (.i 7)) (.o (.ret (.cut (.v 3) .none (.some (.neg (.i 1))))))) (.f (.XX .eq (.v 6) (.i 8)) (.o (.ret (.YG .XS (.v 3) (.WL (.o (.WL .z))))))) (.ret (.YG .XS (.YG .XS (.cut (.v 3) .none (.some (.v 4))) (.WL (.o (.tp (.ix (.v 8) (.v 6)))))) (.cut (.v 3) (.some (.YG .XS (.v 4) (.i 1))) .none))):={1,_,rfl};let eb:Zk=.c (.a 4 (.k2 14 V0 (.ix V1 I0))) (.c (.a 5 (.YC .list (.o (.ix V3 V4)))) (.c (.a 6 (.k2 14 V0 (.i 9))) (.c (.a 7 (.k2 14 V0 (.YC .max (.p I1 (.xx V2 I0 V4))))) (.c (.a 8 (.Gk (.c (.YC .Ey (.o (.YG .XS V5 (.Gk (.o V7))))) (.q Jk (.YG .XS V5 (.Gk (.o V7))) (.YC .rev (.o V5)))))) (.c (.a 8 (.YG .XS V8 (.Gk (.q (.YG .XS (.Gk (.o (.YG .sub (.neg I1) V7))) V5) (.YG .XS V5 (.Gk (.o (.YG .XS (.xx V2 I0 V4) V7)))) Ob)))) R))))):=by rw[hR];rfl
 let go:∀q,R.WD (PW (m-1)) (EB t (o7 K r' Z) (du s a) (PN ps) (sI k) (sR (-Y)) (sI v) (sI x) ↑(.vl [d1,d2,d3,d4,d5,d6,G])) M5=.ok (.ret q,EB t (o7 K r' Z) (du s a) (PN ps) (sI k) (sR (-Y)) (sI v) (sI x) ↑(.vl [d1,d2,d3,d4,d5,d6,G])) M5->Tj.XM (PW (m-1)) [↥t,o7 K r' Z,du s a,PN ps] M=.ok q M5:=λq h=>by let X:qu .max [⇑1,⇑(z:Nat)] M3=.ok ⇑(max 1 z:Nat) M3:=mx;generalize max 1 z=mm at *;simp[-List.getD_eq_getElem?_getD,Fn.XM,Tj,eb,ow,e1,i1,n2,e3,Ke,i4,X,e4,qq,a2,c2,a3,b,i5,g,c1,av,h]
 rw[yH]at go⊢;let v9:v<9:='a'
 let(q1,b1,b2,b3):=oz (M:=M5) (ps%cI) () ↑(-1);let(E,b4,b5,b6):=oz (M:=M5) (ps%cI) () ↑(k:Int);let(q3,b7,b8,b9):=oz (M:=M5) (ps%cI) ↑((k:Int)+1) ();let V:G6 .XS (PD (ps%cI)) (.WL [.WL []]) M5=.ok (PD (ps%cI++[[]])) M5:=o9 (q':=[[]]) lq 'b';subst hR
 by_cases c7:v=7
 .refine{2,q1,M5,go (PD q1) ?_,J,λr h=>T r (b2 r h)}
  subst c7;simp[b1]
 .by_cases c8:v=8
  .refine{2,_,M5,go (PD (ps%cI++[[]])) ?_,J,λr h=>?_}
   .subst c8
    simp[V]
   .rcases dz.mp h with h|h
    .exact T r h
    .rw[ig<*h];show iw _
  .obtain⟨l,il,ll⟩:∃l:List Int,Ax (.vl [d1,d2,d3,d4,d5,d6,G]) (.int (v:Nat)) M5\(vI l)/\-l<=30:=by
    let:∃d,[d1,d2,d3,d4,d5,d6,G][v]?\d/\Vd d:=by
     rcases v with _|_|_|_|_|_|_|v
     .exact{1,_,rfl,v1}
     .exact{1,_,rfl,v2}
     .exact{1,_,rfl,v3}
     .exact{1,_,rfl,v4}
     .exact{1,_,rfl,v5}
     .exact{1,_,rfl,v6}
     .exact{1,_,rfl,v7}
     .lia
    let(d,e,l,rfl,h):=this;show{1,l,Et rfl q_ e,h}
   let j:¬(v:Int)=7:=λh=>c7 'a'
   let I:¬(v:Int)=8:=λh=>c8 'a'
   let H:G6 .XS (PD E) (.WL [tI l]) M5=.ok (PD (E++[l])) M5:=o9 (q':=[l]) (a_ b6 lq) 'b';let A:=o9 (M:=M5) (q:=E++[l]) (q':=q3) (by rw[m5];let:=dh (as:=ps) cI;simp;lia) (a_ b9 lq);let tv:qu .tuple [vI l] M5=.ok (tI l) M5:=rfl;show{2,_,M5,go (PD (E++[l]++q3)) ?_,J,λr h=>?_}
   .generalize vI l=d at *
    generalize tI l=d' at *;generalize(v:Int)=vv at *;simp[-List.append_assoc,j,I,b4,b7,il,tv,H,A]
   .rcases dz.mp h with h|h
    .rcases dz.mp h with h|h
     .exact T r (b5 r h)
     .rw[ig<*h];show ll
    .exact T r (b8 r h)
def yJ{M M':fc}(h:-M=-M')(e:∀i,i<k->M[i]?=M'[i]?):ZF k M=ZF k M':=by
 unfold ZF;rw[h]
 congr 1
 apply uf;intro i;rw[Cz,Cz];split
 .rename_i z;show e i z
 .rfl
def TM{M:fc}:-(ZF k M)=-M:=by simp[ZF];lia
def yK{M:fc}(h:i<k):(ZF k M)[i]?=M[i]?:=by
 unfold ZF;rcases qi i (-M) with y|y
 .rw[gf (by rw[Ca];show Nat.lt_min.mpr (h,y)),Cz,dm h]
 .rw[jk y,jk (by simp;lia)]
def TQ{X:fc}{n:Nat}{e:Ex}{r:nq}{d:D}(L:e.WD W ρ M=.ok ↥n M1)(O:M1[n]?\(.Ui ds))(h:∀Z:List D,-Z=-ds->(∀d∈Z,d∈ds)->∃qq U,r.WD W (ρ.set i ↑↥n) (M1.set n (.WK Z))=.ok (.ret d,qq) U/\ZF (-M) U=X):(Ea.all i e r).WD W ρ M=.ok (.ret d,ρ%λ_=>()) X:=by
 change(e.WD W ρ M)*>(λx M1=>fA (r.WD W) i x ρ (-M) M1)=_;rw[L,WR.Di];let(N,P,G,T):=h ds rfl λ_ h=>h
 erw[fA,O,G];rw[dm λZ J B=>by
  let(Y,U,E,C):=h Z J B;show{2,Y,U,E,C>>T.symm},T]
def TR{q:Nat->Bool}{g:Nat->D}(G:it.WD W U M=.ok (.Ys ds) M)(E:-ds<=100000)(h:∀(i:Nat) d,ds[i]?\d->∃Z,t.put d (U++'R' k ())\Z/\c.WD W Z M=.ok (.bl (q i)) M/\e.WD W Z M=.ok (g i) M) :
 (Ex.Eo true k t it c e).WD W U M=.ok (.vl (('r' (-ds)).filter q%g)) M:=by
 rw[Ni,G];let(S,Y,N,L,rfl):=Jp (fin:=(XN.Ys ds).fin) (item:=(XN.Ys ds).item) (body:=λd M=>WR.wg (t.put d (U++'R' k ())) M*>λT M=>c.WD W T M*>λb Y=>match b with
  |.bl true=>e.WD W T Y*>λx J=>.ok ↑x J
  |.bl false=>.ok () Y|_=>.WY) (λi C Y=>C=('r' i).filter q%g/\Y=M) (n:=-ds) (λi C Y B R=>by
  let(rfl,rfl):=R;let(Z,a,b,P):=h i ds[i] (by simp[B]);show{3,ds[i],if q i then ↑(g i)else (),Y,by simp[XN.item,B],?_,?_}
  .rw[a];cases z:q i<;>simp[b,P,z]
  .cases z:q i<;>simp[tu,List.filter_append,z]) (λ_ _ _=>rfl) (-ds) 0 [] M (xd _) (rfl,rfl)
 change(Bv (.Ys ds) _ Y)*>_=_;rw[Bv,show(XN.Ys ds).len=-ds from rfl,dm E];show(rm (λr:WR (List D)=>r*>λds O=>if true=true then .ok (.vl ds) O else new (.WK ds) O) N)>>?_;rw[<-L];rfl
def aY(R Y:Nat->List Nat)(s:Y2)(k:Nat):List Nat:=('r' (s.getD k 0)).filter λx=>decide ((R k).getD x 0=(Y k).getD x 0)
def Rp(R:Nat->List Nat)(s:Y2)(k:Nat):List Nat:=('r' (s.getD k 0)).filter λy=>decide (y∈R k)
def yL{R:Nat->List Nat}(h:k<K):Ax (Mr K R) ⇑k M\(ue (R k)):=Ik q_ (by simp[h])
def TU{u v:Y2}(G:1<=m)(e:-u=-v)(C:-u<=1000):prog.call m 40 [ue u,ue v] M=.ok (ue (('r' (-u)).filter λx=>decide (u.getD x 0=v.getD x 0))) M:=by
 rw[WQ G rfl];let J:(Qz.eu (.p (.v 0) (.v 1))).WD (PW (m-1)) [↑(ue u),↑(ue v)] M=.ok (.Ys (Fp (Fl [u%nD,v%nD] (-(v%nD))) 0)) M:=by
  change((Ha.p (.v 0) (.v 1)).WD (PW (m-1)) [↑(ue u),↑(ue v)] M)*>(λT B=>Yh T B*>iP)=_;let:(Ha.p (.v 0) (.v 1)).WD (PW (m-1)) [↑(ue u),↑(ue v)] M=.ok [ue u,ue v] M:='b'
  rw[this,WR.Di];change(Yh [.WL (u%nD),.WL (v%nD)] M*>iP)=_;rw[zip2 (by simp[e])];rfl
 let c:Oa.WD (PW (m-1)) [↑(ue u),↑(ue v)] M=.ok (.vl ((('r' (-u)).filter λx=>decide (u.getD x 0=v.getD x 0))%nD)) M:=by
  unfold Oa;rw[TR (ds:=Fp (Fl [u%nD,v%nD] (-(v%nD))) 0) (q:=λx=>decide (u.getD x 0=v.getD x 0)) (g:=nD) J (by simp[Fp,Fl];lia) (λi d Y=>by
   obtain⟨O,rfl⟩:i< -u/\.WL [.int i,.WL [nD (u.getD i 0),nD (v.getD i 0)]]=d:=by
    let:=(ak<*Y).1;simp[Fp,Fl]at this;let l:i< -u:='a'
    simp[Fp,Fl,this,l]at Y;show(l,by rw[<-Y];simp[nD,this,l])
   show{1,[↑(ue u),↑(ue v),↑(nD i),↑(.WL [nD (u.getD i 0),nD (v.getD i 0)])],rfl,?_,rfl};generalize u.getD i 0=x;generalize v.getD i 0=y;simp[nD,iW])]
  simp[Fp,Fl,e]
 simp[-List.getD_eq_getElem?_getD,Fn.XM,Zj,Zi,c,Jf];rfl
def TV{R Y:Nat->List Nat}(G:2<=m)(C:K<=3)(h:cy s Z R)(B:cy s Z Y)(s7:∀k,s.getD k 0<=7):prog.call m 39 [Mr K R,Mr K Y] M=.ok (Mr K (aY R Y s)) M:=by
 rw[WQ (a_ ⋯ G) rfl];let c:Lw.WD (PW (m-1)) [↑(Mr K R),↑(Mr K Y)] M=.ok (.vl ('r' K%λk=>ue (aY R Y s k))) M:=by
  unfold Lw;rw[Xv (ds:=Fl ['r' K%λk=>ue (R k),'r' K%λk=>ue (Y k)] (-('r' K%λk=>ue (Y k)))) (g:=λk=>ue (aY R Y s k)) (by simp[zip2]) (by simp[Fl];lia) (λk d J=>by
   let(T,rfl):=zip_get J;let T:k<K:='s' T
   let O:∀f:Nat->D,('r' K%f).getD k .XQ=f k:=λf=>by simp[bx,T]
   show{1,[↑(Mr K R),↑(Mr K Y),↑(ue (R k)),↑(ue (Y k))],by erw[gm,Ep,O];rfl,?_};let:=TU (m:=m-1) (M:=M) (u:=R k) (v:=Y k) (r_ G) (by rw[h.len,B.len]) (by rw[h.len];show a_ (s7 k) ⋯);rw[h.len]at this;simp[-List.getD_eq_getElem?_getD,this,aY])]
  simp[Fl]
 simp[Fn.XM,W3,W2,c,Jf]
def TX{R:Nat->List Nat}(G:1<=m)(J:K<=3)(h:cy s Z R)(s7:∀k,s.getD k 0<=7)(T:∀k,Z.getD k 0<=7):prog.call m 41 [Mr K R] M=.ok (Mr K (Rp R Z)) M:=by
 rw[WQ G rfl];let c:Yq.WD (PW (m-1)) [↑(Mr K R)] M=.ok (.vl ('r' K%λk=>ue (Rp R Z k))) M:=by
  unfold Yq;rw[Xv (ds:='r' K%λk=>ue (R k)) (g:=λk=>ue (Rp R Z k)) (by simp[YJ]) (by simp;lia) (λk d Y=>by
   obtain⟨B,rfl⟩:k<K/\ue (R k)=d:=by let:=(ak<*Y).1;simp at this;simp[this]at Y;show(this,Y)
   let:=(oV (M:=M) (d:=ue (R k)) (l:=R k) (b:=Z.getD k 0) (f:=λy=>decide (y∈R k)) rfl (.inl (T k)) (λz=>(λq=>(h.lt k z q,uw q),λq=>j8 q.2))).1;show{1,_,rfl,by simp[-List.getD_eq_getElem?_getD,this,Jf];rfl})]
  simp
 simp[Fn.XM,rJ,rH,c,Jf]
abbrev EH(t:Nat)(pt w1 w2:D)(b4:Option D)(d d':D)(u h:Nat)(b9:Option D):Env:=[sR t,↑pt,↑w1,↑w2,b4,↑d,↑d',sR u,sR h,b9]
def TY{r':Nat}(P:Hz sz K hs jo)(w1:Mj K hs s1 a1)(p:Mj K hs s2 a2)(o:cy s1 s2 R)(o':cy s1 s2 Z)(m:u≠h)(hu:M[u]?\(.WK []))(hh:M[h]?\(.WK [])) :
 ∃b9 U,G5.WD W (EH t (o7 K r' hs) (du s1 a1) (du s2 a2) b4 (Mr K R) (Mr K Z) u h ()) M=.ok (.next,EH t (o7 K r' hs) (du s1 a1) (du s2 a2) b4 (Mr K R) (Mr K Z) u h b9) U /\
  U[u]?\(.WK ('r' K%λk=>ue (aY R Z s1 k)))/\U[h]?\(.WK ('r' K%λk=>ue (Rp R s2 k)))/\(∀b,b≠u->b≠h->U[b]?=M[b]?)/\-U=-M:=by
 let h3:=P.k3;let ow:∀M,Ax (o7 K r' hs) ⇑0 M\⇑K:=λ_=>rfl
 let(C,U,e,(b9,rfl),O,F,H,V):=zf (S:=G5) (W:=W) (n:=K) (ρ:=EH t (o7 K r' hs) (du s1 a1) (du s2 a2) b4 (Mr K R) (Mr K Z) u h ()) (M:=M) (M1:=M) rfl (by simp[ow]) 'a'
  (λj C U=>(∃b9,C=EH t (o7 K r' hs) (du s1 a1) (du s2 a2) b4 (Mr K R) (Mr K Z) u h b9)/\U[u]?\(.WK ('r' j%λk=>ue (aY R Z s1 k)))/\U[h]?\(.WK ('r' j%λk=>ue (Rp R s2 k)))/\(∀b,b≠u->b≠h->U[b]?=M[b]?)/\-U=-M)
  ({1,_,rfl},hu,hh,λ_ _ _=>rfl,rfl) (λk ρ M1 L hI=>by
   let((b9,rfl),O,F,H,V):=hI;let i1:∀M,Ax (ue s1) ⇑k M\⇑(s1.getD k 0:Nat):=λM=>Mi (by rw[w1.ls];show L)
   let i2:∀M,Ax (ue s2) ⇑k M\⇑(s2.getD k 0:Nat):=λM=>Mi (by rw[p.ls];show L)
   let s7:=w1.s7 k;let t7:=p.s7 k;let l1:=o.len k;let l2:=o'.len k;let c2:∀M,G4.WD W (EH t (o7 K r' hs) (du s1 a1) (du s2 a2) b4 (Mr K R) (Mr K Z) u h (sI k)) M=.ok (.vl (aY R Z s1 k%nD)) M:=λM=>by
    unfold G4;let T:(Ex.xx (.v 2) (.i 0) (.v 9)).WD W (EH t (o7 K r' hs) (du s1 a1) (du s2 a2) b4 (Mr K R) (Mr K Z) u h (sI k)) M=.ok ⇑(s1.getD k 0:Nat) M:=by let:=i1 M;generalize s1.getD k 0=z at *;simp[Ke,this]
    rw[Ma (q:=λx=>decide ((R k).getD x 0=(Z k).getD x 0)) (g:=nD) T 'a' (λx hx=>by
     let c:=Mi (M:=M) (l:=R k) (i:=x) 'a';let a:=Mi (M:=M) (l:=Z k) (i:=x) 'a';show{1,_,rfl,?_,λ_=>rfl};generalize(R k).getD x 0=y at *;generalize(Z k).getD x 0=z at *;simp[yL L,c,a,iW])]
    rfl
   let c1:∀M,G3.WD W (EH t (o7 K r' hs) (du s1 a1) (du s2 a2) b4 (Mr K R) (Mr K Z) u h (sI k)) M=.ok (.vl (Rp R s2 k%nD)) M:=λM=>by
    unfold G3;let T:(Ex.xx (.v 3) (.i 0) (.v 9)).WD W (EH t (o7 K r' hs) (du s1 a1) (du s2 a2) b4 (Mr K R) (Mr K Z) u h (sI k)) M=.ok ⇑(s2.getD k 0:Nat) M:=by let:=i2 M;generalize s2.getD k 0=z at *;simp[Ke,this]
    rw[Ma (q:=λx=>decide (x∈R k)) (g:=nD) T 'a' (λx hx=>by
     let i3:Nu M ⇑(x:Nat) (ue (R k))\(decide (x∈R k)):=by
      rw[<-iJ,x8]
      congr 1
      rw[decide_eq_decide];show mem_cast>>(λ(z,h,e)=>by rw[D_ e];show h,λh=>(_,h,rfl))
     show{1,_,rfl,by simp[yL L,i3],λ_=>rfl})]
    rfl
   let J:=Gm (d:=ue (aY R Z s1 k)) O (by simp;lia);let Y:(M1.set u (.WK ('r' k%(λk=>ue (aY R Z s1 k))++[ue (aY R Z s1 k)])))[h]?\(.WK ('r' k%λk=>ue (Rp R s2 k))):=by rw[jw m];show F
   let G:=Gm (d:=ue (Rp R s2 k)) Y (by simp;lia);let t1:qu .tuple [.vl (aY R Z s1 k%nD)] M1=.ok (ue (aY R Z s1 k)) M1:=Jf _ _;let t2:∀M,qu .tuple [.vl (Rp R s2 k%nD)] M=.ok (ue (Rp R s2 k)) M:=λM=>Jf _ _
   let N:=Gg Y;let f:=m6 (o:=.WK ('r' k%(λk=>ue (aY R Z s1 k))++[ue (aY R Z s1 k)])) O;obtain⟨A,Q⟩:∃A,M1.set u (.WK ('r' k%(λk=>ue (aY R Z s1 k))++[ue (aY R Z s1 k)]))=A:={1,_,rfl};let lA:-A=-M1:=by rw[<-Q,uh]
   let kA:∀b,b≠u->A[b]?=M1[b]?:=λb n=>by rw[<-Q,jw (j4 n)]
   rw[Q]at J Y G f N;obtain⟨B,E⟩:∃B,A.set h (.WK ('r' k%(λk=>ue (Rp R s2 k))++[ue (Rp R s2 k)]))=B:={1,_,rfl};let X:=m6 (o:=.WK ('r' k%(λk=>ue (Rp R s2 k))++[ue (Rp R s2 k)])) Y;let lB:-B=-A:=by rw[<-E,uh]
   let r:∀b,b≠h->B[b]?=A[b]?:=λb n=>by rw[<-E,jw (j4 n)]
   rw[E]at G X;show(_,.next,EH t (o7 K r' hs) (du s1 a1) (du s2 a2) b4 (Mr K R) (Mr K Z) u h (sI k),B,rfl,?_,.inl rfl,{1,_,rfl},?_,?_,λb s I=>?_,lB>>(lA>>V))
   .generalize(D.vl (aY R Z s1 k%nD))=c at *
    generalize(D.vl (Rp R s2 k%nD))=a at *;simp[-List.getElem?_set,-List.map_append,Kc,Gg O,c2,t1,J,N,c1,t2,G]
   .rw[r u m,f,tu,jc];rfl
   .rw[X,tu,jc];rfl
   .rw[r b I,kA b s];show H b s I)
 show{2,b9,U,e,O,F,H,V}
def yM(J:2<=m)(o:dG n f)(Q:0<L)(S:L<6000000):∃(v:Nat)(T:Int),dG T f/\∀(M:fc)(Y:List D)(q:Nat),M[t]?\(.WK [⇑n,.bl f])->M[q]?\(.WK Y)->-Y=L->q≠t->∃d,Y[v]?\d/\prog.call m 33 [↥t,↥q] M=.ok d (M.set t (.WK [⇑T,.bl f])):=by
 let(v,T,l,C,e):=rS (t:=t) (m:=m-1) (many:=(L:Nat)) (r_ J) o 'a' 'a';show{2,v,T,C,λM Y q P B E O=>?_};let(d,G):=Ue (show v< -Y by lia);show{1,d,G,?_};rw[WQ (a_ ⋯ J) rfl];let N:qu .len [↥q] M=.ok ⇑L M:=by rw[Y_ (ju B),E]
 let z:¬L=0:='a'
 let R:Ax ↥q ⇑v (M.set t (.WK [⇑T,.bl f]))\d:=Et (ju (by rw[jw (j4 O)];show B)) q_ G;simp[Fn.XM,Te,Td,N,z,e M P,R]
def yN{R:Nat->List Nat}(T:K<=3)(h:∀k,-R k<=100000):cT (n+3) (Mr K R):=.WL (by simp;lia) λd Y=>by let(k,_,rfl):=bu<*Y;show oj (h k)
abbrev E0(t:Nat)(pt w1 w2:D)(b4 b5 b6 b7 b8 b9:Option D):Env:=[sR t,↑pt,↑w1,↑w2,b4,b5,b6,b7,b8,b9]
def TZ{r':Nat}{Y:fc}{G:List D}(C:5<=m)(P:Hz sz K U jo)(j:Mj K U s1 a1)(s:Mj K U s2 a2)(on:dG n f)(tk:t<k)(kq:k<=q)(J:Y[t]?\(.WK [⇑n,.bl f]))(H:Y[q]?\(.Ui G))(hD:∀d∈G,∃R,cy s1 s2 R/\d=Mr K R)(hl:-G<6000000) :
 ∃(X:fc)(I:Int),dG I f/\X[t]?\(.WK [⇑I,.bl f])/\-Y<=-X/\(∀b,b<k->b≠t->X[b]?=Y[b]?)/\∀Z:List D,-Z=-G->(∀d∈Z,d∈G)->∃qq M3,Eb.WD (PW (m-1)) (E0 t (o7 K r' U) (du s1 a1) (du s2 a2) (sR q) () () () () ()) (Y.set q (.WK Z))=.ok (.ret (.bl true),qq) M3/\ZF k M3=ZF k X:=by
 let V:q≠t:='a'
 let F:=P.k3
 by_cases z:-G=0
 .obtain rfl:=uq<*z
  show{2,Y,n,on,J,bz _,λ_ _ _=>rfl,λZ g _=>?_};obtain rfl:=uq<*g;let ln:qu .len [↥q] (Y.set q (.WK []))=.ok ⇑0 (Y.set q (.WK [])):=Y_ (ju (m6 H));let c:prog.call (m-1) 33 [↥t,↥q] (Y.set q (.WK []))=.ok .XQ (Y.set q (.WK [])):=by rw[WQ (r_ (a_ ⋯ C)) rfl];simp[Fn.XM,Te,Td,ln]
  let is:Mp .is .XQ .XQ (Y.set q (.WK []))\true:=rfl;show{2,E0 t (o7 K r' U) (du s1 a1) (du s2 a2) (sR q) ↑.XQ ↑.XQ () () (),Y.set q (.WK []),by simp[Eb,c,is],yJ (uh ..) λi hi=>jw 'a'}
 .let(v1,O,o1,f1):=yM (m:=m-1) (t:=t) (L:=-G) (r_ (a_ ⋯ C)) on 'a' hl
  let(v2,T,o2,f2):=yM (m:=m-1) (t:=t) (L:=-G) (r_ (a_ ⋯ C)) o1 'a' hl;let tl:t< -Y:=wu J
  show{2,Y.set t (.WK [⇑T,.bl f])++[.gone,.gone],T,o2,Af (m6 J),'b',λb hb n=>?_,λZ g N=>?_}
  .let:b< -Y:=by let:=wu H;lia
   rw[gf ('s' this),jw (j4 n)]
  let(d1,x1,c1):=f1 (Y.set q (.WK Z)) Z q (by rw[jw V];show J) (m6 H) g V;generalize hA:Y.set q (.WK Z)=A at c1⊢;let At:A[t]?\(.WK [⇑n,.bl f]):=by rw[<-hA,jw V];show J
  let Aq:A[q]?\(.WK Z):=by rw[<-hA];show m6 H
  let(d2,x2,c2):=f2 (A.set t (.WK [⇑O,.bl f])) Z q (m6 At) (by rw[jw (j4 V)];show Aq) g V;let Bt:((A.set t (.WK [⇑O,.bl f])).set t (.WK [⇑T,.bl f]))[t]?\(.WK [⇑T,.bl f]):=m6 (m6 At);let Bo:∀b,b≠t->b≠q->((A.set t (.WK [⇑O,.bl f])).set t (.WK [⇑T,.bl f]))[b]?=Y[b]?:=λb n I=>by rw[jw (j4 n),jw (j4 n),<-hA,jw (j4 I)]
  let lB:-((A.set t (.WK [⇑O,.bl f])).set t (.WK [⇑T,.bl f]))=-Y:=by rw[uh,uh,<-hA,uh]
  generalize(A.set t (.WK [⇑O,.bl f])).set t (.WK [⇑T,.bl f])=B at *;generalize A.set t (.WK [⇑O,.bl f])=A1 at *;let(R,o,rfl):=hD d1 (N _ (az x1));let(Q,E,rfl):=hD d2 (N _ (az x2));let(b9,M',e,q1,q2,q3,q4):=TY (W:=PW (m-1)) (r':=r') (t:=t) (b4:=sR q) (M:=B++[.WK []]++[.WK []]) (u:=-B) (h:=-(B++[MO.WK []])) P j s o E 'b' (Af Ft) Ft;let p1:=TV (m:=m-1) (M:=M') (r_ (a_ ⋯ C)) F o E j.s7;let p2:=TX (m:=m-1) (M:=M') (r_ (a_ ⋯ C)) F o j.s7 s.s7;let t1:qu .tuple [↥(-B)] M'=.ok (Mr K (aY R Q s1)) M':=by simp[qu,Jo (ju q1)]
  let t2:qu .tuple [↥(-(B++[MO.WK []]))] M'=.ok (Mr K (Rp R s2)) M':=by change WR.wg ((Cm M' ↥_)%D.WL) M'=_;rw[Jo (ju q2)];rfl
  let ll:∀(l:Y2)(p:Nat->Bool) n,n<=7->-(('r' n).filter p)<=100000:=λl p n h=>a_ (p8 _ _) (by rw[Ag];lia)
  let sm:=oi (m:=m-1) (M:=M') (n:=4) (d:=.vl [Mr K (aY R Q s1),Mr K (Rp R s2)]) (.vl 'b' λd a=>by
   erw[dj,u9,Dp]at a;rcases a with rfl|rfl
   .exact yN (n:=0) F λk=>ll [] _ _ (j.s7 k)
   .exact yN (n:=0) F λk=>ll [] _ _ (s.s7 k)) (r_ (a_ ⋯ C))
  let is:∀M,Mp .is (Mr K R) .XQ M\false:=λ_=>rfl
  let S:ZF k M'=ZF k (Y.set t (.WK [⇑T,.bl f])++[.gone,.gone]):=yJ (by rw[q4];simp[lB]) λi hi=>by
   let iB:i< -B:=by let:=wu H;lia
   rw[q3 i 'a' (by simp;lia),yj,gf iB,gf (by rw[uh];lia)]
   by_cases c:i=t
   .subst c;rw[Bt,m6 J]
   .rw[Bo i c 'a',jw (j4 c)]
  show{2,EH t (o7 K r' U) (du s1 a1) (du s2 a2) (sR q) (Mr K R) (Mr K Q) (-B) (-(B++[MO.WK []])) b9,M',?_,S};clear q1 q2 q3 q4 S;generalize Mr K (aY R Q s1)=x at *;generalize Mr K (Rp R s2)=y at *;generalize Mr K R=v at *;generalize Mr K Q=v' at *;generalize hh:-(B++[MO.WK []])=h at *;let nw:MW.new (.WK []) (B++[.WK []])=.ok ↥h (B++[.WK []]++[.WK []]):=by rw[<-hh];rfl
  let r:MW.new (.WK []) B=.ok ↥(-B) (B++[.WK []]):=rfl;simp[-List.append_assoc,Eb,c1,c2,is,r,nw,e,p1,p2,t1,t2,sm]
def Vn{r':Nat}(T:5<=m)(P:Hz sz K Z U)(E:Mj K Z s1 a1)(O:Mj K Z s2 a2)(G:∃G,Gn K Z s1 a1 G)(u:W7 t f M):∃M',prog.call m 36 [↥t,o7 K r' Z,du s1 a1,du s2 a2] M=.ok (.bl true) M'/\St t f M M':=by
 rw[WQ (a_ ⋯ T) rfl];let(q,L,J,R,N,y,Y,S,V):=SW (m:=m-1) (r:=r') (M:=M) (r_ T) P E O G;let(n,C,A):=u;let B:=wu C;let(X,F,Q,H,I,z,h):=TZ (m:=m) (r':=r') (t:=t) (k:=-M) T P E O A B y (Y _ _ C) N S V;let a:=TQ (W:=PW (m-1)) (i:=4) (e:=.k3 31 (.v 1) (.v 2) (.v 3)) (r:=Eb) (ρ:=E0 t (o7 K r' Z) (du s1 a1) (du s2 a2) () () () () () ()) (M:=M) (M1:=J) (n:=q) (ds:=L) (d:=.bl true) (X:=ZF (-M) X) (by simp[R]) N h;show{1,ZF (-M) X,?_,(by rw[TM];show a_ Y.len I,{1,F,by rw[yK B];show H,Q},λb o D e=>?_)}
 .simp[Fn.XM,Nh,Ng,a]
 .rw[yK (wu e),z b (wu e) D];show Y _ _ e
def yO(M:fc)(a:MO):(M++[a])[M.length]?\a:='b'
def T_(ps:List (List Nat)):toN (ps%cI)=ps:=by
 rw[toN,q9]
 conv=>rhs;rw[<-List.map_id ps]
 show qg λl _=>?_
 change(l%λ(x:Nat)=>(x:Int))%Int.toNat=l;rw[q9]
 conv=>rhs;rw[<-List.map_id l]
 show qg λx _=>vg x
def Ta(o:bo s ps)(st:dX Z a ps):oq Z s a (ps%cI):=by
 show((by rw[dh];show o.len,λk G=>?_),by rw[T_];show st);let e:(ps%cI).getD k []=cI (ps.getD k []):=by erw[bx,ie];cases ps[k]?<;>rfl
 change dA ((ps%cI).getD k [])/\_;rw[e];show(vh.mpr ((o.up k).imp λh=>m_ h),λx T=>by
  let(y,Y,rfl):=bu<*T;show(q_,m_ (o.lt k y Y)))
def ZS.st{Y:Nat}(T:ZS n Y K Z U M)(s:St t f M M')(J:n≠t)(G:Y≠t):ZS n Y K Z U M':=(s.keep _ _ J T.1,s.keep _ _ G T.2)
abbrev EL(sc:D)(t:Nat)(pt:D)(n:Nat)(ws:D)(b5 b6 b7 b8:Option D):Env:=[↑sc,sR t,↑pt,sR n,↑ws,b5,b6,b7,b8]
def To{r' W:Nat}(T:6<=m)(P:Hz sz K Z jo)(C:ZS n W K Z jo M)(w:Mj K Z s a)(hh:W7 t f M)(L:n≠t)(N:W≠t) :
 ∃b7 b8 M',lK.WD (PW m) (EL sc t (o7 K r' Z) n ws b5 ↑(du s a) c7 c8) M=.ok (.next,EL sc t (o7 K r' Z) n ws b5 ↑(du s a) b7 b8) M'/\St t f M M':=by
 let(Y,M1,e1,U,o,st):=TJ (m:=m) (r':=r') (a_ ⋯ T) P w hh;let(q,M2,e2,s2,I):=TL (m:=m) (r':=r') (a_ ⋯ T) P w o U.has;let G:=U>>s2;let lp:-Y=K:=o.len>>w.ls;let h3:=P.k3;let(b,X,A,V,k3):=yD (m:=m) (M:=M2) (q:=Y%cI) (a_ ⋯ T) P (C.st G L N) w (λr hr=>by
  let(l,B,rfl):=bu<*hr;let(k,S):=Be B;let:=o.l7 w k;rw[Gf S]at this;rw[dh];lia)
 obtain rfl:b=true:=V.mpr (Ta o st);rw[<-yH]at A;let H:=G>>(St.of G.has k3);let(b,O,e4,h4,k4):=yD (m:=m) (M:=X) (q:=q) (a_ ⋯ T) P (C.st H L N) w I;let R:=H>>(St.of H.has k4);let(b',e5,h5):=So (m:=m) (M:=O) (q:=q) (r':=r') (a_ ⋯ T) P w I;obtain rfl:b=b':=by rw[Ay,h4,h5]
 let Q:=oi (m:=m) (M:=O) (d:=.bl b) (n:=1) .bl (a_ ⋯ T);let(M5,e6,k5):=TB (m:=m) (M:=O) (a_ ⋯ T) P (C.st R L N) w o st;let F:=R>>(St.of R.has k5);let(D,e7,k6):=TC (m:=m) (M:=M5) (r':=r') (a_ ⋯ T) P w o st;let s6:=F>>(St.of F.has k6);let E:=oi (m:=m) (M:=D) (n:=5) (d:=.WL [du (el Y) (bB Z a Y (-Z)),PN Y]) (.WL 'b' λd J=>by
  erw[dj,u9,Dp]at J;rcases J with rfl|rfl
  .refine .WL 'b' λd J=>?_
   erw[dj,u9,Dp]at J;rcases J with rfl|rfl
   .exact oj (n:=1) (l:=el Y) (by simp[el];lia)
   .refine xl (n:=0) (q:=bB Z a Y (-Z)) (by rw[ox];let:=P.len;lia) λl B=>?_
    let(j,_,rfl):=bu<*B;unfold kZ;split
    .rw[dh];show a_ (o.l7 w _) ⋯
    .exact iw _
  .refine xl (n:=1) (q:=Y) 'a' λl B=>?_
   let(k,S):=Be B;let:=o.l7 w k;rw[Gf S]at this;show a_ this ⋯) (a_ ⋯ T)
 let is:Mp .Wi (.bl true) (.bl true) X\false:=rfl;show{3,↑(PN Y),↑(PD q),D,?_,s6};generalize PN Y=p at *;generalize PD q=pq at *;simp[lK,e1,e2,A,is,e4,e5,Q,e6,e7,E]
def Ts{m:Nat}{ns:X9}{M:fc}(E:7<=m):∃M',prog.call m 37 [.fz (ns%D.int)] M=.ok (.bl true) M':=by
 rw[WQ (a_ ⋯ E) rfl];let(n0,f0,f,o0):=CN (m:=m-1) (k:=0) (ns:=ns) (M:=M) (r_ (a_ ⋯ E));let f:prog.call (m-1) 13 [.fz (ns%D.int),⇑0] M=_:=f;let b:W7 (-M) f0 (M++[.WK [⇑n0,.bl f0]]):={1,n0,'b',o0};let(K,r,sz,L,C,M1,Z,U,lr,P,t0):=C7 (m:=m-1) (r_ (a_ ⋯ E)) b;let Z:prog.call (m-1) 17 [↥(-M)] (M++[.WK [⇑n0,.bl f0]])=.ok (o7 K r L) M1:=Z;let H:r≠-M:=by let:=lr;simp at this;lia
 let di:qu .dict [↥r] M1=.ok ↥(-M1) (M1++[.dT C]):=by change iN M1 ↥r=_;simp[iN,U,P.sm,MW.new]
 let nn:(M1++[.dT C]++[.YW 2 []])[(M1++[MO.dT C]).length]?\(.YW 2 []):=yO _ _;let(M2,a0,X,md,la,lb,k0):=DE (M:=M1++[.dT C]++[.YW 2 []]) (m:=m-1) (r:=-M1) (n:=-(M1++[MO.dT C])) (r_ (a_ ⋯ E)) P (Af (yO _ _)) nn;let V:xj M1 M2:=λa o h=>k0 a o (by let:=wu h;simp;lia) (Af (Af h))
 let qq:-M< -M1:=by let(k,h,o):=t0.has;show wu h
 let mk:(Ex._Q 2 (.q (.ix (.v 2) (.i 0)) (.ix (.v 2) (.i 1)) (.YC .dict (.o (.ix (.v 2) (.i 2)))))).WD (PW (m-1)) [↑(.fz (ns%D.int)),sR (-M),sP K r L,(),(),(),(),(),()] M1=.ok ↥(-(M1++[MO.dT C])) M2:=by let cl:(prog.cls)[2]?\(0,[(0,2)]):=rfl;generalize hq:-(M1++[MO.dT C])=q at X;erw[yj]at X;simp[Z4,Rh,wb,di,cl,<-hq]at X⊢;simp[X]
 let I:-(M1++[MO.dT C])≠-M:=by simp;lia
 generalize-(M1++[MO.dT C])=n at mk md I;let g:W7 (-M) f0 M2:=by let(k,h,o):=t0.has;show{1,k,V _ _ h,o}
 let R:a0≠-M:=by let:=la;simp at this;lia
 let m1:2<=m-1:=r_ (a_ ⋯ E)
 let(J,B,M3,e3,w1,G1,s3):=xV (m:=m-1) (r:=r) m1 P g (V _ _ U) H;let(G,T,A,e4,t,G2,s4):=xV (m:=m-1) (r:=r) m1 P s3.has (s3.keep _ _ H (V _ _ U)) H;let y:=s3>>s4;let c:=md.st y I R;let(qk,M5,e5,(z,N,O,Y,rfl),u):=zf (S:=rC) (W:=PW (m-1)) (n:=4) (ρ:=EL (.fz (ns%D.int)) (-M) (o7 K r L) n (.vl [du J B,du G T]) () () () ()) (M:=A) (M1:=A) rfl rfl ⋯
  (λ_ Q M'=>(∃z N O Y,Q=EL (.fz (ns%D.int)) (-M) (o7 K r L) n (.vl [du J B,du G T]) z N O Y)/\St (-M) f0 A M') ({4,_,_,_,_,rfl},St.of s4.has (xj.refl _)) (λi Q M5 hi hI=>by
   let((z,N,O,Y,rfl),u):=hI;let(qv,l,p,(N,O,Y,rfl),F):=Fv (S:=qt) (W:=PW (m-1)) (ρ:=EL (.fz (ns%D.int)) (-M) (o7 K r L) n (.vl [du J B,du G T]) (sI i) N O Y) (M:=M5) (M1:=M5) rfl (d:=.vl [du J B,du G T]) 'b' rfl
    (λ_ Q M'=>(∃N O Y,Q=EL (.fz (ns%D.int)) (-M) (o7 K r L) n (.vl [du J B,du G T]) (sI i) N O Y)/\St (-M) f0 A M') ({3,_,_,_,rfl},u) (λ_ _ _ _=>rfl) (λj x Q l hx hI=>by
     let((N,O,Y,rfl),F):=hI;let mem:=az hx;obtain⟨s,a,w,rfl⟩:∃s a,Mj K L s a/\x=du s a:=by
      erw[dj,u9,Dp]at mem;rcases mem with rfl|rfl
      .exact(_,_,w1,rfl)
      .exact(_,_,t,rfl)
     let(c7,c8,M7,e,s7):=To (m:=m-1) (r':=r) (sc:=.fz (ns%D.int)) (ws:=.vl [du J B,du G T]) (b5:=sI i) (c7:=O) (c8:=Y) (r_ E) P (c.st F I R) w F.has I R;show(_,.next,_,M7,rfl,e,.inl rfl,{3,_,_,_,rfl},F>>s7))
   show{4,_,.next,EL (.fz (ns%D.int)) (-M) (o7 K r L) n (.vl [du J B,du G T]) (sI i) N O Y,l,rfl,by simp[rA,p],.inl rfl,{4,_,_,_,_,rfl},F})
 let(l,p,F):=Vn (m:=m-1) (r':=r) (r_ (a_ ⋯ E)) P w1 t G1 u.has;let(M7,e,s7):=Vn (m:=m-1) (r':=r) (r_ (a_ ⋯ E)) P t w1 G2 F.has;let x0:∀M,Ax (.vl [du J B,du G T]) ⇑0 M\(du J B):=λ_=>rfl
 let x1:∀M,Ax (.vl [du J B,du G T]) ⇑1 M\(du G T):=λ_=>rfl
 show{1,M7,by simp[-qP,Fn.XM,lL,rE,f,Z,mk,e3,e4,e5,x0,x1,p,e]}
open PySem L2
open PySem.W
def mid{Y:Type}{l r t:List Y}{x y z:Y}(T:-l=15)(G:-r=15)(h:(l++x::(r++y::t))[31]?\z):z=y:=by rw[jf (by rw[T];decide),T]at h;replace h:(r++y::t)[15]?\z:=h;rw[jf (by rw[G];decide),G]at h;cases h;rfl
set_option maxHeartbeats 0 in
def all_mk{l:OpenLaw}{K:Frag}{fs gs hs:X0}{cs ds es:List FuncData}{C G Y:Addr}{L T:FuncData}(B:mg "law"\↥U)
 (I:Ck.Vz K mg YF (G::Y::Y::Y::Y::Y::(fs++Y::(gs++U::hs))) YF.cls [(),(),↑C] prog.cls) (D:Ck.cD mg YF._C (G::Y::Y::Y::Y::Y::(fs++Y::(gs++U::hs)))) (R:Ck.dS K Ds sts (G::Y::Y::Y::Y::Y::(fs++Y::(gs++U::hs))) (L::T::T::T::T::T::(cs++T::(ds++fnOf "law" "law" (Kq (top 48)) (Hs (top 48)) (Dr (top 48)) .none kW dc pm an cd ct::es)))) (W:Ck.iC mg YF.jY) (J:Ck.AllB mg Ck.Ub) (N:-fs=15) (M:-gs=15) (V:-cs=15) (A:-ds=15) :
 ∃fd:FuncData,(∀(s:Shared)(v:Value),BindsTo s fd ([v],[]) [("script",v)])/\∀Z:Heap,K.In Z->Z.Ns mainGlobals mg->J8 l.prog w K mg Z ai 170 U fd ["script"] (Ck.kN K):=by
 show{1,fnOf "law" "law" (Kq (top 48)) (Hs (top 48)) (Dr (top 48)) .none kW dc pm an cd ct,λs v=>.of_eq rfl,λZ _ _=>?_};let(d,a,f,X,S,O,g4,g5):=Ck.QH (P:=l.prog) (w:=w) (base:=Z) (n:=10) (i:=37) (F:=lL) QL QK QM QN QO R D I W J rfl;cases X;cases mid N M S;cases mid V A O;show g5.imp λvs H Q E hh=>Ck.QJ (λns hl=>Ts ⋯) hh
end aL
open PySem PySem.W PyProof.Rows
namespace PySem.W.Fast
def tw7179459984176546322:=Nat
def tw9070004084235962364:=Nat
def tw5618100012556304535:=Nat
def tw18401468047254040415:=Nat
def tw14191602093881618623:=Nat
def tw15705035270367562205:=Nat
def tw17452732934185714237:=Nat
def tw7716446181163084976:=Nat
def tw7770878357702930592:=Nat
def tw102941609395092818:=Nat
def tw17833178024559350681:=Nat
def tw5739037556327239431:=Nat
def tw2204489892466685296:=Nat
def tw16261062772248812222:=Nat
def tw995851937772540549:=Nat
def tw11241266343351336677:=Nat
def tw16167428629216443943:=Nat
def tw4637508688995635228:=Nat
def tw764987594165209499:=Nat
def tw14934689103896363076:=Nat
def tw717504621387834065:=Nat
def tw10355463004500617187:=Nat
def tw1064095925028180427:=Nat
def tw17745557892864566497:=Nat
def tw16525296931011520583:=Nat
def tw18351655733924563452:=Nat
def tw17070014146986536694:=Nat
def tw3537673432962546:=Nat
def tw4771195307198865828:=Nat
def tw12108527559967190662:=Nat
def tw643407995766946966:=Nat
def tw16587391431294303291:=Nat
def tw12820708161189042977:=Nat
def tw8357456596315831301:=Nat
def tw12525420174585780785:=Nat
def tw10182261818802817642:=Nat
def tw15162724056253279024:=Nat
def tw12949921456354710819:=Nat
def tw1915714070274991954:=Nat
def tw14635526805555273367:=Nat
def tw17176673097966352029:=Nat
def tw8261824790864322706:=Nat
def tw15229532458705808035:=Nat
def tw12390708722727994069:=Nat
def tw4819401493462130745:=Nat
def tw10157472940635261358:=Nat
def tw15334658372821634115:=Nat
def tw9799047302266610087:=Nat
def tw5952794695443092459:=Nat
def tw221548102257083958:=Nat
def tw137623618866664405:=Nat
def tw4164449265740496537:=Nat
def tw5933657629685775708:=Nat
def tw11215060975356352475:=Nat
def tw11272316488361513739:=Nat
def tw10634901580928283985:=Nat
def tw7096279038252613051:=Nat
def tw8933569594180656468:=Nat
def tw12600381776745401765:=Nat
def tw9429516105008849830:=Nat
def tw2249618740579371970:=Nat
def tw6614200705865826495:=Nat
def tw5274519297555294887:=Nat
def tw2734680516474539451:=Nat
def tw15181471344216905811:=Nat
def tw5139032413229635153:=Nat
def tw14118170591693001286:=Nat
def tw11968213919109461722:=Nat
def tw1355460267056327140:=Nat
def tw17338459460269953724:=Nat
def tw82278044110224552:=Nat
def tw14297214753495752851:=Nat
def tw7529218466374280233:=Nat
def tw16438836939729422214:=Nat
def tw6577171451984820100:=Nat
def tw6123076133546700188:=Nat
def tw410394212124406385:=Nat
def tw17429963610420730678:=Nat
def tw6850554254430270983:=Nat
def tw3275809567252966434:=Nat
def tw393066721344832006:=Nat
def tw9784110363716150399:=Nat
def tw12912042837746590666:=Nat
def tw7055068334217733895:=Nat
def tw5503867086521615422:=Nat
def tw15423191471287438542:=Nat
def tw16358301874132361340:=Nat
def tw6265456869132757308:=Nat
def tw17621587772553581269:=Nat
def tw10833697517360273506:=Nat
def tw13690415531372442682:=Nat
def tw17649725409500036878:=Nat
def tw1015501586520889036:=Nat
def tw15611232964723286357:=Nat
def tw2393120654381113469:=Nat
def tw4829645671797352065:=Nat
def tw3128798445147868885:=Nat
def tw18182466242483050287:=Nat
def tw16486570786881655335:=Nat
def tw9238909013925266294:=Nat
def tw9438998723904755391:=Nat
def tw10120379339775909539:=Nat
def tw18402557598265750782:=Nat
def tw4731560944290450619:=Nat
def tw2122739118627862332:=Nat
def tw2848124126666674250:=Nat
def tw6902167257203018567:=Nat
def tw18110949403010495175:=Nat
def tw12302851793486080251:=Nat
def tw7541346817185959042:=Nat
def tw11224666835622941943:=Nat
def tw16846604608737903691:=Nat
def tw13612767537352622737:=Nat
def tw2341791828392228436:=Nat
def tw4314203666766925425:=Nat
def tw16852451496514704820:=Nat
def tw2462570505053455586:=Nat
def tw7164287232907586412:=Nat
def tw17561372704424394342:=Nat
def tw11785765656713895936:=Nat
def tw17412548543363144518:=Nat
def tw13574679383646590271:=Nat
def tw14477673649487611279:=Nat
def tw1272662547384687190:=Nat
def tw15088938593280994350:=Nat
def tw13943502819867438605:=Nat
def tw2466408497282065115:=Nat
def tw16603175769571461191:=Nat
def tw1263157938738081505:=Nat
def tw13648875175022582164:=Nat
def tw9571297965162832944:=Nat
def tw6668496101443497595:=Nat
def tw5391471374583840972:=Nat
def tw9665235552794157807:=Nat
def tw6574501677696262017:=Nat
def tw5399665115009260162:=Nat
def tw2512346743842257590:=Nat
def tw14865981309241613709:=Nat
def tw14597654057227626822:=Nat
def tw13951158374649372038:=Nat
def tw10760669165450442492:=Nat
def tw11502245576549243211:=Nat
def tw7680606415530729671:=Nat
def tw10299618493345033774:=Nat
def tw5206796484897948159:=Nat
def tw1659371791490035450:=Nat
def tw7242317737809274452:=Nat
def tw17644223032389551617:=Nat
def tw11965493187081604317:=Nat
def tw1827493033210638557:=Nat
def tw11546563962305206280:=Nat
def tw14102775596332715180:=Nat
def tw14906998518452090505:=Nat
def tw1083653889734042085:=Nat
def tw4228081600461869492:=Nat
def tw12383823188590851660:=Nat
def tw521612189756677897:=Nat
def tw5107802079928886231:=Nat
def tw12694111291403454930:=Nat
def tw11274062394611422717:=Nat
def tw13784341499212016911:=Nat
def tw13132622171534593909:=Nat
def tw11171417702560802681:=Nat
def tw3952202349306148658:=Nat
def tw10227981609632756391:=Nat
def tw3170274299028062346:=Nat
def tw17388640098686393062:=Nat
def tw10267328097449189957:=Nat
def tw16855924607243379767:=Nat
def tw14146219633764414689:=Nat
def tw5469403086377763934:=Nat
def tw6768441232557170710:=Nat
def tw14085023434457489538:=Nat
def tw16623096967146622533:=Nat
def tw13240669464604359544:=Nat
def tw7846588997376784326:=Nat
def tw8052199115694319874:=Nat
def tw10193485216030903292:=Nat
def tw10633386540995326762:=Nat
def tw12800377531403668269:=Nat
def tw6356462598857505261:=Nat
def tw14355615006561177479:=Nat
def tw7731426643706885130:=Nat
def tw13312714601956201770:=Nat
def tw2610278063360109102:=Nat
def tw10026543064302122974:=Nat
def tw9059189505273165883:=Nat
def tw16307311324460114409:=Nat
def tw6662521208849891194:=Nat
def tw14729099264501044656:=Nat
def tw1674381992092041343:=Nat
def tw14309942843608141921:=Nat
def tw10489048470723302910:=Nat
def tw5489034498628649250:=Nat
def tw5521320215469608724:=Nat
def tw2528485439551516576:=Nat
def tw10328052116803510004:=Nat
def tw17091204047501604609:=Nat
def tw6707909562068334610:=Nat
def tw7883864323419294408:=Nat
def tw2226529091750052956:=Nat
def tw17674981245762262832:=Nat
def tw8582728722448147430:=Nat
def tw864166048196866100:=Nat
def tw2231694711805494945:=Nat
def tw11643047748203020769:=Nat
def tw10700858817818486079:=Nat
def tw2928188800709525835:=Nat
def tw15681033881866734222:=Nat
def tw15367580413723847373:=Nat
def tw11677976384116636562:=Nat
def tw6041021167491705007:=Nat
def tw8361803843906911658:=Nat
def tw2376609937963150244:=Nat
def tw229092648889170143:=Nat
def tw9882664551452630533:=Nat
def tw9882074972055513959:=Nat
def tw9814677331544811105:=Nat
def tw9658627623582207196:=Nat
def tw9613879476691470495:=Nat
def tw9562755164087384630:=Nat
def tw9548173321125021910:=Nat
def tw950661607565671681:=Nat
def tw94643245732697255:=Nat
def tw9147751170510133558:=Nat
def tw9133207119341557248:=Nat
def tw9067436493992704675:=Nat
def tw8930837736671354664:=Nat
def tw8910842990339972315:=Nat
def tw8709977727871248109:=Nat
def tw860164248045628137:=Nat
def tw7880424716854342669:=Nat
def tw7779034497795259292:=Nat
def tw75731252565454247:=Nat
def tw7033423153299494965:=Nat
def tw6996999552170698202:=Nat
def tw6095793317733291088:=Nat
def tw6021784931262199665:=Nat
def tw5951171431189506172:=Nat
def tw5836232011036269873:=Nat
def tw5670280432577106110:=Nat
def tw5617144883684060729:=Nat
def tw4938601187925782117:=Nat
def tw4533207075239457697:=Nat
def tw4505213351164967151:=Nat
def tw4474439113345060512:=Nat
def tw4109731594849770142:=Nat
def tw4095764373625401030:=Nat
def tw3235297125551509310:=Nat
def tw3146180390893733819:=Nat
def tw313646012255057490:=Nat
def tw2615358114018765081:=Nat
def tw1988063774904247739:=Nat
def tw1917999874600877207:=Nat
def tw1903614411753742552:=Nat
def tw18115089876212163268:=Nat
def tw18029529960625630984:=Nat
def tw17921419439269073822:=Nat
end PySem.W.Fast
set_option maxRecDepth 100000 in
set_option maxHeartbeats 0 in
theorem PySem.Challenge.cw_mapwright_k35_parts_holds : PySem.Challenge.rw_mapwright_k35_parts.Holds := by
 w_on;o_law;k_head;(case hw=>w_witness2)
 k_fill
 show Ck.walk (l:=PySem.Challenge.rw_mapwright_k35_parts) rfl rfl (λw h Y=>PySem.W.kIn_of Y) ?F
 case F =>
  intro w mg fa h KX G hmg;let hl:=mg_of KX G (n :="law") (v:=↥_) (by k_is);cases hmg.symm>>hl;show aL.all_mk (fs:=[_,_,_,_,_,_,_,_,_,_,_,_,_,_,_]) (gs:=[_,_,_,_,_,_,_,_,_,_,_,_,_,_,_]) (hs:=[_,_,_,_,_,_]) (cs:=[_,_,_,_,_,_,_,_,_,_,_,_,_,_,_]) (ds:=[_,_,_,_,_,_,_,_,_,_,_,_,_,_,_]) (es:=[_,_,_,_,_,_]) hmg
   (by
    show Ck.cO (Ck.cO (Ck.cS (mg_of KX G (by k_is),(by k_is,by k_is,by k_is,by k_is),{1,_,rfl,(by k_is,by k_is,by k_is,by k_is)},?_,?_) Ck.cN))
    .repeat (first|show Ck.mN|show Ck.mC rfl rfl (by k_is,by k_is,by k_is) ?_)
    .repeat (first|show Ck.nN|show Ck.nC (by k_is) ?_))
   (by dsimp only[aL.YF,aL.oM,aL.iE,aL.iF,List.map,zc,yp];repeat (first|show Ck.gN|show Ck.gO ?_|show Ck.gS (mg_of KX G (by k_is)) ?_))
   (by dsimp only[aL.Ds,aL.sts,aL.eW,aL.eX,aL.oJ,aL.oK,aL.iE,aL.iF,List.map,zc,yp];repeat (first|show Ck.fN|show Ck.fE (by k_is,by k_is,by k_is) ?_))
   (by repeat (first|show Ck.vN|show Ck.vC (mg_of KX G (by k_is)) ?_))
   (by repeat (first|show Ck.bN|show Ck.bC (mg_none_of KX G (by k_is)) ?_)) rfl rfl rfl rfl
