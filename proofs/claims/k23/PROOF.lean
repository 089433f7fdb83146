import PyProof.Rows.All
import Wide.All
import OpenK.AllK
import Wide.FinOn
import Lean
import PyProof.EqAt
import PyProof.EqKinds
import PyProof.TupleCall
import PyProof.SetScanFacts
import PyProof.TupleKey
import PyProof.SetKind
import PyProof.IsRules
import PyProof.Rules
import PyProof.Rows.SetFrom
import PyProof.SetRoads
import KE.KDictOf
import KE.KEqDict
import PyProof.NeKinds
import PyProof.Rows.MinMaxN
import PyProof.ListRange
import PyProof.TupleOfGen
import PyProof.EnumMake
import PyProof.ZipIter
import PyProof.Rows.ZipGen
import PySem.Challenge.RW_mapwright_k23_seeds
set_option Elab.async false
set_option linter.all false
set_option maxRecDepth 100000
abbrev Fg:=PySem.W.Frag
namespace L2
open PySem PySem.Spec PyProof.Rows
abbrev Key:=Sum Int Str
def Im:Key->Value->Bool
 | .inl k,v=>Value.isInt k v|.inr x,v=>Value.isStrOf x v
def asv (w:World):Key->Int
 | .inl k=>hashInt k|.inr x=>hashStr w x
theorem ie:∀ {k:Key} {v:Value},Im k v=true->(∃ i t,k=Sum.inl i/\v=Value.int i t) \/ (∃ x t,k=Sum.inr x/\v=Value.str x t)
 | .inl i,v,h=>by
  obtain ⟨t,e⟩:=Value.isInt_shape (k:=i) (v:=v) h;exact .inl ⟨i,t,rfl,e⟩
 | .inr x,v,h=>by
  obtain ⟨t,e⟩:=Value.isStrOf_shape (x:=x) (v:=v) h;exact .inr ⟨x,t,rfl,e⟩
theorem Ww (i:Int) (t:Tok):Im (.inl i) (.int i t)=true:=by simp [Im,Value.isInt]
theorem Wx (x:Str) (t:Tok):Im (.inr x) (.str x t)=true:=by simp [Im,Value.isStrOf]
theorem ah1 (a b:Int):decide ((Sum.inl a:Key)=Sum.inl b)=(a == b):=by
 by_cases e:a=b
 . subst e;simp
 . have h:¬ (Sum.inl a:Key)=Sum.inl b:=λq=>e (Sum.inl.inj q)
   rw [decide_eq_false h];exact (beq_eq_false_iff_ne.mpr e).symm
theorem ah2 (a b:Str):decide ((Sum.inr a:Key)=Sum.inr b)=decide (a=b):=by
 by_cases e:a=b
 . subst e;simp
 . have h:¬ (Sum.inr a:Key)=Sum.inr b:=λq=>e (Sum.inr.inj q)
   rw [decide_eq_false h,decide_eq_false e]
theorem ah3 (a:Int) (b:Str):decide ((Sum.inl a:Key)=Sum.inr b)=false:=decide_eq_false (λq=>nomatch q)
theorem ah4 (a:Str) (b:Int):decide ((Sum.inr a:Key)=Sum.inl b)=false:=decide_eq_false (λq=>nomatch q)
def aj (prog:Program) (w:World):PySem.KeyKind prog w Key where
 is:=Im
 hash:=asv w
 inj:=λv a b ha hb=>by
  rcases ie ha with ⟨i,t,rfl,rfl⟩ | ⟨x,t,rfl,rfl⟩
  . rcases ie hb with ⟨j,u,rfl,e⟩ | ⟨y,u,rfl,e⟩
    . injection e with e1 _;rw [e1]
    . exact nomatch e
  . rcases ie hb with ⟨j,u,rfl,e⟩ | ⟨y,u,rfl,e⟩
    . exact nomatch e
    . injection e with e1 _;rw [e1]
 byValue:=λk v h=>by rcases ie h with ⟨i,t,rfl,rfl⟩ | ⟨x,t,rfl,rfl⟩<;>rfl
 pyHash:=λhv h=>by
  rcases ie hv with ⟨i,t,rfl,rfl⟩ | ⟨x,t,rfl,rfl⟩
  . exact wpAny_pyHash_int h
  . exact wpAny_pyHash_str h
 eqBool:=λhu hv h=>by
  rcases ie hu with ⟨i,t,rfl,rfl⟩ | ⟨x,t,rfl,rfl⟩
  . rcases ie hv with ⟨j,u,rfl,rfl⟩ | ⟨y,u,rfl,rfl⟩
    . rw [ah1] at h;exact wpAny_eqBool_int h
    . rw [ah3] at h;exact SeqAt.EqAt.int_str i t y u _ _ _ _ h
  . rcases ie hv with ⟨j,u,rfl,rfl⟩ | ⟨y,u,rfl,rfl⟩
    . rw [ah4] at h;exact SeqAt.EqAt.str_int x t j u _ _ _ _ h
    . rw [ah2] at h;exact wpAny_eqBool_str h
 «strs»:=λk x t v h=>by
  rcases ie h with ⟨i,u,rfl,e⟩ | ⟨y,u,rfl,e⟩
  . exact nomatch e
  . injection e with e1 _
    subst e1;cases v<;>rfl
theorem Qe (prog:Program) (w:World) (i:Int) (t:Tok):(aj prog w).is (.inl i) (.int i t)=true:=Ww i t
theorem Qf (prog:Program) (w:World) (x:Str) (t:Tok):(aj prog w).is (.inr x) (.str x t)=true:=Wx x t
end L2
namespace L2
open PySem PySem.Spec PyProof.Rows
inductive V where
 | non | bl (b:Bool) | int (i:Int) | str (x:Str) | Yu (b:Array UInt8) | flt (b:UInt64) | ref (a:Addr) | ty (n:String)
 deriving DecidableEq
def RelV:V->Value->Prop
 | .non,u=>u=Value.none|.bl b,u=>u=Value.bool b|.int i,u=>∃ t,u=Value.int i t|.str x,u=>∃ t,u=Value.str x t|.Yu b,u=>∃ t,u=Value.bytes b t|.flt b,u=>∃ t,u=Value.float b t|.ref a,u=>u=Value.ref a|.ty n,u=>u=Value.type n
abbrev Vals:List V->List Value->Prop:=Paired RelV
theorem Vals.length {xs:List V} {us:List Value} (r:Vals xs us):xs.length=us.length:=Paired.length r
theorem Vals.get:∀ {xs:List V} {us:List Value} {i:Nat} {x:V},Vals xs us->xs[i]?=some x->∃ u,us[i]?=some u/\RelV x u
 | _,_,_,_,.nil,e=>by simp at e|_,_,0,_,.cons r _,e=>by simp at e;subst e;exact ⟨_,rfl,r⟩
 | _,_,i+1,x,.cons _ t,e=>by
  obtain ⟨u,h1,h2⟩:=Vals.get (i:=i) (x:=x) t (by simpa using e);exact ⟨u,by simpa using h1,h2⟩
theorem Vals.set {x:V} {u:Value} (r:RelV x u):∀ {xs:List V} {us:List Value} (i:Nat),Vals xs us->Vals (xs.set i x) (us.set i u)
 | _,_,_,.nil=>.nil|_,_,0,.cons _ t=>.cons r t|_,_,i+1,.cons q t=>.cons q (Vals.set r i t)
theorem Vals.append:∀ {xs ys:List V} {us ws:List Value},Vals xs us->Vals ys ws->Vals (xs ++ ys) (us ++ ws)
 | _,_,_,_,.nil,s=>s|_,_,_,_,.cons r t,s=>.cons r (Vals.append t s)
theorem Vals.take:∀ {xs:List V} {us:List Value} (n:Nat),Vals xs us->Vals (xs.take n) (us.take n)
 | _,_,0,_=>.nil|_,_,_+1,.nil=>.nil|_,_,n+1,.cons r t=>.cons r (Vals.take n t)
theorem Vals.drop:∀ {xs:List V} {us:List Value} (n:Nat),Vals xs us->Vals (xs.drop n) (us.drop n)
 | _,_,0,r=>r|_,_,_+1,.nil=>.nil|_,_,n+1,.cons _ t=>Vals.drop n t
def Cg:Option V->Option Value->Prop
 | some v,some u=>RelV v u|none,none=>True|_,_=>False
def KV {κ:Type}:List (κ×V)->List (κ×Value)->Prop:=Paired λ(p:κ×V) (q:κ×Value)=>p.1=q.1/\RelV p.2 q.2
def kV:Key->V
 | .inl i=>.int i|.inr x=>.str x
inductive HO where
 | lst (xs:List V)
 | tup (xs:List V)
 | dK (kvs:List (Key×V)) | dT (kvs:List (List Key×V))
 | set (S:Int->Bool) (n:Nat)
 | ins (C dx:Addr) (fs:List (Str×V))
 | own (x:Addr)
 | xd (fs:List (Str×V))
 | met (f x:Addr)
 | Ib (lo hi:Int)
 | By (o:Obj) (u:HO)
 | tbl (ps:Array Value)
 | ext (φ:Heap->Prop)
abbrev Hp:=Addr->Option HO
def upd (H:Hp) (a:Addr) (o:HO):Hp:=λb=>if b=a then some o else H b
theorem dh {H:Hp} {a:Addr} {o:HO}:upd H a o a=some o:=by unfold upd;rw [if_pos rfl]
theorem aq {H:Hp} {a b:Addr} {o:HO} (h:b≠a):upd H a o b=H b:=by unfold upd;rw [if_neg h]
theorem Yy {H:Hp} {a b:Addr} {o u:HO} (h:H a=some o) (h':H b=some u) (d:o≠u):a≠b:=by intro e;subst e;rw [h] at h';exact d (Option.some.inj h')
theorem au {H:Hp} {a b:Addr} {o:HO} (h:H a=some o) (h':H b=none):a≠b:=by intro e;subst e;rw [h] at h';cases h'
section
variable (P:Program) (w:World)
def iw (H:Hp) (h:Heap) (a:Addr):HO->Prop
 | .lst xs=>xs.length <= sizeLine/\∃ (its:List Value) (n:Nat),Vals xs its/\h.get? a=some { cls:=.type "list",data:=.seq its.toArray n }|.tup xs=>xs.length <= sizeLine/\∃ its:List Value,Vals xs its/\IsTup h a its.toArray|.dK kvs=>kvs.length <= sizeLine/\(a == sysModules)=false/\∃ vs,KV kvs vs/\h.DictOf (aj P w) a vs
 | .dT kvs=>kvs.length <= sizeLine/\(a == sysModules)=false/\∃ xs:List (List Key×Addr×Value),
  Paired (λ(p:List Key×V) (q:List Key×Addr×Value)=>p.1=q.1/\H q.2.1=some (.tup (p.1.map kV))/\RelV p.2 q.2.2) kvs xs /\
  ∃ o es ep,h.get? a=some o/\o.ExactDict/\o.data=.dict es ep/\es.toList=xs.map (entryOfKey (tupleKind (aj P w)))/\(xs.map (·.1)).Nodup
 | .set S n=>h.SetOf (intKind P w) a S n
 | .ins C dx fs=>H dx=some (.own a)/\fs.length <= 1000/\dx≠a/\h.get? a=some (PySem.W.instObj C dx) /\
  ∃ mA,h.Ns1 dx mA/\(∀ f,Cg (fs.lookup f) (mA f))/\PySem.Within mA (fs.map (·.1))
 | .own _=>∃ o,h.get? a=some o|.xd fs=>∃ mA,h.Ns1 a mA/\∀ f,Cg (fs.lookup f) (mA f)|.Ib lo hi=>∃ t u v,h.get? a=some { cls:=.type "range",data:=.fields #[.int lo t,.int hi u,.int 1 v] }|.By o u=>h.get? a=some o/\iw H h a u|.tbl ps=>h.get? a=some { cls:=.none,data:=.fields ps }|.met f x=>h.get? a=some (PySem.W.methodObj (.ref f) (.ref x))|.ext φ=>φ h/\(∃ o,h.get? a=some o)/\∀ h1 h2:Heap,φ h1->(∀ o,h1.get? a=some o->h2.get? a=some o)->φ h2
def Cm (H:Hp) (h:Heap):Prop:=∀ a o,H a=some o->iw P w H h a o
end
section
variable {P:Program} {w:World} {H H':Hp} {h h':Heap} {a:Addr} {o:HO}
theorem iw.lt (x:iw P w H h a o):a < h.objs.size:=by
 cases o with
 | lst xs=>obtain ⟨_,_,_,_,e⟩:=x;exact Heap.lt_size e
 | tup xs=>obtain ⟨_,_,_,p⟩:=x;exact p.lt
 | dK kvs=>obtain ⟨_,_,_,_,o,_,_,e,_⟩:=x;exact Heap.lt_size e
 | dT kvs=>obtain ⟨_,_,_,_,o,_,_,e,_⟩:=x;exact Heap.lt_size e
 | set S n=>obtain ⟨o,_,_,_,e,_⟩:=x;exact Heap.lt_size e
 | ins C dx fs=>obtain ⟨_,_,_,e,_⟩:=x;exact Heap.lt_size e
 | own y=>obtain ⟨_,e⟩:=x;exact Heap.lt_size e
 | xd fs=>obtain ⟨_,⟨_,_,_,e,_⟩,_⟩:=x;exact Heap.lt_size e
 | Ib lo hi=>obtain ⟨_,_,_,e⟩:=x;exact Heap.lt_size e
 | By ob u=>obtain ⟨e,_⟩:=x;exact Heap.lt_size e
 | tbl ps=>exact Heap.lt_size (show h.get? a=some _ from x)
 | met f y=>exact Heap.lt_size (show h.get? a=some _ from x)
 | ext φ=>obtain ⟨_,⟨_,e⟩,_⟩:=x;exact Heap.lt_size e
theorem Paired.ah6 {α β:Type} {F G:α->β->Prop}:∀ {l₁:List α} {l₂:List β},Paired F l₁ l₂->(∀ a b,F a b->G a b)->Paired G l₁ l₂
 | _,_,.nil,_=>.nil|_,_,.cons r t,f=>.cons (f _ _ r) (Paired.ah6 t f)
theorem iw.stay (x:iw P w H h a o) (k:∀ b u,(b=a \/ H b=some (.own a))->h.get? b=some u->h'.get? b=some u)
 (ho:∀ b,H b=some (.own a)->H' b=some (.own a)) (ht:∀ b xs,H b=some (.tup xs)->H' b=some (.tup xs)):iw P w H' h' a o:=by
 induction o with
 | lst xs=>obtain ⟨z,its,n,r,e⟩:=x;exact ⟨z,its,n,r,k _ _ (.inl rfl) e⟩
 | tup xs=>obtain ⟨z,its,r,ob,e,c⟩:=x;exact ⟨z,its,r,ob,k _ _ (.inl rfl) e,c⟩
 | dK kvs=>obtain ⟨z,y,vs,r,ob,es,ep,e,c⟩:=x;exact ⟨z,y,vs,r,ob,es,ep,k _ _ (.inl rfl) e,c⟩
 | dT kvs =>
  obtain ⟨z,y,xs,r,ob,es,ep,e,c⟩:=x;exact ⟨z,y,xs,Paired.ah6 r λp q z=>⟨z.1,ht _ _ z.2.1,z.2.2⟩,ob,es,ep,k _ _ (.inl rfl) e,c⟩
 | set S n=>obtain ⟨ob,es,ep,t,e,c⟩:=x;exact ⟨ob,es,ep,t,k _ _ (.inl rfl) e,c⟩
 | ins C dx fs =>
  obtain ⟨d,z,ne,e,mA,⟨od,es,ep,e2,c⟩,r⟩:=x;exact ⟨ho _ d,z,ne,k _ _ (.inl rfl) e,mA,⟨od,es,ep,k _ _ (.inr d) e2,c⟩,r⟩
 | own y=>obtain ⟨ob,e⟩:=x;exact ⟨ob,k _ _ (.inl rfl) e⟩
 | xd fs=>obtain ⟨mA,⟨od,es,ep,e,c⟩,r⟩:=x;exact ⟨mA,⟨od,es,ep,k _ _ (.inl rfl) e,c⟩,r⟩
 | Ib lo hi=>obtain ⟨t,u,v,e⟩:=x;exact ⟨t,u,v,k _ _ (.inl rfl) e⟩
 | By ob u ih=>obtain ⟨e,q⟩:=x;exact ⟨k _ _ (.inl rfl) e,ih q⟩
 | tbl ps =>
  have e:h.get? a=some { cls:=.none,data:=.fields ps }:=x;show h'.get? a=some { cls:=.none,data:=.fields ps };exact k a _ (.inl rfl) e
 | met f y =>
  have e:h.get? a=some (PySem.W.methodObj (.ref f) (.ref y)):=x;show h'.get? a=some (PySem.W.methodObj (.ref f) (.ref y));exact k a _ (.inl rfl) e
 | ext φ=>obtain ⟨p,⟨o,e⟩,st⟩:=x;exact ⟨st _ _ p λo q=>k _ _ (.inl rfl) q,⟨o,k _ _ (.inl rfl) e⟩,st⟩
theorem Cm.lt (x:Cm P w H h) (e:H a=some o):a < h.objs.size:=(x a o e).lt
theorem Cm.fresh (x:Cm P w H h) (e:h.objs.size <= a):H a=none:=by
 cases q:H a with
 | none=>rfl|some u=>exact absurd (Nat.lt_of_lt_of_le (x.lt q) e) (Nat.lt_irrefl _)
theorem Cm.kept (x:Cm P w H h) (k:∀ b u,h.get? b=some u->h'.get? b=some u):Cm P w H h':=λa o e =>
 (x a o e).stay (λb u _ q=>k b u q) (λ_ q=>q) λ_ _ q=>q
theorem Cm.laid (x:Cm P w H h) (k:∀ b u,h.get? b=some u->h'.get? b=some u) (hp:h.objs.size <= a) (new:iw P w (upd H a o) h' a o):Cm P w (upd H a o) h':=λb u e=>by
 have hn:=x.fresh hp
 by_cases hb:b=a
 . subst hb;rw [dh] at e;cases e;exact new
 . rw [aq hb] at e
   exact (x b u e).stay (λc v _ q=>k c v q) (λc q=>by rw [aq (au q hn)];exact q) λc xs q=>by rw [aq (au q hn)];exact q
end
def Rd (H:Hp) (a:Addr) (u:HO):Prop:=H a=some u \/ ∃ o,H a=some (.By o u)
theorem Rd.ok {P:Program} {w:World} {H:Hp} {h:Heap} {a:Addr} {u:HO} (r:Rd H a u) (x:Cm P w H h):iw P w H h a u:=by
 rcases r with r | ⟨o,r⟩
 . exact x a u r
 . obtain ⟨_,q⟩:=x a _ r
   exact q
def Mut:Option HO->Prop
 | some (.lst _)=>True|some (.dK _)=>True|some (.dT _)=>True|some (.set _ _)=>True|some (.ins _ _ _)=>True|some (.ext _)=>True|_=>False
section
variable {P:Program} {w:World} {H:Hp} {h h':Heap} {x e:Addr} {o':HO}
theorem Cm.write (ok:Cm P w H h) (mu:Mut (H x)) (he:e=x \/ H e=some (.own x)) (k:∀ b u,b≠e->h.get? b=some u->h'.get? b=some u) (heo:∃ u,h'.get? e=some u)
 (new:iw P w (upd H x o') h' x o'):Cm P w (upd H x o') h':=λb u q=>by
 have amu:∀ c y,H c=some (.own y)->c≠x:=λc y r z=>by subst z;rw [r] at mu;exact mu
 have asw:∀ c xs,H c=some (.tup xs)->c≠x:=λc xs r z=>by subst z;rw [r] at mu;exact mu
 by_cases hb:b=x
 . subst hb;rw [dh] at q;cases q;exact new
 . rw [aq hb] at q
   by_cases hbe:b=e
   . have q':H b=some (.own x):=by
      rcases he with z | z
      . exact absurd (hbe.trans z) hb
      . rw [hbe];exact z
     rw [q] at q';cases q';obtain ⟨v,hv⟩:=heo;exact ⟨v,by rw [hbe];exact hv⟩
   . refine (ok b u q).stay (λc v hc r=>k c v ?_ r) (λc r=>by rw [aq (amu c b r)];exact r) λc xs r=>by rw [aq (asw c xs r)];exact r
     rcases hc with rfl | hc
     . exact hbe
     . rintro rfl
       rcases he with z | z
       . exact amu c b hc z
       . rw [hc] at z;cases z;exact hb rfl
end
structure Un (fs ex:List Addr) (H H':Hp) (h h':Heap):Prop where
 keep:∀ b o,h.get? b=some o->H b=none->b ∉ fs->b ∉ ex->h'.get? b=some o
 slot:∀ b o,h.get? b=some o->H b=none->b∈fs->b ∉ ex->∃ sl,h'.get? b=some { o with slots:=sl }
 free:∀ b o,h.get? b=some o->H b=none->b ∉ ex->H' b=none
 there:∀ b o,h.get? b=some o->b ∉ ex->∃ o',h'.get? b=some o'
 tups:∀ b xs,H b=some (.tup xs)->H' b=some (.tup xs)
 Nf:∀ b o u,H b=some (.By o u)->H' b=some (.By o u)
 Qg:∀ b ps,H b=some (.tbl ps)->∃ more,H' b=some (.tbl (ps ++ more))
section
variable {fs fs' ex ex':List Addr} {H H1 H2:Hp} {h h1 h2 h':Heap} {a x e:Addr} {o:HO}
theorem Un.any (u:Un fs ex H H1 h h1) {b:Addr} {ob:Obj} (q:h.get? b=some ob) (n:H b=none) (hx:b ∉ ex):∃ sl,h1.get? b=some { ob with slots:=sl }:=by
 by_cases hb:b∈fs
 . exact u.slot b ob q n hb hx
 . exact ⟨ob.slots,u.keep b ob q n hb hx⟩
theorem Un.kept (k:∀ b u,h.get? b=some u->h'.get? b=some u):Un fs ex H H h h' :=
 ⟨λb ob q _ _ _=>k b ob q,λb ob q _ _ _=>⟨ob.slots,k b ob q⟩,λ_ _ _ n _=>n,λb ob q _=>⟨ob,k b ob q⟩,λ_ _ q=>q,λ_ _ _ q=>q,λ_ ps q=>⟨#[],by rw [q];simp⟩⟩
theorem Un.refl:Un fs ex H H h h:=Un.kept λ_ _ q=>q
theorem Un.laid (k:∀ b u,h.get? b=some u->h'.get? b=some u) (hp:h.objs.size <= a) (hn:H a=none):Un fs ex H (upd H a o) h h' where
 keep:=λb u q _ _ _=>k b u q
 slot:=λb u q _ _ _=>⟨u.slots,k b u q⟩
 free:=λb u q n _=>by rw [aq (Nat.ne_of_lt (Nat.lt_of_lt_of_le (Heap.lt_size q) hp))];exact n
 there:=λb u q _=>⟨u,k b u q⟩
 tups:=λb xs q=>by rw [aq (au q hn)];exact q
 Nf:=λb u xs q=>by rw [aq (au q hn)];exact q
 Qg:=λb ps q=>⟨#[],by rw [aq (au q hn),q];simp⟩
theorem Un.write (mu:Mut (H x)) (he:e=x \/ H e=some (.own x)) (k:∀ b u,b≠e->h.get? b=some u->h'.get? b=some u) (heo:∃ u,h'.get? e=some u):Un fs ex H (upd H x o) h h':=by
 have hx:∀ b,H b=none->b≠x:=λb n z=>by subst z;rw [n] at mu;exact mu
 have hb:∀ b,H b=none->b≠e:=λb n z=>by
  subst z;rcases he with r | r
  . exact hx b n r
  . rw [n] at r;cases r
 have hm:∀ b u,H b=some u->¬ Mut (some u)->b≠x:=λb u q nm z=>by subst z;rw [q] at mu;exact nm mu
 refine ⟨λb u q n _ _=>k b u (hb b n) q,λb u q n _ _=>⟨u.slots,k b u (hb b n) q⟩,λb u q n _=>by rw [aq (hx b n)];exact n,λb u q _=>?_,
  λb xs q=>by rw [aq (hm b _ q λz=>z)];exact q,λb u xs q=>by rw [aq (hm b _ q λz=>z)];exact q,λb ps q=>⟨#[],by rw [aq (hm b _ q λz=>z),q];simp⟩⟩
 by_cases hbe:b=e
 . subst hbe;exact heo
 . exact ⟨u,k b u hbe q⟩
end
def trk (h:Heap) (H:Hp):List Addr:=(List.range h.objs.size).filter λa=>(H a).isSome
def Ng (h:Heap) (H:Hp):Heap:=PySem.W.hideAll h (trk h H)
theorem Wy (h:Heap) (H:Hp):(Ng h H).objs.size=h.objs.size:=PySem.W.hideAll_size _ _
theorem Yz {h:Heap} {H:Hp} {b:Addr} {o:Obj} (e:h.get? b=some o) (n:H b=none):(Ng h H).get? b=some o :=
 PySem.W.hideAll_get _ e λhm=>by have q:(H b).isSome=true:=(List.mem_filter.mp hm).2;rw [n] at q;simp at q
theorem adf {h:Heap} {H:Hp} {b:Addr} {o:Obj} (e:(Ng h H).get? b=some o):h.get? b=some o/\H b=none:=by
 have e':h.get? b=some o:=PySem.W.of_hideAll (trk h H) e;refine ⟨e',?_⟩;cases q:H b with
 | none=>rfl
 | some x =>
  have hm:b∈trk h H:=List.mem_filter.mpr ⟨List.mem_range.mpr (Heap.lt_size e'),by simp [q]⟩;have z:(Ng h H).get? b=none:=PySem.W.hideAll_none (trk h H) hm;rw [z] at e;cases e
end L2
namespace L2
open PySem PySem.Spec PyProof.Rows
structure Mod (K:Fg) (mg:Str->Option Value) (base:Heap):Prop where
 kin:K.In base
 glob:base.Ns mainGlobals mg
 blt:∃ mb,base.Ns builtinsNs mb/\∀ x:Str,x ≠ "__name__" -> mb x=bootBuiltins x
 nolimit:base.NoLimit
structure Cx where
 prog:Program
 w:World
 K:Fg
 mg:Str->Option Value
 base:Heap
 A:Around
 N:List Str
 s₀:Shared
 H₀:Hp
 env:Env
 outer:List Env
 stack:List Env
 ex:List Addr
 fn:Str->Bool
 calm:Bool
 pn:List (Addr×Obj)
 xe:Value->Shared->Prop
def frs (l:List Env):List Addr:=l.filterMap (·.frame)
abbrev Cx.fs (X:Cx):List Addr:=frs X.outer
def Vis (sc:Scope) (x:Str):Prop:=sc.names.lookup x=some .local \/ sc.names.lookup x=some .cell \/ sc.names.lookup x=some .free
def Loc (sc:Scope) (x:Str):Prop:=sc.names.lookup x=some .local \/ sc.names.lookup x=some .cell
def Look (env:Env) (h:Heap) (m:Str->Option Value) (x:Str) (u:Value):Prop :=
 (env.kindOf x=some .local/\m x=some u) \/ ((env.kindOf x=some .cell \/ env.kindOf x=some .free)/\∃ c,env.cells.lookup x=some c/\h.IsCell c (some u))
structure Cx.Ok (X:Cx):Prop where
 mod:Mod X.K X.mg X.base
 kind:X.env.scope.kind=.function
 glob:X.env.globals=mainGlobals
 blt:X.env.builtins=builtinsNs
 above:X.s₀.heap.objs.size <= X.env.locals
 inj:∀ x y c,X.env.cells.lookup x=some c->X.env.cells.lookup y=some c->x=y
 has:∀ x,(X.env.kindOf x=some .cell \/ X.env.kindOf x=some .free)->∃ c,X.env.cells.lookup x=some c
 cab:∀ x c,X.fn x=true->X.env.cells.lookup x=some c->X.s₀.heap.objs.size <= c
 hd:X.calm=true->X.A.handled=none
 frames:X.A.frames=some X.stack
 stk:X.stack=X.outer \/ (X.stack=X.env :: X.outer/\X.env.frame=some X.env.locals)
 exf:∀ b∈X.ex,b≠X.env.locals/\∀ x c,X.env.cells.lookup x=some c->c≠b
 bs:∀ b o,X.base.get? b=some o->X.s₀.heap.get? b=some o/\X.H₀ b=none
 bsz:X.base.objs.size <= X.s₀.heap.objs.size
 Y0:∀ b o,X.base.get? b=some o->b ∉ X.ex
 adh:∀ b∈X.ex,b ∉ X.fs
 Hv:X.s₀.heap.FunFrames X.base X.outer
 frf:∀ b∈X.fs,X.H₀ b=none
structure Inv (X:Cx) (pins:List (Addr×Obj)) (σ:List (Option V)) (H:Hp) (s:Shared):Prop where
 ok:X.Ok
 os:s.os=X.s₀.os
 bare:AllBare s.gens
 base:Un X.fs X.ex X.H₀ H X.s₀.heap s.heap
 loc:∃ m,s.heap.Ns X.env.locals m/\∀ (i:Nat) (x:Str) (v:V),X.N[i]?=some x->σ[i]?=some (some v)->Vis X.env.scope x->∃ u,RelV v u/\Look X.env s.heap m x u
 cell:∀ x c,X.env.cells.lookup x=some c->∃ v,s.heap.IsCell c v
 free:H X.env.locals=none
 Aj:∀ x c,X.env.cells.lookup x=some c->H c=none
 pin:∀ p∈X.pn ++ pins,s.heap.get? p.1=some p.2/\H p.1=none/\p.1≠X.env.locals/\p.1 ∉ X.fs/\∀ v,p.2.data≠.cell v
 hok:Cm X.prog X.w H s.heap
 len:σ.length=X.N.length
section
variable {X:Cx} {pins:List (Addr×Obj)} {σ:List (Option V)} {H H':Hp} {s:Shared} {h':Heap}
theorem Cx.Ok.asx (ok:X.Ok) {b:Addr} {o:Obj} (e:X.base.get? b=some o):b ∉ X.fs:=λhb=>by have:=(ok.Hv.mem hb).1;rw [e] at this;cases this
theorem Inv.bs (I:Inv X pins σ H s):∀ b o,X.base.get? b=some o->s.heap.get? b=some o/\H b=none:=λb o e =>
 ⟨I.base.keep b o (I.ok.bs b o e).1 (I.ok.bs b o e).2 (I.ok.asx e) (I.ok.Y0 b o e),I.base.free b o (I.ok.bs b o e).1 (I.ok.bs b o e).2 (I.ok.Y0 b o e)⟩
theorem Inv.bk (I:Inv X pins σ H s):∀ b o,X.base.get? b=some o->s.heap.get? b=some o:=λb o e=>(I.bs b o e).1
theorem Inv.mod (I:Inv X pins σ H s):Mod X.K X.mg X.base:=I.ok.mod
theorem Inv.Df (I:Inv X pins σ H s):X.K.In s.heap:=I.ok.mod.kin.keeps I.bk
theorem Inv.lt (I:Inv X pins σ H s):X.env.locals < s.heap.objs.size:=let ⟨_,hn,_⟩:=I.loc;hn.lt
theorem Inv.sz (I:Inv X pins σ H s):X.s₀.heap.objs.size <= s.heap.objs.size:=Nat.le_trans I.ok.above (Nat.le_of_lt I.lt)
theorem Inv.ah9 (I:Inv X pins σ H s) {a:Addr} (h:s.heap.objs.size <= a):a ∉ X.fs:=λhb=>by obtain ⟨_,o,ho,_⟩:=I.ok.Hv.mem hb;exact absurd (Nat.lt_of_lt_of_le (Heap.lt_size ho) (Nat.le_trans I.sz h)) (Nat.lt_irrefl _)
theorem Inv.cne (I:Inv X pins σ H s):∀ x c,X.env.cells.lookup x=some c->c≠X.env.locals:=λx c e z=>by obtain ⟨v,o,ho,hd⟩:=I.cell x c e;obtain ⟨m,⟨o',es,ep,ho',hd',_⟩,_⟩:=I.loc;rw [z,ho'] at ho;cases ho;rw [hd'] at hd;cases hd
theorem Inv.Hv (I:Inv X pins σ H s):s.heap.FunFrames X.base X.outer:=by
 have all:∀ (l:List Env),(∀ b∈frs l,b∈X.fs)->X.s₀.heap.FunFrames X.base l->s.heap.FunFrames X.base l:=by
  intro l
  induction l with
  | nil=>intro _ _;trivial
  | cons env r ih =>
   intro hs hl;obtain ⟨hk,⟨L,o,hf,hn,ho,hd⟩,hr⟩:=hl;have hL:L∈X.fs:=hs L (by unfold frs;rw [List.filterMap_cons,hf];exact List.mem_cons_self);obtain ⟨sl,e⟩:=I.base.slot L o ho (I.ok.frf L hL) hL λz=>I.ok.adh L z hL
   exact ⟨hk,⟨L,_,hf,hn,e,hd⟩,ih (λb hb=>hs b (by unfold frs;rw [List.filterMap_cons,hf];exact List.mem_cons_of_mem _ hb)) hr⟩
 exact all X.outer (λ_ hb=>hb) I.ok.Hv
theorem Inv.stack (I:Inv X pins σ H s):s.heap.FunFrames X.base X.stack:=by
 rcases I.ok.stk with e | ⟨e,hf⟩
 . rw [e];exact I.Hv
 . rw [e]
   obtain ⟨m,hn,_⟩:=I.loc;refine .cons (by rw [I.ok.kind];decide) hf hn ?_ I.Hv;exact Heap.get?_none_of_le (Nat.le_trans I.ok.bsz I.ok.above)
theorem Inv.Nh (I:Inv X pins σ H s):∀ b∈frs X.stack,b∈X.env.locals :: X.fs:=λb hb=>by
 rcases I.ok.stk with e | ⟨e,hf⟩
 . rw [e] at hb;exact List.mem_cons_of_mem _ hb
 . rw [e] at hb
   unfold frs at hb;rw [List.filterMap_cons,hf] at hb;exact hb
theorem Inv.U9 (I:Inv X pins σ H s):∀ b∈frs X.stack,H b=none:=λb hb=>by
 rcases List.mem_cons.mp (I.Nh b hb) with e | hb
 . rw [e];exact I.free
 . obtain ⟨_,o,ho,_⟩:=I.ok.Hv.mem hb
   exact I.base.free b o ho (I.ok.frf b hb) λz=>I.ok.adh b z hb
theorem Inv.step {g':Array GenState} {t':Nat} {d':Drawn} {ch:List Addr} (I:Inv X pins σ H s)
 (hch:∀ b∈ch,(b∈X.ex \/ X.s₀.heap.objs.size <= b)/\b≠X.env.locals/\(∀ x c,X.env.cells.lookup x=some c->c≠b)/\∀ p∈X.pn ++ pins,p.1≠b)
 (keep:∀ b o,b≠X.env.locals->b ∉ X.fs->b ∉ ch->s.heap.get? b=some o->H b=none->h'.get? b=some o)
 (slot:∀ b o,b≠X.env.locals->b∈X.fs->b ∉ ch->s.heap.get? b=some o->H b=none->∃ sl,h'.get? b=some { o with slots:=sl }) (free:∀ b o,b ∉ ch->s.heap.get? b=some o->H b=none->H' b=none)
 (there:∀ b o,b ∉ ch->s.heap.get? b=some o->∃ o',h'.get? b=some o')
 (tups:∀ b xs,H b=some (.tup xs)->H' b=some (.tup xs)) (Nf:∀ b o u,H b=some (.By o u)->H' b=some (.By o u)) (Qg:∀ b ps,H b=some (.tbl ps)->∃ more,H' b=some (.tbl (ps ++ more)))
 (ns:∀ m,s.heap.Ns X.env.locals m->h'.Ns X.env.locals m) (hok:Cm X.prog X.w H' h') (hg:AllBare g') :
 Inv X pins σ H' { s with heap:=h',gens:=g',drawn:=d',toks:=t' }:=by
 have neL:∀ b o,X.s₀.heap.get? b=some o->b≠X.env.locals:=λb o e=>Nat.ne_of_lt (Nat.lt_of_lt_of_le (Heap.lt_size e) I.ok.above)
 have neC:∀ b o,X.s₀.heap.get? b=some o->b ∉ X.ex->b ∉ ch:=λb o e hx hb=>by
  rcases (hch b hb).1 with z | z
  . exact hx z
  . exact absurd (Nat.lt_of_lt_of_le (Heap.lt_size e) z) (Nat.lt_irrefl _)
 have cellK:∀ x c,X.env.cells.lookup x=some c->∀ v,s.heap.IsCell c v->h'.IsCell c v:=λx c e v ⟨o,ho,hd⟩=>by
  have Y4:c ∉ ch:=λz=>(hch c z).2.2.1 x c e rfl
  by_cases hc:c∈X.fs
  . obtain ⟨sl,q⟩:=slot c o (I.cne x c e) hc Y4 ho (I.Aj x c e)
    exact ⟨_,q,hd⟩
  . exact ⟨o,keep c o (I.cne x c e) hc Y4 ho (I.Aj x c e),hd⟩
 refine ⟨I.ok,I.os,hg,⟨λb o e n hb hx=>?_,λb o e n hb hx=>?_,λb o e n hx=>?_,λb o e hx=>?_,λb xs e=>tups b xs (I.base.tups b xs e),λb o xs e=>Nf b o xs (I.base.Nf b o xs e),λb ps e=>?_⟩,?_,λx c e=>?_,?_,λx c e=>?_,λp hp=>?_,hok,I.len⟩
 . exact keep b o (neL b o e) hb (neC b o e hx) (I.base.keep b o e n hb hx) (I.base.free b o e n hx)
 . obtain ⟨sl,e1⟩:=I.base.slot b o e n hb hx
   obtain ⟨sl',e2⟩:=slot b _ (neL b o e) hb (neC b o e hx) e1 (I.base.free b o e n hx);exact ⟨sl',e2⟩
 . obtain ⟨o',e1⟩:=I.base.there b o e hx
   exact free b o' (neC b o e hx) e1 (I.base.free b o e n hx)
 . obtain ⟨o',e1⟩:=I.base.there b o e hx
   exact there b o' (neC b o e hx) e1
 . obtain ⟨m1,e1⟩:=I.base.Qg b ps e
   obtain ⟨m2,e2⟩:=Qg b _ e1;exact ⟨m1 ++ m2,by rw [e2,Array.append_assoc]⟩
 . obtain ⟨m,hn,hl⟩:=I.loc
   refine ⟨m,ns m hn,λi x v e1 e2 e3=>?_⟩;obtain ⟨u,r,l⟩:=hl i x v e1 e2 e3;refine ⟨u,r,?_⟩;rcases l with l | ⟨k,c,e,z⟩
   . exact .inl l
   . exact .inr ⟨k,c,e,cellK x c e _ z⟩
 . obtain ⟨v,z⟩:=I.cell x c e
   exact ⟨v,cellK x c e v z⟩
 . obtain ⟨m,⟨o,_,_,ho,_⟩,_⟩:=I.loc
   exact free _ o (λz=>(hch _ z).2.1 rfl) ho I.free
 . obtain ⟨v,o,ho,hd⟩:=I.cell x c e
   exact free c o (λz=>(hch c z).2.2.1 x c e rfl) ho (I.Aj x c e)
 . obtain ⟨e,n,ne,nf,d⟩:=I.pin p hp
   have Y4:p.1 ∉ ch:=λz=>(hch p.1 z).2.2.2 p hp rfl
   exact ⟨keep p.1 p.2 ne nf Y4 e n,free p.1 p.2 Y4 e n,ne,nf,d⟩
theorem Inv.un {t':Nat} (I:Inv X pins σ H s) (u:Un X.fs [] H H' s.heap h') (hok:Cm X.prog X.w H' h'):Inv X pins σ H' { s with heap:=h',toks:=t' }:=by
 obtain ⟨m,⟨o,es,ep,ho,r⟩,_⟩:=id I.loc;obtain ⟨sl,hL⟩:=u.any ho I.free (by simp);exact I.step (g':=s.gens) (d':=s.drawn) (ch:=[]) (λ_ z=>nomatch z) (λb o _ hb _ e n=>u.keep b o e n hb (by simp)) (λb o _ hb _ e n=>u.slot b o e n hb (by simp)) (λb o _ e n=>u.free b o e n (by simp)) (λb o _ e=>u.there b o e (by simp)) u.tups u.Nf u.Qg (λm' hm=>by
  obtain ⟨o',es',ep',ho',r'⟩:=hm;rw [ho] at ho';cases ho';exact ⟨_,es',ep',hL,r'⟩) hok I.bare
theorem Inv.call {g':Array GenState} {t':Nat} {d':Drawn} {ch:List Addr} (I:Inv X pins σ H s) (u:Un (frs X.stack) ch H H' s.heap h') (hok:Cm X.prog X.w H' h') (hg:AllBare g')
 (hch:∀ b∈ch,(b∈X.ex \/ X.s₀.heap.objs.size <= b)/\b≠X.env.locals/\(∀ x c,X.env.cells.lookup x=some c->c≠b)/\∀ p∈X.pn ++ pins,p.1≠b) :
 Inv X pins σ H' { s with heap:=h',gens:=g',drawn:=d',toks:=t' }:=by
 obtain ⟨m,⟨o,es,ep,ho,r⟩,_⟩:=id I.loc;obtain ⟨sl,hL⟩:=u.any ho I.free λz=>(hch _ z).2.1 rfl
 exact I.step (ch:=ch) hch (λb o hL hb hc e n=>u.keep b o e n (λz=>(List.mem_cons.mp (I.Nh b z)).elim hL hb) hc) (λb o _ _ hc e n=>u.any e n hc) (λb o hc e n=>u.free b o e n hc) (λb o hc e=>u.there b o e hc) u.tups u.Nf u.Qg (λm' hm=>by
  obtain ⟨o',es',ep',ho',r'⟩:=hm;rw [ho] at ho';cases ho';exact ⟨_,es',ep',hL,r'⟩) hok hg
theorem Inv.turned {t':Nat} {it:Addr} (I:Inv X pins σ H s) (k:∀ b o,b≠it->s.heap.get? b=some o->h'.get? b=some o) (hn:H it=none) (hL:it≠X.env.locals)
 (h1:it∈X.ex \/ X.s₀.heap.objs.size <= it) (h2:∀ x c,X.env.cells.lookup x=some c->c≠it) (h3:∀ p∈X.pn ++ pins,p.1≠it):Inv X pins σ H { s with heap:=h',toks:=t' }:=by
 have nit:∀ b u,H b=some u->b≠it:=λb u e z=>by rw [z,hn] at e;cases e
 refine I.step (g':=s.gens) (d':=s.drawn) (ch:=[it]) (λb hb=>?_) (λb o _ _ hc e _=>k b o (λz=>hc (by simp [z])) e) (λb o _ _ hc e _=>⟨o.slots,k b o (λz=>hc (by simp [z])) e⟩) (λ_ _ _ _ n=>n)
  (λb o hc e=>⟨o,k b o (λz=>hc (by simp [z])) e⟩) (λ_ _ e=>e) (λ_ _ _ e=>e) (λb ps e=>⟨#[],by rw [e];simp⟩) (λm hm=>?_) (λb u e=>?_) I.bare
 . have e:b=it:=by simpa using hb
   subst e;exact ⟨h1,hL,h2,h3⟩
 . obtain ⟨o,es,ep,ho,r⟩:=hm
   exact ⟨o,es,ep,k _ o (Ne.symm hL) ho,r⟩
 . refine (I.hok b u e).stay (λc v hc q=>k c v ?_ q) (λ_ q=>q) λ_ _ q=>q
   rcases hc with z | z
   . rw [z];exact nit b u e
   . exact nit c _ z
theorem Inv.tok (I:Inv X pins σ H s) (t:Nat):Inv X pins σ H { s with toks:=t }:=I.un (h':=s.heap) (t':=t) Un.refl I.hok
theorem Inv.kept {t':Nat} (I:Inv X pins σ H s) (k:∀ b u,s.heap.get? b=some u->h'.get? b=some u):Inv X pins σ H { s with heap:=h',toks:=t' }:=I.un (Un.kept k) (I.hok.kept k)
theorem Inv.laid {a:Addr} {o:HO} {t':Nat} (I:Inv X pins σ H s) (k:∀ b u,s.heap.get? b=some u->h'.get? b=some u) (hp:s.heap.objs.size <= a) (new:iw X.prog X.w (upd H a o) h' a o) :
 Inv X pins σ (upd H a o) { s with heap:=h',toks:=t' }:=I.un (Un.laid k hp (I.hok.fresh hp)) (I.hok.laid k hp new)
theorem Inv.write {x e:Addr} {o:HO} {t':Nat} (I:Inv X pins σ H s) (mu:Mut (H x)) (he:e=x \/ H e=some (.own x)) (k:∀ b u,b≠e->s.heap.get? b=some u->h'.get? b=some u) (heo:∃ u,h'.get? e=some u)
 (new:iw X.prog X.w (upd H x o) h' x o):Inv X pins σ (upd H x o) { s with heap:=h',toks:=t' }:=I.un (Un.write mu he k heo) (I.hok.write mu he k heo new)
theorem Inv.weak {σ':List (Option V)} (I:Inv X pins σ H s) (hl:σ'.length=σ.length) (w:∀ (i:Nat) v,σ'[i]?=some (some v)->σ[i]?=some (some v)):Inv X pins σ' H s :=
 ⟨I.ok,I.os,I.bare,I.base,let ⟨m,hn,hl'⟩:=I.loc;⟨m,hn,λi x v e1 e2 e3=>hl' i x v e1 (w i v e2) e3⟩,I.cell,I.free,I.Aj,I.pin,I.hok,hl.trans I.len⟩
theorem Inv.Eb {Qh:List (Addr×Obj)} (I:Inv X pins σ H s) (h:∀ p∈Qh,s.heap.get? p.1=some p.2/\H p.1=none/\p.1≠X.env.locals/\p.1 ∉ X.fs/\∀ v,p.2.data≠.cell v):Inv X Qh σ H s :=
 ⟨I.ok,I.os,I.bare,I.base,I.loc,I.cell,I.free,I.Aj,λp hp=>(List.mem_append.mp hp).elim (λz=>I.pin p (List.mem_append_left _ z)) (h p),I.hok,I.len⟩
theorem Qi {N:List Str} (hN:N.Nodup) {i j:Nat} {x:Str} (a:N[i]?=some x) (b:N[j]?=some x):i=j:=by obtain ⟨h1,e1⟩:=List.getElem?_eq_some_iff.mp a;obtain ⟨h2,e2⟩:=List.getElem?_eq_some_iff.mp b;exact (List.getElem_inj hN).mp (e1.trans e2.symm)
theorem Wz {M:Model} {A:Around} {E:Value->Shared->Prop} {i:Nat} {x:Str} {v:V} {u:Value} {Q:Unit->Shared->Prop} (I:Inv X pins σ H s) (hN:X.N.Nodup) (hi:X.N[i]?=some x) (hx:Loc X.env.scope x) (r:RelV v u)
 (h:∀ s',Inv X pins (σ.set i (some v)) H s'->(∃ a,Heap.SameBut a s.heap s'.heap/\(a=X.env.locals \/ X.env.cells.lookup x=some a))->Q () s') (hf:X.fn x=true \/ X.env.scope.names.lookup x=some .local:=by first | exact .inl rfl | exact .inr rfl | assumption):wpAny M A (storeName X.env x u) Q E s:=by
 obtain ⟨m,hn,hl⟩:=id I.loc;have hcls:(X.env.scope.kind == .class || (X.env.scope.kind == .module && X.env.locals != X.env.globals))=false:=by rw [I.ok.kind];rfl
 have hiσ:i < σ.length:=by rw [I.len];exact (List.getElem?_eq_some_iff.mp hi).1
 have cne:=I.cne;have tracked:∀ {a:Addr} {h':Heap},(∃ o,s.heap.get? a=some o/\H a=none)->Heap.SameBut a s.heap h'->Cm X.prog X.w H h':=fun {a h'} ha hs b ob e=>by
  obtain ⟨_,_,hfree⟩:=ha;refine (I.hok b ob e).stay (λc w' hc q=>(hs.2 c ?_).trans q) (λ_ q=>q) λ_ _ q=>q
  rintro rfl;rcases hc with rfl | hc
  . rw [hfree] at e;cases e
  . rw [hfree] at hc;cases hc
 rcases hx with hk | hk
 . refine wpAny_storeName_local hk hn (λh' hn' hs=>?_) hcls
   obtain ⟨oL,_,_,hoL,_⟩:=id hn;refine h _ ⟨I.ok,I.os,I.bare,⟨λb o e n hb hx=>?_,λb o e n hb hx=>?_,I.base.free,λb o e hx=>?_,I.base.tups,I.base.Nf,I.base.Qg⟩,⟨_,hn',λj y v' e1 e2 e3=>?_⟩,λy c e=>?_,I.free,I.Aj,λp hp=>?_,tracked ⟨oL,hoL,I.free⟩ hs,by simpa using I.len⟩ ⟨_,hs,.inl rfl⟩
   . exact (hs.2 b (Nat.ne_of_lt (Nat.lt_of_lt_of_le (Heap.lt_size e) I.ok.above))).trans (I.base.keep b o e n hb hx)
   . obtain ⟨sl,e1⟩:=I.base.slot b o e n hb hx
     exact ⟨sl,(hs.2 b (Nat.ne_of_lt (Nat.lt_of_lt_of_le (Heap.lt_size e) I.ok.above))).trans e1⟩
   . obtain ⟨o',e1⟩:=I.base.there b o e hx
     exact ⟨o',(hs.2 b (Nat.ne_of_lt (Nat.lt_of_lt_of_le (Heap.lt_size e) I.ok.above))).trans e1⟩
   . by_cases hj:j=i
     . subst hj
       rw [hi] at e1;cases e1;rw [List.getElem?_set_self hiσ] at e2;cases e2;exact ⟨u,r,.inl ⟨hk,by simp⟩⟩
     . rw [List.getElem?_set_ne (Ne.symm hj)] at e2
       obtain ⟨u',r',q⟩:=hl j y v' e1 e2 e3;refine ⟨u',r',?_⟩;rcases q with ⟨k,e⟩ | ⟨k,c,e,z⟩
       . refine .inl ⟨k,?_⟩
         have:y≠x:=λe=>hj (Qi hN e1 (e ▸ hi))
         simp [this,e]
       . exact .inr ⟨k,c,e,z.sameBut hs (cne y c e)⟩
   . obtain ⟨w',z⟩:=I.cell y c e
     exact ⟨w',z.sameBut hs (cne y c e)⟩
   . obtain ⟨e,n,ne,nf,d⟩:=I.pin p hp
     exact ⟨(hs.2 p.1 ne).trans e,n,ne,nf,d⟩
 . have hfn:X.fn x=true:=by
    rcases hf with z | z
    . exact z
    . rw [z] at hk;cases hk
   obtain ⟨c,hc⟩:=I.ok.has x (.inl hk);obtain ⟨w',z⟩:=I.cell x c hc;refine wpAny_storeName_cell I.ok.kind hk hc z (λh' hc' hs=>?_);obtain ⟨oc,hoc,asy⟩:=id z;refine h { s with heap:=h' } ⟨I.ok,I.os,I.bare,⟨λb o e n hb hx=>?_,λb o e n hb hx=>?_,I.base.free,λb o e hx=>?_,I.base.tups,I.base.Nf,I.base.Qg⟩,⟨m,hn.sameBut hs (Ne.symm (cne x c hc)),λj y v' e1 e2 e3=>?_⟩,λy c' e=>?_,I.free,I.Aj,λp hp=>?_,tracked ⟨oc,hoc,I.Aj x c hc⟩ hs,by simpa using I.len⟩ ⟨c,hs,.inr hc⟩
   . exact (hs.2 b (Nat.ne_of_lt (Nat.lt_of_lt_of_le (Heap.lt_size e) (I.ok.cab x c hfn hc)))).trans (I.base.keep b o e n hb hx)
   . obtain ⟨sl,e1⟩:=I.base.slot b o e n hb hx
     exact ⟨sl,(hs.2 b (Nat.ne_of_lt (Nat.lt_of_lt_of_le (Heap.lt_size e) (I.ok.cab x c hfn hc)))).trans e1⟩
   . obtain ⟨o',e1⟩:=I.base.there b o e hx
     exact ⟨o',(hs.2 b (Nat.ne_of_lt (Nat.lt_of_lt_of_le (Heap.lt_size e) (I.ok.cab x c hfn hc)))).trans e1⟩
   . by_cases hj:j=i
     . subst hj
       rw [hi] at e1;cases e1;rw [List.getElem?_set_self hiσ] at e2;cases e2;exact ⟨u,r,.inr ⟨.inl hk,c,hc,hc'⟩⟩
     . rw [List.getElem?_set_ne (Ne.symm hj)] at e2
       obtain ⟨u',r',q⟩:=hl j y v' e1 e2 e3;refine ⟨u',r',?_⟩;rcases q with q | ⟨k,c',e,z'⟩
       . exact .inl q
       . refine .inr ⟨k,c',e,z'.sameBut hs ?_⟩
         rintro rfl;exact hj (Qi hN e1 (I.ok.inj _ _ _ e hc ▸ hi))
   . by_cases hcc:c'=c
     . subst hcc;exact ⟨_,hc'⟩
     . obtain ⟨w2,z2⟩:=I.cell y c' e
       exact ⟨w2,z2.sameBut hs hcc⟩
   . obtain ⟨e,n,ne,nf,d⟩:=I.pin p hp
     refine ⟨(hs.2 p.1 ?_).trans e,n,ne,nf,d⟩;intro q;rw [q,hoc] at e;have q':oc=p.2:=Option.some.inj e;exact d w' (by rw [<- q'];exact asy)
theorem Y5 {M:Model} {A:Around} {E:Value->Shared->Prop} {i:Nat} {x:Str} {v:V} {u:Value} {Q:Unit->Shared->Prop} (I:Inv X pins σ H s) (hN:X.N.Nodup) (hi:X.N[i]?=some x) (hx:Loc X.env.scope x) (r:RelV v u)
 (h:∀ s',Inv X pins (σ.set i (some v)) H s'->Q () s') (hf:X.fn x=true \/ X.env.scope.names.lookup x=some .local:=by first | exact .inl rfl | exact .inr rfl | assumption):wpAny M A (storeName X.env x u) Q E s :=
 Wz I hN hi hx r (λs' I' _=>h s' I') hf
theorem Inv.call' {s':Shared} {ch:List Addr} (I:Inv X pins σ H s) (ho:s'.os=s.os) (u:Un (frs X.stack) ch H H' s.heap s'.heap) (hok:Cm X.prog X.w H' s'.heap) (hg:AllBare s'.gens)
 (hch:∀ b∈ch,(b∈X.ex \/ X.s₀.heap.objs.size <= b)/\b≠X.env.locals/\(∀ x c,X.env.cells.lookup x=some c->c≠b)/\∀ p∈X.pn ++ pins,p.1≠b):Inv X pins σ H' s':=by
 obtain ⟨h',g',d',t',o'⟩:=s';have e:o'=s.os:=ho;subst e;exact I.call (g':=g') (t':=t') (d':=d') u hok hg hch
end
abbrev XK:=Value->Option Addr->Hp->Prop
abbrev St:=List (Option V)
abbrev VK:=V->Hp->Prop
abbrev TE:=St->Hp->VK->Prop
abbrev TT:=St->Hp->(Bool->Hp->Prop)->Prop
abbrev TA:=St->Hp->(List V->Hp->Prop)->Prop
structure Ends where
 nx:St->Hp->Prop
 rt:VK
 bk:St->Hp->Prop:=λ_ _=>False
 ct:St->Hp->Prop:=λ_ _=>False
abbrev TS:=Ends->St->Hp->Prop
def EP (X:Cx) (pins:List (Addr×Obj)) (σ:St) (Q:VK) (u:Value) (s':Shared):Prop:=∃ v H',Inv X pins σ H' s'/\RelV v u/\Q v H'
def TP (X:Cx) (pins:List (Addr×Obj)) (σ:St) (Q:Bool->Hp->Prop) (b:Bool) (s':Shared):Prop:=∃ H',Inv X pins σ H' s'/\Q b H'
def AP (X:Cx) (pins:List (Addr×Obj)) (σ:St) (Q:List V->Hp->Prop) (us:List Value) (s':Shared):Prop:=∃ vs H',Inv X pins σ H' s'/\Vals vs us/\Q vs H'
def SP (X:Cx) (pins:List (Addr×Obj)) (D:Ends) (f:Flow) (s':Shared):Prop :=
 match f with
 | .next=>∃ σ' H',Inv X pins σ' H' s'/\D.nx σ' H'|.brk=>∃ σ' H',Inv X pins σ' H' s'/\D.bk σ' H'|.cont=>∃ σ' H',Inv X pins σ' H' s'/\D.ct σ' H'|.ret u=>∃ v σ' H',Inv X pins σ' H' s'/\RelV v u/\D.rt v H'
def PE (X:Cx) (e:Expr) (t:TE):Prop :=
 ∀ (pins:List (Addr×Obj)) (s:Shared) (σ:St) (H:Hp) (Q:VK),Inv X pins σ H s->t σ H Q->wpAny (model X.prog X.w) X.A (eval e X.env) (EP X pins σ Q) X.xe s
def PT (X:Cx) (e:Expr) (t:TT):Prop :=
 ∀ (pins:List (Addr×Obj)) (s:Shared) (σ:St) (H:Hp) (Q:Bool->Hp->Prop),Inv X pins σ H s->t σ H Q->wpAny (model X.prog X.w) X.A (isTrue e X.env (eval e X.env)) (TP X pins σ Q) X.xe s
def PW (X:Cx) (e:Expr) (t:TT):Prop :=
 ∀ (whole:Sem Value) (pins:List (Addr×Obj)) (s:Shared) (σ:St) (H:Hp) (Q:Bool->Hp->Prop),Inv X pins σ H s->t σ H Q->wpAny (model X.prog X.w) X.A (isTrue e X.env whole) (TP X pins σ Q) X.xe s
theorem PW.pt {X:Cx} {e:Expr} {t:TT} (h:PW X e t):PT X e t:=h _
def PA (X:Cx) (es:List Expr) (t:TA):Prop :=
 ∀ (pos:Pos) (pins:List (Addr×Obj)) (s:Shared) (σ:St) (H:Hp) (Q:List V->Hp->Prop),Inv X pins σ H s->t σ H Q->wpAny (model X.prog X.w) X.A (spliced (backTo pos (starEach es X.env))) (AP X pins σ Q) X.xe s
def PS (X:Cx) (st:Stmt) (t:TS):Prop :=
 ∀ (pins:List (Addr×Obj)) (s:Shared) (σ:St) (H:Hp) (D:Ends),Inv X pins σ H s->t D σ H->wpAny (model X.prog X.w) X.A (exec st X.env) (SP X pins D) X.xe s
def Ec (X:Cx) (st:List Stmt) (t:TS):Prop :=
 ∀ (pins:List (Addr×Obj)) (s:Shared) (σ:St) (H:Hp) (D:Ends),Inv X pins σ H s->t D σ H->wpAny (model X.prog X.w) X.A (execs st X.env) (SP X pins D) X.xe s
theorem jb {α:Type} {t:Sem α} {Q Q':α->Shared->Prop} {M:Model} {A:Around} {E:Value->Shared->Prop} {s:Shared} (h:wpAny M A t Q E s) (hQ:∀ a s,Q a s->Q' a s):wpAny M A t Q' E s:=wpAny_mono h hQ λ_ _ x=>x
end L2
namespace L2
open PySem PySem.Spec PyProof.Rows
section
variable {X:Cx}
def asz (i:Nat):TE:=fun σ H Q=>∃ v,σ[i]?=some (some v)/\Q v H
def tC (v:V):TE:=λ_ H Q=>Q v H
theorem aib {i:Nat} {x:Str} {pos:Pos} (hN:X.N[i]?=some x) (hv:Vis X.env.scope x) (hd:(x == ("__debug__" : Str))=false:=by decide) (hcd:(x == ("__classdict__" : Str))=false:=by decide):PE X (.Name x pos) (asz i):=by
 intro pins s σ H Q I h;obtain ⟨v,e,h⟩:=h;obtain ⟨m,hn,hl⟩:=I.loc;obtain ⟨u,r,l⟩:=hl i x v hN e hv;have fin:EP X pins σ Q u s:=⟨v,H,I,r,h⟩;rcases l with ⟨hk,hm⟩ | ⟨hk,c,hc,hcell⟩
 . exact wpAny_Name (wpAny_loadName_local I.ok.kind hk hn hm fin) hd
 . rcases hk with hk | hk
   . exact wpAny_Name (wpAny_loadName_cell I.ok.kind hk hc hcell fin) hd
   . exact wpAny_Name (wpAny_loadName_free I.ok.kind hk hc hcell fin hcd) hd
theorem aic {i j pos}:PE X (.Constant (.int i) j pos) (tC (.int i)):=λ_ _ _ H _ I h=>wpAny_Constant_int ⟨.int i,H,I.tok _,⟨_,rfl⟩,h⟩
theorem amw {b j pos}:PE X (.Constant (.bool b) j pos) (tC (.bl b)):=λ_ _ _ H _ I h=>Constant_bool ⟨.bl b,H,I,rfl,h⟩
theorem aid {j pos}:PE X (.Constant .none j pos) (tC .non):=λ_ _ _ H _ I h=>Constant_none ⟨.non,H,I,rfl,h⟩
theorem aie {x j pos}:PE X (.Constant (.str x) j pos) (tC (.str x)):=λ_ _ _ H _ I h=>Calls.Constant_str ⟨.str x,H,I.tok _,⟨_,rfl⟩,h⟩
def Gl (X:Cx) (x:Str):Prop:=X.env.kindOf x=some .globalImplicit
theorem Ni {E:Value->Shared->Prop} {pins:List (Addr×Obj)} {s:Shared} {σ:St} {H:Hp} {x:Str} {u:Value} {pos:Pos} {Q:Value->Shared->Prop} (I:Inv X pins σ H s) (hg:Gl X x) (hm:X.mg x=some u) (h:Q u s)
 (hd:(x == ("__debug__" : Str))=false:=by decide):wpAny (model X.prog X.w) X.A (eval (.Name x pos) X.env) Q E s :=
 Calls.Name_function_global I.ok.kind hg (Calls.loadGlobal_global (by rw [I.ok.glob];exact I.mod.glob.keeps I.bk) hm h) hd
theorem j4 {E:Value->Shared->Prop} {pins:List (Addr×Obj)} {s:Shared} {σ:St} {H:Hp} {x:Str} {u:Value} {pos:Pos} {Q:Value->Shared->Prop} (I:Inv X pins σ H s) (hg:Gl X x) (hm:X.mg x=none) (hv:bootBuiltins x=some u) (h:Q u s)
 (hn:x ≠ "__name__" := by decide) (hd:(x == ("__debug__" : Str))=false:=by decide):wpAny (model X.prog X.w) X.A (eval (.Name x pos) X.env) Q E s:=by
 obtain ⟨mb,h1,h2⟩:=I.mod.blt;exact Calls.Name_function_global I.ok.kind hg (Calls.loadGlobal_builtin (by rw [I.ok.glob];exact I.mod.glob.keeps I.bk) hm (by rw [I.ok.blt];exact h1.keeps I.bk) ((h2 x hn).trans hv) h) hd
theorem adi {x:Str} {v:V} {u:Value} {pos:Pos} (hg:Gl X x) (hm:X.mg x=some u) (r:RelV v u) (hd:(x == ("__debug__" : Str))=false:=by decide):PE X (.Name x pos) (tC v) :=
 λ_ _ _ H _ I h=>Ni I hg hm ⟨v,H,I,r,h⟩ hd
variable {a b:Expr} {ta tb:TE} {pos:Pos}
def PC (X:Cx) (op:CmpOp) (a b:Expr) (t:TE):Prop :=
 ∀ (pins:List (Addr×Obj)) (s:Shared) (σ:St) (H:Hp) (Q:VK),Inv X pins σ H s->t σ H Q ->
  wpAny (model X.prog X.w) X.A (eval a X.env) (λv s₁=>wpAny (model X.prog X.w) X.A (eval b X.env) (λu s₂=>wpAny (model X.prog X.w) X.A (compareOp op v u) (EP X pins σ Q) X.xe s₂) X.xe s₁) X.xe s
theorem Qj (b:Expr) {op:CmpOp} (h:op≠.In) (h2:op≠.NotIn):behindInMarks op b=false:=by
 have e1:(op == CmpOp.In)=false:=by cases op<;>first | rfl | exact absurd rfl h
 have e2:(op == CmpOp.NotIn)=false:=by cases op<;>first | rfl | exact absurd rfl h2
 cases b<;>simp [behindInMarks,e1,e2]
def tB (t:TE):TT:=fun σ H Q=>t σ H λx H1=>∃ c,x=.bl c/\Q c H1
theorem aif {op:CmpOp} {t:TE} (h:PC X op a b t) (h1:behindInMarks op b=false:=by first | exact Qj _ (by decide) (by decide) | rfl):PE X (.Compare a [op] [b] pos) t:=λpins s σ H Q I hw=>wpAny_Compare1 (h pins s σ H Q I hw) h1
theorem aih {op:CmpOp} {t:TE} (h:PC X op a b t) (h1:behindInMarks op b=false:=by first | exact Qj _ (by decide) (by decide) | rfl):PT X (.Compare a [op] [b] pos) (tB t):=by intro pins s σ H Q I hw;refine wpAny_isTrue_Compare1 (jb (h pins s σ H _ I hw) λv s1 h1=>jb h1 λu s2 h2=>jb h2 λc s3 ⟨x,H1,I1,r1,q1⟩=>?_) h1;obtain ⟨d,rfl,q⟩:=q1;cases r1;exact wpAny_truthy_bool ⟨H1,I1,q⟩
theorem aii {e:Expr} {t:TE} (h:PE X e t) (he:∀ whole,isTrue e X.env whole=(do let v <- whole;standAt e.pos;holding [v] (truthy v)):=by intro _;rfl):PT X e (tB t):=by intro pins s σ H Q I hw;refine isTrue_plain (jb (h pins s σ H _ I hw) λv s1 ⟨x,H1,I1,r1,q1⟩=>?_) (he _);obtain ⟨d,rfl,q⟩:=q1;cases r1;exact wpAny_truthy_bool ⟨H1,I1,q⟩
variable {tA tB':TT} {rest:List Expr}
def as3 (t u:TT):TT:=fun σ H Q=>t σ H λc H1=>if c=true then u σ H1 Q else Q false H1
def tOr (t u:TT):TT:=fun σ H Q=>t σ H λc H1=>if c=true then Q true H1 else u σ H1 Q
def as4 (t:TT):TT:=fun σ H Q=>t σ H λc H1=>Q (!c) H1
theorem adk (ha:PT X a tA):PW X (.BoolOp .And [a] pos) tA:=by
 intro wh pins s σ H Q I h;refine isTrue_and (jb (ha pins s σ H Q I h) λc s1 e=>?_);cases c with
 | true=>exact isTrue_and_nil e|false=>exact e
theorem aij (ha:PT X a tA):PW X (.BoolOp .Or [a] pos) tA:=by
 intro wh pins s σ H Q I h;refine isTrue_or (jb (ha pins s σ H Q I h) λc s1 e=>?_);cases c with
 | false=>exact isTrue_or_nil e|true=>exact e
theorem aik (ha:PT X a tA) (hb:PW X (.BoolOp .And (b :: rest) pos) tB'):PW X (.BoolOp .And (a :: b :: rest) pos) (as3 tA tB'):=by
 intro wh pins s σ H Q I h;refine isTrue_and (jb (ha pins s σ H _ I h) λc s1 ⟨H1,I1,q1⟩=>?_);cases c with
 | true=>exact hb wh pins s1 σ H1 Q I1 q1|false=>exact ⟨H1,I1,q1⟩
theorem amx (ha:PT X a tA) (hb:PW X (.BoolOp .Or (b :: rest) pos) tB'):PW X (.BoolOp .Or (a :: b :: rest) pos) (tOr tA tB'):=by
 intro wh pins s σ H Q I h;refine isTrue_or (jb (ha pins s σ H _ I h) λc s1 ⟨H1,I1,q1⟩=>?_);cases c with
 | true=>exact ⟨H1,I1,q1⟩|false=>exact hb wh pins s1 σ H1 Q I1 q1
theorem ail (ha:PT X a tA):PT X (.UnaryOp .Not a pos) (as4 tA):=by intro pins s σ H Q I h;exact isTrue_not (ha pins s σ H (λc H1=>Q (!c) H1) I h)
def amy (ta tb:TE):TE:=fun σ H Q=>ta σ H λx H1=>∃ c,x=.bl c/\if c=true then tb σ H1 Q else Q (.bl false) H1
def as5 (ta tb:TE):TE:=fun σ H Q=>ta σ H λx H1=>∃ c,x=.bl c/\if c=true then Q (.bl true) H1 else tb σ H1 Q
def amz (ta:TE):TE:=fun σ H Q=>ta σ H λx H1=>∃ c,x=.bl c/\Q (.bl (!c)) H1
theorem aim (ha:PE X a ta) (hb:PE X (.BoolOp .And (b :: rest) pos) tb):PE X (.BoolOp .And (a :: b :: rest) pos) (amy ta tb):=by
 intro pins s σ H Q I h;refine BoolOp_and (jb (ha pins s σ H _ I h) λv s1 ⟨x,H1,I1,r1,q1⟩=>?_);obtain ⟨c,rfl,q1⟩:=q1;cases r1;refine wpAny_truthy_bool ?_;cases c with
 | true=>exact hb pins s1 σ H1 Q I1 q1|false=>exact ⟨.bl false,H1,I1,rfl,q1⟩
theorem am0 (ha:PE X a ta) (hb:PE X (.BoolOp .Or (b :: rest) pos) tb):PE X (.BoolOp .Or (a :: b :: rest) pos) (as5 ta tb):=by
 intro pins s σ H Q I h;refine BoolOp_or (jb (ha pins s σ H _ I h) λv s1 ⟨x,H1,I1,r1,q1⟩=>?_);obtain ⟨c,rfl,q1⟩:=q1;cases r1;refine wpAny_truthy_bool ?_;cases c with
 | false=>exact hb pins s1 σ H1 Q I1 q1|true=>exact ⟨.bl true,H1,I1,rfl,q1⟩
theorem ain (ha:PE X a ta):PE X (.UnaryOp .Not a pos) (amz ta):=by intro pins s σ H Q I h;refine UnaryOp_ (jb (ha pins s σ H _ I h) λv s1 ⟨x,H1,I1,r1,q1⟩=>?_);obtain ⟨c,rfl,q1⟩:=q1;cases r1;exact not_of (wpAny_truthy_bool ⟨.bl (!c),H1,I1,rfl,q1⟩)
def tIf (t:TT) (ta tb:TE):TE:=fun σ H Q=>t σ H λc H1=>if c=true then ta σ H1 Q else tb σ H1 Q
theorem Y6 {c:Expr} (hc:PT X c tA) (ha:PE X a ta) (hb:PE X b tb):PE X (.IfExp c a b pos) (tIf tA ta tb):=by
 intro pins s σ H Q I h;refine wpAny_IfExp (jb (hc pins s σ H _ I h) λd s1 ⟨H1,I1,q1⟩=>?_);cases d with
 | true=>exact ha pins s1 σ H1 Q I1 q1|false=>exact hb pins s1 σ H1 Q I1 q1
end
end L2
namespace L2
open PySem PySem.Spec PyProof.Rows
def uh (K:Fg) (H:Hp) (a:Addr) (xs:List V):Prop :=
 Rd H a (.lst xs) \/
  ∃ (o:Obj) (its:Array Value) (n:Nat),K.lookup a=some o/\o.cls=.type "list" /\ o.dict=none/\o.data=.seq its n/\its.size <= sizeLine/\Vals xs its.toList
def yt (K:Fg) (H:Hp) (a:Addr) (xs:List V):Prop :=
 Rd H a (.tup xs) \/
  ∃ (o:Obj) (its:Array Value) (n:Nat),K.lookup a=some o/\o.cls=.type "tuple" /\ o.data=.seq its n/\its.size <= sizeLine/\Vals xs its.toList
def as6:Value->Option V
 | .none=>some .non|.bool b=>some (.bl b)|.int i _=>some (.int i)|.str x _=>some (.str x)|.bytes b _=>some (.Yu b)|.float b _=>some (.flt b)|.ref a=>some (.ref a)|.type n=>some (.ty n)|_=>none
theorem RelV.abs {x:V} {u:Value} (r:RelV x u):as6 u=some x:=by
 cases x with
 | non=>cases r;rfl|bl _=>cases r;rfl|int _=>obtain ⟨t,rfl⟩:=r;rfl
 | str _=>obtain ⟨t,rfl⟩:=r;rfl
 | Yu _=>obtain ⟨t,rfl⟩:=r;rfl
 | flt _=>obtain ⟨t,rfl⟩:=r;rfl
 | ref _=>cases r;rfl|ty _=>cases r;rfl
theorem RelV.inj {x y:V} {u:Value} (r:RelV x u) (q:RelV y u):x=y:=Option.some.inj (r.abs.symm.trans q.abs)
theorem Vals.inj:∀ {xs ys:List V} {us:List Value},Vals xs us->Vals ys us->xs=ys
 | _,_,_,.nil,.nil=>rfl|_,_,_,.cons r t,.cons r' t'=>by rw [r.inj r',Vals.inj t t']
section
variable {X:Cx} {pins:List (Addr×Obj)} {σ:St} {H:Hp} {s:Shared} {a:Addr} {xs ys:List V}
theorem uh.of {K:Fg} (h:H a=some (.lst xs)):uh K H a xs:=.inl (.inl h)
theorem yt.of {K:Fg} (h:H a=some (.tup xs)):yt K H a xs:=.inl (.inl h)
theorem Inv.list (I:Inv X pins σ H s) (h:uh X.K H a xs):∃ its:List Value,Vals xs its/\PlainL s.heap a its.toArray/\xs.length <= sizeLine:=by
 rcases h with h | ⟨o,its,n,hk,hc,hd,hs,hz,r⟩
 . obtain ⟨z,its,n,r,e⟩:=h.ok I.hok
   exact ⟨its,r,⟨_,n,e,rfl,rfl,rfl⟩,z⟩
 . refine ⟨its.toList,r,⟨o,n,I.Df a o hk,hc,hd,by simpa using hs⟩,?_⟩
   have e:=r.length;simp only [Array.length_toList] at e;omega
theorem Inv.tuple (I:Inv X pins σ H s) (h:yt X.K H a xs):∃ its:List Value,Vals xs its/\IsTup s.heap a its.toArray/\xs.length <= sizeLine:=by
 rcases h with h | ⟨o,its,n,hk,hc,hs,hz,r⟩
 . obtain ⟨z,its,r,p⟩:=h.ok I.hok
   exact ⟨its,r,p,z⟩
 . refine ⟨its.toList,r,⟨o,I.Df a o hk,hc,n,by simpa using hs⟩,?_⟩
   have e:=r.length;simp only [Array.length_toList] at e;omega
theorem Inv.Qk (I:Inv X pins σ H s) (h:uh X.K H a xs) (h':uh X.K H a ys):xs=ys:=by
 obtain ⟨its,r,⟨o,n,e,_,_,d⟩,_⟩:=I.list h;obtain ⟨its',r',⟨o',n',e',_,_,d'⟩,_⟩:=I.list h';rw [e] at e';cases e';rw [d] at d';injection d' with d1 _
 have:its=its':=by simpa using congrArg Array.toList d1
 subst this;exact r.inj r'
theorem Inv.La (I:Inv X pins σ H s) (h:yt X.K H a xs) (h':yt X.K H a ys):xs=ys:=by
 obtain ⟨its,r,⟨o,e,_,n,d⟩,_⟩:=I.tuple h;obtain ⟨its',r',⟨o',e',_,n',d'⟩,_⟩:=I.tuple h';rw [e] at e';cases e';rw [d] at d';injection d' with d1 _
 have:its=its':=by simpa using congrArg Array.toList d1
 subst this;exact r.inj r'
end
abbrev Cx.wish (X:Cx) (E:Value->Shared->Prop):Cx:={ X with xe:=E }
abbrev Cx.nox (X:Cx):Cx:=X.wish λ_ _=>False
theorem Cx.Ok.wish {X:Cx} (ok:X.Ok) (E:Value->Shared->Prop):(X.wish E).Ok :=
 ⟨ok.mod,ok.kind,ok.glob,ok.blt,ok.above,ok.inj,ok.has,ok.cab,ok.hd,ok.frames,ok.stk,ok.exf,ok.bs,ok.bsz,ok.Y0,ok.adh,ok.Hv,ok.frf⟩
theorem Cx.Ok.Ak {X:Cx} {E:Value->Shared->Prop} (ok:(X.wish E).Ok):X.Ok :=
 ⟨ok.mod,ok.kind,ok.glob,ok.blt,ok.above,ok.inj,ok.has,ok.cab,ok.hd,ok.frames,ok.stk,ok.exf,ok.bs,ok.bsz,ok.Y0,ok.adh,ok.Hv,ok.frf⟩
section
variable {X:Cx} {pins:List (Addr×Obj)} {σ:St} {H:Hp} {s:Shared} {E:Value->Shared->Prop}
theorem Inv.wish (I:Inv X pins σ H s) (E:Value->Shared->Prop):Inv (X.wish E) pins σ H s:=⟨I.ok.wish E,I.os,I.bare,I.base,I.loc,I.cell,I.free,I.Aj,I.pin,I.hok,I.len⟩
theorem Inv.Ak (I:Inv (X.wish E) pins σ H s):Inv X pins σ H s:=⟨I.ok.Ak,I.os,I.bare,I.base,I.loc,I.cell,I.free,I.Aj,I.pin,I.hok,I.len⟩
theorem SP.Ak {D:Ends} {f:Flow} {s':Shared} (h:SP (X.wish E) pins D f s'):SP X pins D f s':=by
 cases f with
 | next=>obtain ⟨σ',H',I,q⟩:=h;exact ⟨σ',H',I.Ak,q⟩
 | brk=>obtain ⟨σ',H',I,q⟩:=h;exact ⟨σ',H',I.Ak,q⟩
 | cont=>obtain ⟨σ',H',I,q⟩:=h;exact ⟨σ',H',I.Ak,q⟩
 | ret u=>obtain ⟨v,σ',H',I,r,q⟩:=h;exact ⟨v,σ',H',I.Ak,r,q⟩
theorem Ec.nox {st:List Stmt} {t:TS} (h:Ec X.nox st t):Ec X st t:=λpins s σ H D I hw =>
 wpAny_mono (h pins s σ H D (I.wish _) hw) (λ_ _ q=>q.Ak) λ_ _ z=>False.elim z
end
section
variable {X:Cx} {st:Stmt} {rest:List Stmt} {t u:TS} {e:Expr} {te:TE} {pos:Pos}
def am2:TS:=λD σ H=>D.nx σ H
def as7 (t u:TS):TS:=λD σ H=>t { D with nx:=u D } σ H
theorem adl:Ec X [] am2:=λ_ _ σ H _ I h=>wpAny_execs_nil ⟨σ,H,I,h⟩
theorem Y7 (h1:PS X st t) (h2:Ec X rest u):Ec X (st :: rest) (as7 t u):=by
 intro pins s σ H D I h;refine wpAny_execs_cons (jb (h1 pins s σ H { D with nx:=u D } I h) λf s1 q=>?_);cases f with
 | next =>
  obtain ⟨σ',H',I',q⟩:=q;exact h2 pins s1 σ' H' D I' q
 | ret v=>exact q|brk=>exact q|cont=>exact q
def am3:TS:=λD σ H=>D.ct σ H
theorem Ql:PS X (.Continue pos) am3:=λ_ _ σ H _ I h=>wpAny_Continue ⟨σ,H,I,h⟩
theorem Inv.quiet {pins:List (Addr×Obj)} {σ:St} {H:Hp} {s:Shared} (I:Inv X pins σ H s):interactive X.env=false:=by simp [interactive,I.ok.kind]
def am4 (te:TE):TS:=λD σ H=>te σ H λ_ H1=>D.nx σ H1
theorem adm (he:PE X e te) (hs:swapsWith e none pos.line X.env=pure false:=by rfl):PS X (.Expr e pos) (am4 te):=by intro pins s σ H D I h;exact wpAny_Expr_any (jb (he pins s σ H _ I h) λv s1 ⟨x,H1,I1,r1,q1⟩=>⟨σ,H1,I1,q1⟩) I.quiet hs
def as8 (te:TE):TS:=λD σ H=>te σ H D.rt
theorem aio (he:PE X e te):PS X (.Return (some e) pos) (as8 te):=by intro pins s σ H D I h;exact wpAny_Return_some (jb (he pins s σ H _ I h) λv s1 ⟨x,H1,I1,r1,q1⟩=>⟨x,σ,H1,I1,r1,q1⟩)
def as9 (c:TT) (t u:TS):TS:=λD σ H=>c σ H λb H1=>if b=true then t D σ H1 else u D σ H1
theorem am5 {c:Expr} {a b:List Stmt} {tc:TT} (hc:PT X c tc) (ha:Ec X a t) (hb:Ec X b u):PS X (.If c a b pos) (as9 tc t u):=by
 intro pins s σ H D I h;refine wpAny_If (jb (hc pins s σ H _ I h) λd s1 ⟨H1,I1,q1⟩=>?_);cases d with
 | true=>exact ha pins s1 σ H1 D I1 q1|false=>exact hb pins s1 σ H1 D I1 q1
end
abbrev TG:=V->St->Hp->(St->Hp->Prop)->Prop
abbrev TGs:=List V->St->Hp->(St->Hp->Prop)->Prop
def PG (X:Cx) (target:Expr) (t:TG):Prop :=
 ∀ (pins:List (Addr×Obj)) (s:Shared) (σ:St) (H:Hp) (v:V) (u:Value) (Q:St->Hp->Prop),Inv X pins σ H s->RelV v u->t v σ H Q ->
  wpAny (model X.prog X.w) X.A (assign target X.env u) (λ_ s'=>∃ σ' H',Inv X pins σ' H' s'/\Q σ' H') X.xe s
def PGs (X:Cx) (ts:List Expr) (t:TGs):Prop :=
 ∀ (pins:List (Addr×Obj)) (s:Shared) (σ:St) (H:Hp) (vs:List V) (us:List Value) (Q:St->Hp->Prop),Inv X pins σ H s->Vals vs us->t vs σ H Q ->
  wpAny (model X.prog X.w) X.A (assignInOrder ((assignEach ts X.env).map (·.2)) us) (λ_ s'=>∃ σ' H',Inv X pins σ' H' s'/\Q σ' H') X.xe s
abbrev adn:=V->V->V->Hp->(Hp->Prop)->Prop
def aiq (X:Cx) (t:adn):Prop :=
 ∀ (pins:List (Addr×Obj)) (s:Shared) (σ:St) (H:Hp) (o i v:V) (ov iv u:Value) (Q:Hp->Prop),Inv X pins σ H s->RelV o ov->RelV i iv->RelV v u->t o i v H Q ->
  wpAny (model X.prog X.w) X.A (setItem ov iv u) (λ_ s'=>∃ H',Inv X pins σ H' s'/\Q H') X.xe s
section
variable {X:Cx} {pos:Pos}
def Va (i:Nat):TG:=λv σ H Q=>Q (σ.set i (some v)) H
theorem Nj {i:Nat} {x:Str} (hN:X.N.Nodup) (hi:X.N[i]?=some x) (hx:Loc X.env.scope x) (hf:X.fn x=true \/ X.env.scope.names.lookup x=some .local:=by first | exact .inl rfl | exact .inr rfl | assumption):PG X (.Name x pos) (Va i):=by intro pins s σ H v u Q I r h;exact wpAny_assign_Name (Y5 I hN hi hx r (λs' I'=>⟨_,H,I',h⟩) hf)
def ata:TGs:=λvs σ H Q=>vs=[]/\Q σ H
def am7 (t:TG) (u:TGs):TGs:=λvs σ H Q=>∃ v r,vs=v :: r/\t v σ H fun σ' H'=>u r σ' H' Q
theorem ado:PGs X [] ata:=by intro pins s σ H vs us Q I r h;obtain ⟨e,h⟩:=h;subst e;cases r;exact assignInOrder_nil ⟨σ,H,I,h⟩
theorem Y8 {e:Expr} {es:List Expr} {t:TG} {u:TGs} (h1:PG X e t) (h2:PGs X es u)
 (hs:(assignEach (e :: es) X.env).map (·.2)=assign e X.env :: (assignEach es X.env).map (·.2):=by rfl):PGs X (e :: es) (am7 t u):=by
 intro pins s σ H vs us Q I r h;obtain ⟨v,vr,e1,h⟩:=h;subst e1;cases r with
 | cons r rr =>
  rw [hs];refine assignInOrder_cons (jb (h1 pins s σ H _ _ _ I r h) λ_ s1 ⟨σ1,H1,I1,q1⟩=>?_);exact h2 pins s1 σ1 H1 _ _ Q I1 rr q1
def atb (K:Fg) (n:Nat) (t:TGs):TG:=λv σ H Q=>∃ a xs,v=.ref a/\yt K H a xs/\xs.length=n/\t xs σ H Q
theorem air {es:List Expr} {k:Nat} {t:TGs} {n:Nat} (hc:X.calm=true) (h:PGs X es t)
 (hn:(assignEach es X.env).length=n:=by rfl) (hst:(assignEach es X.env).findIdx? (·.1)=none:=by rfl):PG X (.Tuple es k pos) (atb X.K n t):=by
 intro pins s σ H v u Q I r hw;obtain ⟨a,xs,e1,hq,hl,hw⟩:=hw;subst e1;cases r;obtain ⟨its,rv,ht,hz⟩:=I.tuple hq;refine assign_Tuple_tuple (I.ok.hd hc) ht (by simp [hn,<- hl,rv.length]) hst λh' hx=>?_
 have I1:Inv X pins σ H { s with heap:=h' }:=I.kept (t':=s.toks) λb o e=>hx b o (Nat.ne_of_lt (Heap.lt_size e)) e
 exact h pins _ σ H xs _ Q I1 (by simpa using rv) hw
def atc (to ti:TE) (t:adn):TG:=λv σ H Q=>to σ H λo H1=>ti σ H1 λi H2=>t o i v H2 λH3=>Q σ H3
theorem ais {o i:Expr} {to ti:TE} {t:adn} (ho:PE X o to) (hi:PE X i ti) (hs:aiq X t)
 (ha:∀ v,assign (.Subscript o i pos) X.env v=(do
  let ov <- holding [v] (eval o X.env)
  let iv <- holding [v,ov] (eval i X.env)
  standAt pos
  holding [v,ov,iv] (setItem ov iv v)
  release [v,ov,iv] []):=by intro _;rfl):PG X (.Subscript o i pos) (atc to ti t):=by
 intro pins s σ H v u Q I r h;rw [ha];refine wpAny_bind (wpAny_holding (jb (ho pins s σ H _ I h) λov s1 ⟨x,H1,I1,r1,q1⟩=>?_));refine wpAny_bind (wpAny_holding (jb (hi pins s1 σ H1 _ I1 q1) λiv s2 ⟨y,H2,I2,r2,q2⟩=>?_));refine wpAny_bind (wpAny_standAt (wpAny_bind (wpAny_holding (jb (hs pins s2 σ H2 x y v ov iv u _ I2 r1 r2 r q2) λ_ s3 ⟨H3,I3,q3⟩=>?_))));exact wpAny_release ⟨σ,H3,I3,q3⟩
def ait (te:TE) (g:TG):TS:=λD σ H=>te σ H λx H1=>g x σ H1 D.nx
theorem Y9 {tg e:Expr} {te:TE} {g:TG} (he:PE X e te) (hg:PG X tg g) (hs:swapsWithSole [tg] e pos.line X.env=pure false:=by rfl) (hw:swappedStores [tg] e X.env=pure none:=by rfl)
 (h1:(assignEach [tg] X.env).map (·.2)=[assign tg X.env]:=by rfl):PS X (.Assign [tg] e pos) (ait te g):=by
 intro pins s σ H D I h;refine wpAny_Assign_stores (jb (he pins s σ H _ I h) λv s1 ⟨x,H1,I1,r1,q1⟩=>?_) hs hw;rw [h1];exact jb (hg pins s1 σ H1 x v _ I1 r1 q1) λ_ s2 q=>q
end
section
variable {X:Cx} {pos:Pos}
def aiu (c:TT) (tb:TS):TS:=λD σ H=>∃ W:Nat->St->Hp->Prop,(∃ m,W m σ H)/\∀ m σ H,W m σ H ->
 c σ H λb H1=>if b=true then ∃ N:St->Hp->Prop,(∀ σ' H',N σ' H'->∃ m',m' < m/\W m' σ' H')/\tb { D with nx:=N,ct:=N,bk:=D.nx } σ H1 else D.nx σ H1
theorem Za {c:Expr} {body:List Stmt} {tc:TT} {tb:TS} (hp:PassesOwn (model X.prog X.w) X.A X.env X.xe) (hc:PT X c tc) (hb:Ec X body tb):PS X (.While c body [] pos) (aiu tc tb):=by
 intro pins s σ H D I h;obtain ⟨W,⟨m0,w0⟩,turn⟩:=h;refine wpAny_While (codeAny_whileLoop (λn s'=>∃ σ' H',Inv X pins σ' H' s'/\W n σ' H') ?_ m0 ⟨σ,H,I,w0⟩);rintro n s1 ⟨σ1,H1,I1,w1⟩;refine wpAny_passesOwn hp (jb (hc pins s1 σ1 H1 _ I1 (turn n σ1 H1 w1)) λb s2 ⟨H2,I2,q2⟩=>?_);cases b with
 | true =>
  obtain ⟨N,hN,q2⟩:=q2;rw [if_pos rfl];refine wpAny_passesOwn hp (jb (hb pins s2 σ1 H2 _ I2 q2) λf s3 q3=>?_);cases f with
  | next =>
   obtain ⟨σ3,H3,I3,n3⟩:=q3;obtain ⟨m',hm,w3⟩:=hN σ3 H3 n3;exact ⟨m',hm,σ3,H3,I3,w3⟩
  | cont =>
   obtain ⟨σ3,H3,I3,n3⟩:=q3;obtain ⟨m',hm,w3⟩:=hN σ3 H3 n3;exact ⟨m',hm,σ3,H3,I3,w3⟩
  | brk=>exact q3|ret v=>exact q3
 | false =>
  rw [if_neg Bool.false_ne_true];exact wpAny_execs_nil ⟨σ1,H2,I2,q2⟩
end
structure It where
 go:Nat->Hp->Prop
 yld:Nat->Hp->V->Hp->Prop
 stop:Nat->Hp->Prop
def Hw (X:Cx) (pins:List (Addr×Obj)) (H:Hp) (b:Addr):Prop :=
 H b=none/\b≠X.env.locals/\b ∉ X.fs/\(b∈X.ex \/ X.s₀.heap.objs.size <= b)/\(∀ x c,X.env.cells.lookup x=some c->c≠b)/\∀ p∈X.pn ++ pins,p.1≠b
theorem Inv.Zb {X:Cx} {pins:List (Addr×Obj)} {σ:St} {H H':Hp} {s:Shared} {b:Addr} (I:Inv X pins σ H s) (hb:s.heap.objs.size <= b) (hn:H' b=none):Hw X pins H' b:=by
 refine ⟨hn,Nat.ne_of_gt (Nat.lt_of_lt_of_le I.lt hb),I.ah9 hb,.inr (Nat.le_trans I.sz hb),λx c e z=>?_,λp hp z=>?_⟩
 . obtain ⟨v,q⟩:=I.cell x c e
   exact absurd (Nat.lt_of_lt_of_le q.lt (by rw [z];exact hb)) (Nat.lt_irrefl _)
 . exact absurd (Nat.lt_of_lt_of_le (Heap.lt_size (I.pin p hp).1) (by rw [z];exact hb)) (Nat.lt_irrefl _)
structure Turn (P:Program) (w:World) (K:Fg) (tg:Expr) (J:It) (fp:List Addr) (it:Addr) (tn:Nat->Heap->Prop):Prop where
 mem:it∈fp
 obj:∀ i h,tn i h->∀ b∈fp,∃ o,h.get? b=some o/\∀ v,o.data≠.cell v
 keep:∀ i h h',tn i h->(∀ b∈fp,∀ o,h.get? b=some o->h'.get? b=some o)->tn i h'
 item:∀ (X:Cx),X.prog=P->X.w=w->X.K=K->X.calm=true->∀ (i:Nat) (pins:List (Addr×Obj)) (s:Shared) (σ:St) (H:Hp) (E:Value->Shared->Prop),Inv X pins σ H s->(∀ b∈fp,Hw X pins H b)->tn i s.heap->J.go i H ->
  wpAny (model P w) X.A (pyNext (.ref it)) (λr s1=>∃ u,r=some u /\
   wpAny (model P w) X.A (letOwnedTupleGo tg (.ref it) u) (λ_ s2=>∃ x H',Inv X pins σ H' s2/\RelV x u/\J.yld i H x H'/\tn (i+1) s2.heap/\∀ b∈fp,H' b=none) E s1) E s
 done:∀ (X:Cx),X.prog=P->X.w=w->X.K=K->X.calm=true->∀ (i:Nat) (pins:List (Addr×Obj)) (s:Shared) (σ:St) (H:Hp) (E:Value->Shared->Prop),Inv X pins σ H s->(∀ b∈fp,Hw X pins H b)->tn i s.heap->J.stop i H ->
  wpAny (model P w) X.A (pyNext (.ref it)) (λr s1=>r=none/\Inv X pins σ H s1) E s
 self:∀ (A:Around) (i:Nat) (s:Shared) (Q:Value->Shared->Prop) (E:Value->Shared->Prop),tn i s.heap->Q (.ref it) s->wpAny (model P w) A (pyIter (.ref it)) Q E s
abbrev TI:=St->Hp->(It->Hp->Prop)->Prop
def PIE (X:Cx) (pins:List (Addr×Obj)) (σ:St) (tg:Expr) (R:It->Hp->Prop) (itv:Value) (s2:Shared):Prop :=
 ∃ (it:Addr) (fp:List Addr) (tn:Nat->Heap->Prop) (J:It) (H':Hp),itv=.ref it/\Inv X pins σ H' s2/\Turn X.prog X.w X.K tg J fp it tn/\tn 0 s2.heap/\(∀ b∈fp,Hw X pins H' b)/\R J H'
def PI (X:Cx) (tg iter:Expr) (wi:TI):Prop :=
 ∀ (pins:List (Addr×Obj)) (s:Shared) (σ:St) (H:Hp) (R:It->Hp->Prop),Inv X pins σ H s->wi σ H R ->
  wpAny (model X.prog X.w) X.A (eval iter X.env) (λv s1=>wpAny (model X.prog X.w) X.A (pyIter v) (PIE X pins σ tg R) X.xe s1) X.xe s
theorem Zc {M:Model} {A:Around} {E:Value->Shared->Prop} {s:Shared} {tg:Expr} {it:Addr} {u:Value} {o:Obj} {n:String} {vs:Array Value} {Q:Unit->Shared->Prop} (ho:s.heap.get? it=some o) (hc:o.cls=.type n) (hd:o.data=.fields vs)
 (hn:["enumerate", "zip", "dict_itemiterator", "dict_reverseitemiterator", "odict_iterator", "itertools.zip_longest", "itertools.pairwise"].contains n=false) (hQ:Q () s):wpAny M A (letOwnedTupleGo tg (.ref it) u) Q E s:=by
 unfold letOwnedTupleGo;cases tg<;>first
  | exact wpAny_pure hQ
  | (cases u<;>first
   | exact wpAny_pure hQ
   | (refine wpAny_bind (wpAny_load ho ?_)
      rw [hc,hd];show wpAny M A (if (["enumerate", "zip", "dict_itemiterator", "dict_reverseitemiterator", "odict_iterator", "itertools.zip_longest", "itertools.pairwise"].contains n && vs[0]? == some (rawInt _))=true then _ else _) Q E s;rw [if_neg (by intro h;rw [hn,Bool.false_and] at h;cases h)];exact wpAny_pure hQ))
def Itl (K:Fg) (a:Addr):It :=
 ⟨λi H=>∃ xs x,uh K H a xs/\xs[i]?=some x,λi H x H'=>H'=H/\∀ xs,uh K H a xs->xs[i]?=some x,λi H=>∃ xs,uh K H a xs/\xs.length <= i⟩
def Itt (K:Fg) (a:Addr):It :=
 ⟨λi H=>∃ xs x,yt K H a xs/\xs[i]?=some x,λi H x H'=>H'=H/\∀ xs,yt K H a xs->xs[i]?=some x,λi H=>∃ xs,yt K H a xs/\xs.length <= i⟩
def xg (lo:Int) (n:Nat):It:=⟨λi _=>i < n,λi H x H'=>H'=H/\x=.int (lo+i),λi _=>n <= i⟩
theorem W0 {P:Program} {w:World} {K:Fg} {tg:Expr} (a it:Addr):Turn P w K tg (Itl K a) [it] it (λi h=>h.IsListIter it a i) where
 mem:=by simp
 obj:=λi h st b hb=>by
  have e:b=it:=by simpa using hb
  subst e;obtain ⟨o,e,c,d⟩:=st;exact ⟨o,e,λv z=>by rw [d] at z;cases z⟩
 keep:=λi h h' st k=>st.at λo e=>k it (by simp) o e
 item:=by
  intro X hP hw hK hc i pins s σ H E I hf st hg;subst hP hw hK;obtain ⟨xs,x,hq,hx⟩:=hg;obtain ⟨its,rv,p,hz⟩:=I.list hq;obtain ⟨u,hu,ru⟩:=rv.get hx;obtain ⟨f0,f1,f2,f3,f4,f5⟩:=hf it (by simp);refine wpAny_pyNext_list_item st p.isList (x:=u) (by simpa using hu) λh' st' sb=>?_
  have I1:Inv X pins σ H { s with heap:=h' }:=I.turned (t':=s.toks) (λb o hb e=>(sb.2 b hb).trans e) f0 f1 f3 f4 f5;obtain ⟨o,e,c,d⟩:=id st';exact ⟨u,rfl,Zc (s:={ s with heap:=h' }) e c d (by decide) ⟨x,H,I1,ru,⟨rfl,λys hy=>by rw [I.Qk hy hq];exact hx⟩,st',λb hb=>(hf b hb).1⟩⟩
 done:=by intro X hP hw hK hc i pins s σ H E I hf st hg;subst hP hw hK;obtain ⟨xs,hq,hx⟩:=hg;obtain ⟨its,rv,p,hz⟩:=I.list hq;obtain ⟨f0,f1,f2,f3,f4,f5⟩:=hf it (by simp);have hl:=rv.length;exact wpAny_pyNext_list_end (I.ok.hd hc) st p.isList (by simp;omega) λh' eb=>⟨rfl,I.turned (t':=s.toks) (λb o hb e=>eb b o hb e) f0 f1 f3 f4 f5⟩
 self:=λ_ _ _ _ _ st h=>wpAny_pyIter_listiter st h
theorem Th {P:Program} {w:World} {K:Fg} {tg:Expr} (a it:Addr):Turn P w K tg (Itt K a) [it] it (λi h=>h.IsTupleIter it a i) where
 mem:=by simp
 obj:=λi h st b hb=>by
  have e:b=it:=by simpa using hb
  subst e;obtain ⟨o,e,c,d⟩:=st;exact ⟨o,e,λv z=>by rw [d] at z;cases z⟩
 keep:=λi h h' st k=>st.at λo e=>k it (by simp) o e
 item:=by
  intro X hP hw hK hc i pins s σ H E I hf st hg;subst hP hw hK;obtain ⟨xs,x,hq,hx⟩:=hg;obtain ⟨its,rv,p,hz⟩:=I.tuple hq;obtain ⟨u,hu,ru⟩:=rv.get hx;obtain ⟨f0,f1,f2,f3,f4,f5⟩:=hf it (by simp);refine wpAny_pyNext_tuple_item st (show s.heap.IsTuple a its.toArray from p) (x:=u) (by simpa using hu) λh' st' sb=>?_
  have I1:Inv X pins σ H { s with heap:=h' }:=I.turned (t':=s.toks) (λb o hb e=>(sb.2 b hb).trans e) f0 f1 f3 f4 f5;obtain ⟨o,e,c,d⟩:=id st';exact ⟨u,rfl,Zc (s:={ s with heap:=h' }) e c d (by decide) ⟨x,H,I1,ru,⟨rfl,λys hy=>by rw [I.La hy hq];exact hx⟩,st',λb hb=>(hf b hb).1⟩⟩
 done:=by intro X hP hw hK hc i pins s σ H E I hf st hg;subst hP hw hK;obtain ⟨xs,hq,hx⟩:=hg;obtain ⟨its,rv,p,hz⟩:=I.tuple hq;obtain ⟨f0,f1,f2,f3,f4,f5⟩:=hf it (by simp);have hl:=rv.length;exact wpAny_pyNext_tuple_end (I.ok.hd hc) st (show s.heap.IsTuple a its.toArray from p) (by simp;omega) λh' eb=>⟨rfl,I.turned (t':=s.toks) (λb o hb e=>eb b o hb e) f0 f1 f3 f4 f5⟩
 self:=λ_ _ _ _ _ st h=>wpAny_pyIter_tupleiter st h
theorem Ti {P:Program} {w:World} {K:Fg} {tg:Expr} (it:Addr) (lo:Int) (n:Nat):Turn P w K tg (xg lo n) [it] it (λi h=>IsRangeIter h it (lo+(i:Nat) * 1) ((n:Int) - (i:Nat)) 1) where
 mem:=by simp
 obj:=λi h st b hb=>by
  have e:b=it:=by simpa using hb
  subst e;exact ⟨_,st,λv z=>by
   have z':Data.fields _=Data.cell v:=z;cases z'⟩
 keep:=λi h h' st k=>k it (by simp) _ st
 item:=by
  intro X hP hw hK hc i pins s σ H E I hf st hg;subst hP hw hK;obtain ⟨f0,f1,f2,f3,f4,f5⟩:=hf it (by simp);have W:=Walks.range (prog:=X.prog) (w:=X.w) (I.ok.hd hc) it lo 1 n;refine W.item i s _ _ hg st λv h' tk hv st' kk=>?_
  obtain ⟨t,rfl⟩:=hv;have I1:Inv X pins σ H { s with heap:=h',toks:=tk }:=I.turned (λb o hb e=>kk b o (by simpa using hb) e) f0 f1 f3 f4 f5;refine ⟨_,rfl,Zc (s:={ s with heap:=h',toks:=tk }) (n := "range_iterator") st' rfl rfl (by decide) ⟨.int (lo+i),H,I1,⟨t,?_⟩,⟨rfl,rfl⟩,st',λb hb=>(hf b hb).1⟩⟩;rw [Int.mul_one]
 done:=by intro X hP hw hK hc i pins s σ H E I hf st hg;subst hP hw hK;obtain ⟨f0,f1,f2,f3,f4,f5⟩:=hf it (by simp);exact wpAny_pyNext_range_end (I.ok.hd hc) st (by have:n <= i:=hg;omega) λh' eb=>⟨rfl,I.turned (t':=s.toks) (λb o hb e=>eb b o hb e) f0 f1 f3 f4 f5⟩
 self:=λ_ _ _ _ _ st h=>wpAny_pyIter_rangeiter st h
end L2
namespace L2
open PySem PySem.Spec PyProof.Rows
section
variable {X:Cx} {tg:Expr}
theorem Zd {pins:List (Addr×Obj)} {σ:St} {H:Hp} {s:Shared} {R:It->Hp->Prop} {E:Value->Shared->Prop} {lo hi:Int} {t u v:Tok} {tk:Nat} (I:Inv X pins σ H s) (h1:-(2 ^ 62) <= lo) (h2:lo < 2 ^ 62) (h3:-(2 ^ 62) <= hi) (h4:hi < 2 ^ 62)
 (q:R (xg lo (hi - lo).toNat) H):wpAny (model X.prog X.w) X.A (pyIter (.ref s.heap.objs.size)) (PIE X pins σ tg R) E { s with heap:=s.heap.push { cls:=.type "range",data:=.fields #[.int lo t,.int hi u,.int 1 v] },toks:=tk }:=by
 refine wpAny_pyIter_range (IsRange.new ..) (small_one h1 h2 h3 h4) ?_;have I1:Inv X pins σ H { s with heap:=s.heap.push { cls:=.type "range",data:=.fields #[.int lo t,.int hi u,.int 1 v] },toks:=tk }:=I.kept λb o e=>Heap.get?_push_of_some _ e
 refine ⟨(s.heap.push { cls:=.type "range",data:=.fields #[.int lo t,.int hi u,.int 1 v] }).objs.size,[(s.heap.push { cls:=.type "range",data:=.fields #[.int lo t,.int hi u,.int 1 v] }).objs.size],_,_,H,rfl,
  I1.kept (t':=tk) λb o e=>Heap.get?_push_of_some _ e,Ti _ lo (hi - lo).toNat,?_,λb hb=>?_,q⟩
 . have e1:lo+((0:Nat):Int) * 1=lo:=by simp
   have e2:(((hi - lo).toNat:Nat):Int) - ((0:Nat):Int)=Builtin.Range.rangeSize lo hi 1:=by rw [rangeSize_one];split<;>omega
   show IsRangeIter _ _ (lo+((0:Nat):Int) * 1) ((((hi - lo).toNat:Nat):Int) - ((0:Nat):Int)) 1;rw [e1,e2];exact Heap.get?_push_size _ rfl
 . have e:b=(s.heap.push { cls:=.type "range",data:=.fields #[.int lo t,.int hi u,.int 1 v] }).objs.size:=by simpa using hb
   subst e;exact I1.Zb (Nat.le_refl _) (I1.hok.fresh (Nat.le_refl _))
def am9 (ta:TA):TI:=fun σ H R=>ta σ H λvs H1=>∃ j:Int,vs=[.int j]/\-(2 ^ 62) <= j/\j < 2 ^ 62/\R (xg 0 j.toNat) H1
theorem W2 {a:Expr} {ta:TA} {p pos:Pos} (hg:Gl X "range") (hm:X.mg "range" = none) (ha:PA X [a] ta) (hs:starEach [a] X.env=[(false,eval a X.env)]:=by rfl):PI X tg (.Call (.Name "range" p) [a] [] pos) (am9 ta):=by
 intro pins s σ H R I h;refine Call_ (j4 I hg hm boot_range (PyProof.Rows.callWith_type1 (jb (ha pos pins s σ H _ I h) λus s1 ⟨vs,H1,I1,r1,q1⟩=>?_) hs rfl));obtain ⟨j,e,q1,q2,q⟩:=q1;subst e;cases r1 with
 | cons r rr =>
  cases rr;obtain ⟨t,rfl⟩:=r;exact call_range_1 (Zd I1 (by omega) (by omega) q1 q2 (by simpa using q))
def ate (wi:TI) (g:TG) (tb:TS):TS:=λD σ H=>wi σ H λJ H1=>∃ W:Nat->Nat->St->Hp->Prop,(∃ m,W 0 m σ H1)/\∀ i m σ H,W i m σ H ->
 (J.stop i H/\D.nx σ H) \/ (J.go i H/\∃ N:St->Hp->Prop,(∀ σ' H',N σ' H'->∃ m',m' < m/\W (i+1) m' σ' H')/\∀ x H',J.yld i H x H'->g x σ H' fun σ2 H2=>tb { D with nx:=N,ct:=N,bk:=D.nx } σ2 H2)
def Gf (fp:List Addr) (h:Heap):List (Addr×Obj):=fp.filterMap λb=>(h.get? b).map λo=>(b,o)
theorem yu {fp:List Addr} {h:Heap} {b:Addr} {o:Obj} (hb:b∈fp) (e:h.get? b=some o):(b,o)∈Gf fp h:=List.mem_filterMap.mpr ⟨b,hb,by rw [e];rfl⟩
theorem W3 {fp:List Addr} {h:Heap} {p:Addr×Obj} (hp:p∈Gf fp h):p.1∈fp/\h.get? p.1=some p.2:=by
 obtain ⟨b,hb,e⟩:=List.mem_filterMap.mp hp;cases q:h.get? b with
 | none=>rw [q] at e;cases e
 | some o =>
  rw [q] at e;have e':(b,o)=p:=Option.some.inj e;subst e';exact ⟨hb,q⟩
theorem Inv.pinned {pins:List (Addr×Obj)} {σ:St} {H:Hp} {s:Shared} {fp:List Addr} (I:Inv X pins σ H s) (hf:∀ b∈fp,Hw X pins H b) (ho:∀ b∈fp,∃ o,s.heap.get? b=some o/\∀ v,o.data≠.cell v):Inv X (pins ++ Gf fp s.heap) σ H s :=
 I.Eb λp hp=>(List.mem_append.mp hp).elim (λz=>I.pin p (List.mem_append_right _ z)) λz=>by obtain ⟨hb,e⟩:=W3 z;obtain ⟨f0,f1,f2,_⟩:=hf p.1 hb;obtain ⟨o,e',d⟩:=ho p.1 hb;rw [e] at e';cases e';exact ⟨e,f0,f1,f2,d⟩
theorem Inv.Al {pins pl:List (Addr×Obj)} {σ:St} {H:Hp} {s:Shared} (I:Inv X (pins ++ pl) σ H s):Inv X pins σ H s:=I.Eb λp hp=>I.pin p (List.mem_append_right _ (List.mem_append_left _ hp))
theorem aiv {iter:Expr} {body:List Stmt} {wi:TI} {g:TG} {tb:TS} {pos:Pos} (hp:PassesOwn (model X.prog X.w) X.A X.env X.xe) (hc:X.calm=true) (hi:PI X tg iter wi) (hg:PG X tg g) (hb:Ec X body tb)
 (hs:∀ x,foldedSetIterable iter X.env x=pure x:=by intro _;rfl):PS X (.For tg iter body [] pos) (ate wi g tb):=by
 intro pins s σ H D I h;refine wpAny_For (jb (hi pins s σ H _ I h) λv s1 h1=>jb h1 λitv s2 h2=>?_) hs;obtain ⟨it,fp,tn,J,H2,e,I2,T,st2,f2,W,⟨m0,w0⟩,turn⟩:=h2;subst e;have stat:∀ {H':Hp},(∀ b∈fp,H' b=none)->∀ b∈fp,Hw X pins H' b:=λhn b hb=>⟨hn b hb,(f2 b hb).2⟩
 refine codeAny_forLoop_any (λn s'=>∃ i σ' H',Inv X pins σ' H' s'/\tn i s'.heap/\(∀ b∈fp,H' b=none)/\W i n σ' H') ?_ m0 ⟨0,σ,H2,I2,st2,λb hb=>(f2 b hb).1,w0⟩;rintro n s3 ⟨i,σ3,H3,I3,st3,fr3,w3⟩;rcases turn i n σ3 H3 w3 with ⟨stop,qn⟩ | ⟨go,N,hN,step⟩
 . refine wpAny_passesOwn hp (jb (T.done X rfl rfl rfl hc i pins s3 σ3 H3 X.xe I3 (stat fr3) st3 stop) λr s4 ⟨hr,I4⟩=>?_)
   subst hr;exact wpAny_execs_nil ⟨σ3,H3,I4,qn⟩
 . refine wpAny_passesOwn hp (jb (T.item X rfl rfl rfl hc i pins s3 σ3 H3 X.xe I3 (stat fr3) st3 go) λr s4 ⟨u,hr,h4⟩=>?_)
   subst hr;refine wpAny_passesOwn hp (jb h4 λ_ s5 ⟨x,H5,I5,r5,y5,st5,fr5⟩=>?_);have I5':=I5.pinned (stat fr5) (T.obj _ _ st5);refine wpAny_passesOwn hp (jb (hg _ s5 σ3 H5 x u _ I5' r5 (step x H5 y5)) λ_ s6 ⟨σ6,H6,I6,q6⟩=>?_);refine wpAny_passesOwn hp (jb (hb _ s6 σ6 H6 _ I6 q6) λf s7 q7=>?_);have again:∀ {σ7:St} {H7:Hp},Inv X (pins ++ Gf fp s5.heap) σ7 H7 s7->N σ7 H7->∃ m,m < n/\∃ i σ' H',Inv X pins σ' H' s7/\tn i s7.heap/\(∀ b∈fp,H' b=none)/\W i m σ' H':=fun {σ7 H7} I7 n7=>by obtain ⟨m',hm,w7⟩:=hN σ7 H7 n7;refine ⟨m',hm,i+1,σ7,H7,I7.Al,T.keep _ _ _ st5 λb hb o e=>(I7.pin (b,o) (List.mem_append_right _ (List.mem_append_right _ (yu hb e)))).1,λb hb=>?_,w7⟩;obtain ⟨o,e,d⟩:=T.obj _ _ st5 b hb;exact (I7.pin (b,o) (List.mem_append_right _ (List.mem_append_right _ (yu hb e)))).2.1
   cases f with
   | next=>obtain ⟨σ7,H7,I7,n7⟩:=q7;exact again I7 n7
   | cont=>obtain ⟨σ7,H7,I7,n7⟩:=q7;exact again I7 n7
   | brk=>obtain ⟨σ7,H7,I7,q7⟩:=q7;exact ⟨σ7,H7,I7.Al,q7⟩
   | ret v=>obtain ⟨x7,σ7,H7,I7,r7,q7⟩:=q7;exact ⟨x7,σ7,H7,I7.Al,r7,q7⟩
end
end L2
namespace L2
open PySem PySem.Spec PyProof.Rows
abbrev R2:=V->V->Hp->VK->Prop
def jt (X:Cx) (f:Value->Value->Sem Value) (r:R2):Prop :=
 ∀ (pins:List (Addr×Obj)) (s:Shared) (σ:St) (H:Hp) (x y:V) (v u:Value) (Q:VK),Inv X pins σ H s->RelV x v->RelV y u->r x y H Q ->
  wpAny (model X.prog X.w) X.A (f v u) (EP X pins σ Q) X.xe s
def UnR (X:Cx) (f:Value->Sem Value) (r:V->Hp->VK->Prop):Prop :=
 ∀ (pins:List (Addr×Obj)) (s:Shared) (σ:St) (H:Hp) (x:V) (v:Value) (Q:VK),Inv X pins σ H s->RelV x v->r x H Q ->
  wpAny (model X.prog X.w) X.A (f v) (EP X pins σ Q) X.xe s
def jy (X:Cx) (f:Value) (r:List V->Hp->VK->Prop):Prop :=
 ∀ (pins:List (Addr×Obj)) (s:Shared) (σ:St) (H:Hp) (xs:List V) (us:List Value) (Q:VK),Inv X pins σ H s->Vals xs us->r xs H Q ->
  wpAny (model X.prog X.w) X.A (call f us) (EP X pins σ Q) X.xe s
def tOp (r:R2) (ta tb:TE):TE:=fun σ H Q=>ta σ H λx H1=>tb σ H1 λy H2=>r x y H2 Q
def tUn (r:V->Hp->VK->Prop) (ta:TE):TE:=fun σ H Q=>ta σ H λx H1=>r x H1 Q
def rI (C:Int->Int->Prop) (g:Int->Int->V):R2:=λx y H Q=>∃ i j,x=.int i/\y=.int j/\C i j/\Q (g i j) H
def rI0 (g:Int->Int->V):R2:=λx y H Q=>∃ i j,x=.int i/\y=.int j/\Q (g i j) H
def rU (g:Int->V):V->Hp->VK->Prop:=λx H Q=>∃ i,x=.int i/\Q (g i) H
section
variable {X:Cx} {a b c:Expr} {ta tb tc:TE} {pos:Pos}
theorem aix (ha:PE X a ta) (hb:PE X b tb) {pins:List (Addr×Obj)} {s:Shared} {σ:St} {H:Hp} {R:V->V->Hp->Prop} (I:Inv X pins σ H s)
 (h:ta σ H λx H1=>tb σ H1 λy H2=>R x y H2) {Q:Value->Shared->Prop} {f:Value->Value->Sem Value}
 (hf:∀ v u s2 x y H2,Inv X pins σ H2 s2->RelV x v->RelV y u->R x y H2->wpAny (model X.prog X.w) X.A (f v u) Q X.xe s2) :
 wpAny (model X.prog X.w) X.A (eval a X.env) (λv s₁=>wpAny (model X.prog X.w) X.A (eval b X.env) (λu s₂=>wpAny (model X.prog X.w) X.A (f v u) Q X.xe s₂) X.xe s₁) X.xe s:=by
 refine jb (ha pins s σ H _ I h) λv s1 ⟨x,H1,I1,r1,q1⟩=>?_
 refine jb (hb pins s1 σ H1 _ I1 q1) λu s2 ⟨y,H2,I2,r2,q2⟩=>?_
 exact hf v u s2 x y H2 I2 r1 r2 q2
theorem anb {op:Operator} {r:R2} (ho:jt X (binaryOp op) r) (ha:PE X a ta) (hb:PE X b tb):PE X (.BinOp a op b pos) (tOp r ta tb):=by intro pins s σ H Q I h;exact wpAny_BinOp (aix ha hb I h λv u s2 x y H2 I2 rx ry q=>ho pins s2 σ H2 x y v u Q I2 rx ry q)
theorem anc {op:UnaryOp} {r:V->Hp->VK->Prop} (ho:UnR X (unaryOp op) r) (ha:PE X a ta):PE X (.UnaryOp op a pos) (tUn r ta):=by intro pins s σ H Q I h;exact UnaryOp_ (jb (ha pins s σ H _ I h) λv s1 ⟨x,H1,I1,r1,q1⟩=>ho pins s1 σ H1 x v Q I1 r1 q1)
theorem opI {f:Value->Value->Sem Value} {C:Int->Int->Prop} {g:Int->Int->Int}
 (rule:∀ (i j:Int) (t u:Tok) (s:Shared) (Q:Value->Shared->Prop) (E:Value->Shared->Prop),C i j->Q (.int (g i j) s.toks) { s with toks:=s.toks+1 }->wpAny (model X.prog X.w) X.A (f (.int i t) (.int j u)) Q E s) :
 jt X f (rI C λi j=>.int (g i j)):=by
 intro pins s σ H x y v u Q I rx ry h;obtain ⟨i,j,rfl,rfl,hc,q⟩:=h;obtain ⟨t,rfl⟩:=rx;obtain ⟨t',rfl⟩:=ry;exact rule i j t t' s _ _ hc ⟨.int (g i j),H,I.tok _,⟨_,rfl⟩,q⟩
theorem ane {f:Value->Value->Sem Value} {g:Int->Int->Int}
 (rule:∀ (i j:Int) (t u:Tok) (s:Shared) (Q:Value->Shared->Prop) (E:Value->Shared->Prop),Q (.int (g i j) s.toks) { s with toks:=s.toks+1 }->wpAny (model X.prog X.w) X.A (f (.int i t) (.int j u)) Q E s) :
 jt X f (rI0 λi j=>.int (g i j)):=by
 intro pins s σ H x y v u Q I rx ry h;obtain ⟨i,j,rfl,rfl,q⟩:=h;obtain ⟨t,rfl⟩:=rx;obtain ⟨t',rfl⟩:=ry;exact rule i j t t' s _ _ ⟨.int (g i j),H,I.tok _,⟨_,rfl⟩,q⟩
theorem adq {f:Value->Value->Sem Value} {g:Int->Int->Bool}
 (rule:∀ (i j:Int) (t u:Tok) (s:Shared) (Q:Value->Shared->Prop) (E:Value->Shared->Prop),Q (.bool (g i j)) s->wpAny (model X.prog X.w) X.A (f (.int i t) (.int j u)) Q E s) :
 jt X f (rI0 λi j=>.bl (g i j)):=by
 intro pins s σ H x y v u Q I rx ry h;obtain ⟨i,j,rfl,rfl,q⟩:=h;obtain ⟨t,rfl⟩:=rx;obtain ⟨t',rfl⟩:=ry;exact rule i j t t' s _ _ ⟨.bl (g i j),H,I,rfl,q⟩
def ati (i j:Int):Prop:=0 < j/\j < 1073741824
def atj (i j:Int):Prop:=0 <= j/\j <= 1000000/\i.natAbs < 2 ^ 64
def aiy (i j:Int):Prop:=(-(2 ^ 64) < i/\i < 2 ^ 64) \/ (-(2 ^ 64) < j/\j < 2 ^ 64)
theorem aiy.ok {i j:Int} (h:aiy i j):IntMulOk i j:=by
 rcases h with ⟨h1,h2⟩ | ⟨h1,h2⟩
 . exact .of_left (intBits_le_64 h1 h2)
 . exact .of_right (intBits_le_64 h1 h2)
theorem aiz:jt X (binaryOp .Add) (rI0 λi j=>.int (i+j)):=ane λ_ _ _ _ _ _ _ q=>add_int q
theorem ai0:jt X (binaryOp .Sub) (rI0 λi j=>.int (i - j)):=ane λ_ _ _ _ _ _ _ q=>sub_int q
theorem ai1:jt X (binaryOp .Mult) (rI aiy λi j=>.int (i * j)):=opI λ_ _ _ _ _ _ _ hc q=>mul_int q hc.ok
theorem adt:jt X (binaryOp .FloorDiv) (rI ati λi j=>.int (i / j)):=opI λi j _ _ _ _ _ hc q=>by
 have h1:(0:Int) < j:=hc.1
 have h2:j < 1073741824:=hc.2
 exact floordiv_int (by omega) (by rw [Int.fdiv_eq_ediv_of_nonneg i (by omega)];exact q) (.inl (PyProof.noPylong_small (by omega)))
theorem ai2:jt X (binaryOp .Mod) (rI (λ_ j=>0 < j) λi j=>.int (i % j)):=opI λi j _ _ _ _ _ hc q=>by
 have h1:(0:Int) < j:=hc
 exact mod_int' (by omega) (by rw [Int.fmod_eq_emod_of_nonneg i (by omega)];exact q)
theorem ai3:jt X (binaryOp .Pow) (rI atj λi j=>.int (i ^ j.toNat)):=opI λ_ _ _ _ _ _ _ hc q=>pow_int_small hc.1 hc.2.1 hc.2.2 q
theorem unI {f:Value->Sem Value} {g:Int->Int}
 (rule:∀ (i:Int) (t:Tok) (s:Shared) (Q:Value->Shared->Prop) (E:Value->Shared->Prop),Q (.int (g i) s.toks) { s with toks:=s.toks+1 }->wpAny (model X.prog X.w) X.A (f (.int i t)) Q E s) :
 UnR X f (rU λi=>.int (g i)):=by
 intro pins s σ H x v Q I rx h;obtain ⟨i,rfl,q⟩:=h;obtain ⟨t,rfl⟩:=rx;exact rule i t s _ _ ⟨.int (g i),H,I.tok _,⟨_,rfl⟩,q⟩
theorem ai4:UnR X (unaryOp .USub) (rU λi=>.int (-i)):=unI λ_ _ _ _ _ q=>neg_int q
end
def ai5:V->V->Bool
 | .non,.non=>true | .non,.int _=>true | .int _,.non=>true | .non,.bl _=>true | .bl _,.non=>true | .non,.str _=>true | .str _,.non=>true
 | .int _,.int _=>true | .bl _,.bl _=>true | .str _,.str _=>true | .Yu _,.Yu _=>true
 | .int _,.str _=>true | .str _,.int _=>true | .bl _,.str _=>true | .str _,.bl _=>true
 | _,_=>false
def rEq:R2:=λx y H Q=>ai5 x y=true/\Q (.bl (decide (x=y))) H
def rNe:R2:=λx y H Q=>ai5 x y=true/\Q (.bl (!decide (x=y))) H
theorem Vb {i j:Int}:decide (V.int i=V.int j)=(i == j):=by rw [Bool.eq_iff_iff];simp
theorem Ze {i j:Bool}:decide (V.bl i=V.bl j)=(i == j):=by rw [Bool.eq_iff_iff];simp
theorem Vc {i j:Str}:decide (V.str i=V.str j)=(i == j):=by rw [Bool.eq_iff_iff];simp
theorem Vd {i j:Array UInt8}:decide (V.Yu i=V.Yu j)=(i.toList == j.toList):=by rw [Bool.eq_iff_iff];cases i;cases j;simp
section
variable {X:Cx} {a b c:Expr} {ta tb tc:TE} {pos:Pos}
theorem du {pins:List (Addr×Obj)} {σ:St} {H:Hp} {s:Shared} {Q:VK} {k k':Bool} (I:Inv X pins σ H s) (q:Q (.bl k) H) (e:k=k'):EP X pins σ Q (.bool k') s:=by subst e;exact ⟨.bl k,H,I,rfl,q⟩
theorem anf:jt X (compareOp .Eq) rEq:=by
 intro pins s σ H x y v u Q I rx ry h;obtain ⟨hs,q⟩:=h;cases x with
 | non =>
  cases rx;cases y with
  | non=>cases ry;exact PySem.EqNone.eq_none_none (du I q (by simp))|bl j=>cases ry;exact PySem.EqNone.eq_none_bool (du I q (by simp))|int j=>obtain ⟨t',rfl⟩:=ry;exact PySem.EqNone.eq_none_int (du I q (by simp))
  | str j=>obtain ⟨t',rfl⟩:=ry;exact PySem.EqNone.eq_none_str (du I q (by simp))
  | _=>exact absurd (show false=true from hs) Bool.false_ne_true
 | bl i =>
  cases rx;cases y with
  | non=>cases ry;exact PySem.EqNone.eq_bool_none (du I q (by simp))|bl j=>cases ry;exact eq_bool (du I q Ze)|str j=>obtain ⟨t',rfl⟩:=ry;exact PySem.EqMixed.eq_bool_str (du I q (by simp))
  | _=>exact absurd (show false=true from hs) Bool.false_ne_true
 | int i =>
  obtain ⟨t,rfl⟩:=rx;cases y with
  | non=>cases ry;exact PySem.EqNone.eq_int_none (du I q (by simp))|int j=>obtain ⟨t',rfl⟩:=ry;exact eq_int (du I q Vb)
  | str j=>obtain ⟨t',rfl⟩:=ry;exact PySem.EqMixed.eq_int_str (du I q (by simp))
  | _=>exact absurd (show false=true from hs) Bool.false_ne_true
 | str i =>
  obtain ⟨t,rfl⟩:=rx;cases y with
  | non=>cases ry;exact PySem.EqNone.eq_str_none (du I q (by simp))|bl j=>cases ry;exact PySem.EqMixed.eq_str_bool (du I q (by simp))|int j=>obtain ⟨t',rfl⟩:=ry;exact PySem.EqMixed.eq_str_int (du I q (by simp))
  | str j=>obtain ⟨t',rfl⟩:=ry;exact eq_str (du I q Vc)
  | _=>exact absurd (show false=true from hs) Bool.false_ne_true
 | Yu i =>
  obtain ⟨t,rfl⟩:=rx;cases y with
  | Yu j=>obtain ⟨t',rfl⟩:=ry;exact PySem.W.eq_bytes (du I q Vd)
  | _=>exact absurd (show false=true from hs) Bool.false_ne_true
 | _=>cases y<;>exact absurd (show false=true from hs) Bool.false_ne_true
theorem ang:jt X (compareOp .NotEq) rNe:=by
 intro pins s σ H x y v u Q I rx ry h;obtain ⟨hs,q⟩:=h;cases x with
 | non =>
  cases rx;cases y with
  | non=>cases ry;exact PySem.EqNone.ne_none_none (du I q (by simp))|bl j=>cases ry;exact PySem.EqNone.ne_none_bool (du I q (by simp))|int j=>obtain ⟨t',rfl⟩:=ry;exact PySem.EqNone.ne_none_int (du I q (by simp))
  | str j=>obtain ⟨t',rfl⟩:=ry;exact PySem.EqNone.ne_none_str (du I q (by simp))
  | _=>exact absurd (show false=true from hs) Bool.false_ne_true
 | bl i =>
  cases rx;cases y with
  | non=>cases ry;exact PySem.EqNone.ne_bool_none (du I q (by simp))|bl j=>cases ry;exact ne_bool (du I q (congrArg not Ze))|str j=>obtain ⟨t',rfl⟩:=ry;exact PySem.EqMixed.ne_bool_str (du I q (by simp))
  | _=>exact absurd (show false=true from hs) Bool.false_ne_true
 | int i =>
  obtain ⟨t,rfl⟩:=rx;cases y with
  | non=>cases ry;exact PySem.EqNone.ne_int_none (du I q (by simp))|int j=>obtain ⟨t',rfl⟩:=ry;exact ne_int (du I q (congrArg not Vb))
  | str j=>obtain ⟨t',rfl⟩:=ry;exact PySem.EqMixed.ne_int_str (du I q (by simp))
  | _=>exact absurd (show false=true from hs) Bool.false_ne_true
 | str i =>
  obtain ⟨t,rfl⟩:=rx;cases y with
  | non=>cases ry;exact PySem.EqNone.ne_str_none (du I q (by simp))|bl j=>cases ry;exact PySem.EqMixed.ne_str_bool (du I q (by simp))|int j=>obtain ⟨t',rfl⟩:=ry;exact PySem.EqMixed.ne_str_int (du I q (by simp))
  | str j=>obtain ⟨t',rfl⟩:=ry;exact ne_str (du I q (congrArg not Vc))
  | _=>exact absurd (show false=true from hs) Bool.false_ne_true
 | Yu i =>
  obtain ⟨t,rfl⟩:=rx;cases y with
  | Yu j=>obtain ⟨t',rfl⟩:=ry;exact PySem.W.ne_bytes (du I q (congrArg not Vd))
  | _=>exact absurd (show false=true from hs) Bool.false_ne_true
 | _=>cases y<;>exact absurd (show false=true from hs) Bool.false_ne_true
theorem anh:jt X (compareOp .Lt) (rI0 λi j=>.bl (decide (i < j))):=adq λ_ _ _ _ _ _ _ q=>lt_int q
theorem ani:jt X (compareOp .LtE) (rI0 λi j=>.bl (decide (i <= j))):=adq λ_ _ _ _ _ _ _ q=>le_int q
theorem anj:jt X (compareOp .Gt) (rI0 λi j=>.bl (decide (j < i))):=adq λ_ _ _ _ _ _ _ q=>gt_int q
theorem ank:jt X (compareOp .GtE) (rI0 λi j=>.bl (decide (j <= i))):=adq λ_ _ _ _ _ _ _ q=>ge_int q
theorem jt.or {f:Value->Value->Sem Value} {r r':R2} (h:jt X f r) (h':jt X f r'):jt X f (λx y H Q=>r x y H Q \/ r' x y H Q):=by
 intro pins s σ H x y v u Q I rx ry q;rcases q with q | q
 . exact h pins s σ H x y v u Q I rx ry q
 . exact h' pins s σ H x y v u Q I rx ry q
theorem adu {op:CmpOp} {r:R2} (ho:jt X (compareOp op) r) (ha:PE X a ta) (hb:PE X b tb) (hm:behindInMarks op b=false):PE X (.Compare a [op] [b] pos) (tOp r ta tb):=by intro pins s σ H Q I h;exact wpAny_Compare1 (aix ha hb I h λv u s2 x y H2 I2 rx ry q=>ho pins s2 σ H2 x y v u Q I2 rx ry q) hm
def ahc (t:TE):TT:=fun σ H Q=>t σ H λx H'=>∃ k,x=.bl k/\Q k H'
theorem adw {op:CmpOp} {r:R2} (ho:jt X (compareOp op) r) (ha:PE X a ta) (hb:PE X b tb) (hm:behindInMarks op b=false):PT X (.Compare a [op] [b] pos) (ahc (tOp r ta tb)):=by
 intro pins s σ H Q I h;refine wpAny_isTrue_Compare1 (jb (ha pins s σ H _ I h) λv s1 ⟨x,H1,I1,r1,q1⟩=>jb (hb pins s1 σ H1 _ I1 q1) λu s2 ⟨y,H2,I2,r2,q2⟩ =>
  jb (ho pins s2 σ H2 x y v u _ I2 r1 r2 q2) λc s3 ⟨z,H3,I3,r3,k,e,q3⟩=>?_) hm
 subst e;cases r3;exact wpAny_truthy_bool ⟨H3,I3,q3⟩
def Nk (r r':R2) (ta tb tc:TE):TE:=fun σ H Q=>ta σ H λx H1=>tb σ H1 λy H2=>r x y H2 λz H3=>∃ k,z=.bl k /\
 (if k=true then tc σ H3 λw' H4=>r' y w' H4 Q else Q (.bl false) H3)
theorem Zf {op op':CmpOp} {r r':R2} (ho:jt X (compareOp op) r) (ho':jt X (compareOp op') r') (ha:PE X a ta) (hb:PE X b tb) (hc:PE X c tc)
 (hm:lastMarks [op,op'] [b,c]=false:=by with_unfolding_all rfl):PE X (.Compare a [op,op'] [b,c] pos) (Nk r r' ta tb tc):=by
 intro pins s σ H Q I h;refine Compare_chain (jb (ha pins s σ H _ I h) λv s1 ⟨x,H1,I1,r1,q1⟩=>chain_link (jb (hb pins s1 σ H1 _ I1 q1) λu s2 ⟨y,H2,I2,r2,q2⟩ =>
  jb (ho pins s2 σ H2 x y v u _ I2 r1 r2 q2) λd s3 ⟨z,H3,I3,r3,k,e,q3⟩=>?_)) hm
 subst e;cases r3;refine wpAny_truthy_bool ?_;cases k with
 | false=>exact ite_ff ⟨.bl false,H3,I3,rfl,q3⟩|true=>exact ite_tt (chain_last (jb (hc pins s3 σ H3 _ I3 q3) λw' s4 ⟨z',H4,I4,r4,q4⟩=>ho' pins s4 σ H4 y z' u w' Q I4 r2 r4 q4))
theorem Zg {op op':CmpOp} {r r':R2} (ho:jt X (compareOp op) r) (ho':jt X (compareOp op') r') (ha:PE X a ta) (hb:PE X b tb) (hc:PE X c tc)
 (hm:lastMarks [op,op'] [b,c]=false:=by with_unfolding_all rfl):PT X (.Compare a [op,op'] [b,c] pos) (ahc (Nk r r' ta tb tc)):=by
 intro pins s σ H Q I h;refine isTrue_chain (jb (ha pins s σ H _ I h) λv s1 ⟨x,H1,I1,r1,q1⟩=>test_link (jb (hb pins s1 σ H1 _ I1 q1) λu s2 ⟨y,H2,I2,r2,q2⟩ =>
  jb (ho pins s2 σ H2 x y v u _ I2 r1 r2 q2) λd s3 ⟨z,H3,I3,r3,k,e,q3⟩=>?_)) hm
 subst e;cases r3;refine wpAny_truthy_bool ?_;cases k with
 | false =>
  obtain ⟨k',e',q'⟩:=q3;cases e';exact ite_ff ⟨H3,I3,q'⟩
 | true =>
  refine ite_tt (test_last (jb (hc pins s3 σ H3 _ I3 q3) λw' s4 ⟨z',H4,I4,r4,q4⟩=>jb (ho' pins s4 σ H4 y z' u w' _ I4 r2 r4 q4) λd' s5 ⟨z2,H5,I5,r5,k2,e2,q5⟩=>?_));subst e2;cases r5;exact wpAny_truthy_bool ⟨H5,I5,q5⟩
theorem Np:(sizeLine:Nat) < 2 ^ 63:=by rw [sizeLine_eq];decide
theorem vals1 {x:V} {us:List Value} (r:Vals [x] us):∃ u,us=[u]/\RelV x u:=by
 cases r with
 | cons r1 r2=>cases r2;exact ⟨_,rfl,r1⟩
theorem vals2 {x y:V} {us:List Value} (r:Vals [x,y] us):∃ u w',us=[u,w']/\RelV x u/\RelV y w':=by
 cases r with
 | cons r1 r2 =>
  cases r2 with
  | cons r3 r4=>cases r4;exact ⟨_,_,rfl,r1,r3⟩
theorem W4 (hc:X.calm=true):jy X (.builtin "max") (λxs H Q=>∃ i j,xs=[.int i,.int j]/\Q (.int (if j > i then j else i)) H):=by
 intro pins s σ H xs us Q I r h;obtain ⟨i,j,rfl,q⟩:=h;obtain ⟨u,w',rfl,⟨t,rfl⟩,⟨t',rfl⟩⟩:=vals2 r;refine max_two_ints (I.ok.hd hc) λh' tk k=>⟨_,H,I.kept k,?_,q⟩
 by_cases hj:j > i
 . rw [if_pos hj,if_pos hj];exact ⟨_,rfl⟩
 . rw [if_neg hj,if_neg hj];exact ⟨_,rfl⟩
end
end L2
namespace L2
open PySem PySem.Spec PyProof.Rows
structure Tj (h:Heap) (x dx C:Addr) (mA:Str->Option Value):Prop where
 obj:h.get? x=some (PySem.W.instObj C dx)
 ns:h.Ns1 dx mA
 ne:dx≠x
theorem W5 {h:Heap} {dx:Addr} {mA:Str->Option Value} (n:h.Ns1 dx mA):∃ od,h.get? dx=some od/\∀ name,PySem.W.lookIn name od=some (mA name):=by
 obtain ⟨o,es,ep,ho,hd,hk,_,hm⟩:=n;refine ⟨o,ho,λname=>?_⟩;have e:=hm name;unfold nsFind findBy at e;rw [<- Array.find?_toList] at e;unfold PySem.W.lookIn;rw [hd];dsimp only;split
 . rename_i y q
   rw [q] at e;exact congrArg some e
 . rename_i q
   rw [q] at e;have a:es.toList.any (·.refKey)=false:=by rw [List.any_eq_false];intro y hy;obtain ⟨z,t,hkey⟩:=hk y (Array.mem_toList_iff.mp hy);simp [DictEntry.refKey,hkey]
   have a':¬ es.toList.any (·.refKey)=true:=by rw [a];exact Bool.false_ne_true
   rw [if_neg a'];exact congrArg some e
theorem Tj.look {h:Heap} {x dx C:Addr} {mA:Str->Option Value} (I:Tj h x dx C mA):∃ od,PySem.W.InstAt h x (PySem.W.instObj C dx) C (some od)/\∀ name,PySem.W.lookIn name od=some (mA name) :=
 let ⟨od,ho,hl⟩:=W5 I.ns
 ⟨od,⟨I.obj,rfl,rfl,ho⟩,hl⟩
section
variable {prog:Program} {w:World} {A:Around} {E:Value->Shared->Prop} {s:Shared} {K:Fg} {x dx C f:Addr} {mA:Str->Option Value} {name:Str} {v:Value}
theorem get_map {expr:Bool} {Q:Value->Shared->Prop} (X:K.In s.heap) (I:Tj s.heap x dx C mA) (hg:PySem.W.plainGet K C name=true) (hh:PySem.W.hasDictIn K C=true)
 (ha:PySem.W.findIn K (.ref C) name=some none) (hv:mA name=some v) (hv':PySem.W.handedIn v=true) (h:Q v { s with toks:=s.toks+1 }) :
 wpAny (model prog w) A (getAttr (.ref x) name expr) Q E s:=by
 obtain ⟨od,J,hl⟩:=I.look;exact PySem.W.get_value X J (PySem.W.plainGet_of hg).1 (PySem.W.findObj_own hh ha rfl (by rw [hl,hv])) hv' h
theorem Zh {pl:Sem Bool} {Q:Value×List Value->Shared->Prop} (X:K.In s.heap) (I:Tj s.heap x dx C mA) (hg:PySem.W.plainGet K C name=true)
 (hf:PySem.W.findIn K (.ref C) name=some (some (.ref f))) (ht:PySem.W.isFn K (.ref f)=true) (hv:mA name=none) (h:Q (.ref f,[.ref x]) s) :
 wpAny (model prog w) A (getMethod (.ref x) name pl) Q E s:=by
 obtain ⟨od,J,hl⟩:=I.look;exact PySem.W.method_fn X J (PySem.W.plainGet_of hg).1 (PySem.W.plainGet_of hg).2 hf (beq_iff_eq.mp ht) (by show (PySem.W.lookIn name od).map (·.isSome)=some false;rw [hl,hv];rfl) h
theorem adx {ns:List Str} {Q:Unit->Shared->Prop} (X:K.In s.heap) (I:Tj s.heap x dx C mA)
 (hs:PySem.W.findIn K (.ref C) "__setattr__" = some (some (.builtin "object.__setattr__"))) (hp:PySem.W.plainOver K C=true) (ht:PySem.W.takerIn K C name=some none) (hh:PySem.W.hasDictIn K C=true)
 (hw:PySem.Within mA ns) (hsz:ns.length <= sizeLine)
 (h:∀ h',Tj h' x dx C (λy=>if y=name then some v else mA y)->Heap.SameBut dx s.heap h'->Q () { s with heap:=h',toks:=s.toks+2 }) :
 wpAny (model prog w) A (setAttr (.ref x) name v) Q E s:=by
 obtain ⟨od,J,hl⟩:=I.look;refine PySem.W.set_plain X J hs (PySem.W.osa_open (s:={ s with toks:=s.toks+1 }) (r:=none) X J hp ht λb=>?_);obtain ⟨cd,hc,hd'⟩:=PySem.W.any_some hh;have hx:s.heap.get? x=some ⟨.ref C,some dx,.plain,#[]⟩:=I.obj;refine wpAny_bind (wpAny_pure (wpAny_bind (wpAny_bind (wpAny_loadPart hx (wpAny_bind (PySem.W.Looks.here (s:={ s with toks:=s.toks+1 }) (PySem.W.looks_clsIn X hc) ?_))))));rw [hd'];refine wpAny_pure (a:=some dx) (wpAny_bind (wpAny_pure (wpAny_bind ?_)));refine wpAny_nsSet1 (s:={ s with toks:=s.toks+1 }) I.ns λh' hn2 hs2=>?_
 obtain ⟨oD,esD,epD,hoD,hdD,hcD⟩:=hn2.count (PySem.Within.cons name v hw);refine wpAny_bind (wpAny_lookBehind hoD (by rw [hdD];exact pastItsLine_dict (Nat.le_trans hcD (by rw [List.length_cons];omega))) ?_);exact wpAny_pure (h _ ⟨(hs2.2 _ (Ne.symm I.ne)).trans I.obj,hn2,I.ne⟩ hs2)
theorem Zi {R:Result->Shared->Prop} {vs:List Value} {kw:List (Str×Value)} (X:K.In s.heap) (hm:PySem.W.makesIn K C=true)
 (hi:PySem.W.findIn K (.ref C) "__init__" = some (some (.ref f))) (hf:PySem.W.typeIn K (.ref f)=some (.type "function"))
 (h:codeAny (model prog w) (A.under (.builtin "type.__call__" ⟨.ref C :: vs,kw⟩)) (.call (.ref f) ⟨.ref (s.heap.objs.size+1) :: vs,kw⟩) (PySem.W.InitBack (s.heap.objs.size+1) R)
  { s with heap:=(s.heap.push PySem.W.emptyDict).push (PySem.W.instObj C s.heap.objs.size) }) :
 codeAny (model prog w) A (.call (.ref C) ⟨vs,kw⟩) R s:=by
 obtain ⟨hh,g,d,t,os⟩:=s;exact PySem.W.make_core (PySem.W.makes_of X hm) (PySem.W.looks_findIn X hi) (λself=>PySem.W.bind_fn X self hf) (.inl rfl) h
end
def u5 (f:Str) (v:V):List (Str×V)->List (Str×V)
 | []=>[(f,v)]|(g,x) :: r=>if g=f then (g,v) :: r else (g,x) :: u5 f v r
theorem G8 (f g:Str) (v:V):∀ fs:List (Str×V),(u5 f v fs).lookup g=if g=f then some v else fs.lookup g
 | []=>by
  show List.lookup g [(f,v)]=_
  by_cases h:g=f
  . have hb:(g == f)=true:=beq_iff_eq.mpr h
    simp only [List.lookup,hb,if_pos h]
  . have hb:(g == f)=false:=beq_eq_false_iff_ne.mpr h
    simp only [List.lookup,hb,if_neg h]
 | (k,x) :: r=>by
  have ih:=G8 f g v r;rw [show u5 f v ((k,x) :: r)=(if k=f then (k,v) :: r else (k,x) :: u5 f v r) from rfl]
  by_cases hk:k=f
  . rw [if_pos hk]
    by_cases h:g=k
    . have hb:(g == k)=true:=beq_iff_eq.mpr h
      simp only [List.lookup,hb,if_pos (h.trans hk)]
    . have hb:(g == k)=false:=beq_eq_false_iff_ne.mpr h
      simp only [List.lookup,hb,if_neg (λe:g=f=>h (e.trans hk.symm))]
  . rw [if_neg hk]
    by_cases h:g=k
    . have hb:(g == k)=true:=beq_iff_eq.mpr h
      simp only [List.lookup,hb,if_neg (λe:g=f=>hk (h.symm.trans e))]
    . have hb:(g == k)=false:=beq_eq_false_iff_ne.mpr h
      simp only [List.lookup,hb];exact ih
theorem Gg (f:Str) (v:V):∀ fs:List (Str×V),f∈(u5 f v fs).map (·.1)/\∀ g,g∈fs.map (·.1)->g∈(u5 f v fs).map (·.1)
 | []=>⟨by simp [u5],λg h=>by simp at h⟩
 | (k,x) :: r=>by
  obtain ⟨i1,i2⟩:=Gg f v r;rw [show u5 f v ((k,x) :: r)=(if k=f then (k,v) :: r else (k,x) :: u5 f v r) from rfl]
  by_cases hk:k=f
  . rw [if_pos hk]
    subst hk;exact ⟨by simp,λg h=>by simpa using h⟩
  . rw [if_neg hk]
    refine ⟨?_,λg h=>?_⟩
    . rw [List.map_cons]
      exact List.mem_cons_of_mem _ i1
    . rw [List.map_cons] at h ⊢
      rcases List.mem_cons.mp h with e | e
      . exact List.mem_cons.mpr (.inl e)
      . exact List.mem_cons_of_mem _ (i2 g e)
theorem G9 (f:Str) (v:V):∀ fs:List (Str×V),(u5 f v fs).length <= fs.length+1
 | []=>by simp [u5]
 | (k,x) :: r=>by
  have ih:=G9 f v r;rw [show u5 f v ((k,x) :: r)=(if k=f then (k,v) :: r else (k,x) :: u5 f v r) from rfl]
  by_cases hk:k=f
  . rw [if_pos hk,List.length_cons,List.length_cons];omega
  . rw [if_neg hk,List.length_cons,List.length_cons];omega
theorem Cg.some_of {v:V} {o:Option Value} (r:Cg (some v) o):∃ u,o=some u/\RelV v u:=by
 cases o with
 | none=>exact (show False from r).elim
 | some u=>exact ⟨u,rfl,r⟩
theorem Cg.none_of {o:Option Value} (r:Cg none o):o=none:=by
 cases o with
 | none=>rfl|some u=>exact (show False from r).elim
theorem W6 {v:V} {u:Value} (r:RelV v u):PySem.W.handedIn u=true:=by
 cases v with
 | non=>cases (show u=Value.none from r);rfl
 | bl b=>cases (show u=Value.bool b from r);rfl
 | int i=>obtain ⟨t,e⟩:=(show ∃ t,u=Value.int i t from r);cases e;rfl
 | str x=>obtain ⟨t,e⟩:=(show ∃ t,u=Value.str x t from r);cases e;rfl
 | Yu b=>obtain ⟨t,e⟩:=(show ∃ t,u=Value.bytes b t from r);cases e;rfl
 | flt b=>obtain ⟨t,e⟩:=(show ∃ t,u=Value.float b t from r);cases e;rfl
 | ref a=>cases (show u=Value.ref a from r);rfl
 | ty n=>cases (show u=Value.type n from r);rfl
section
variable {P:Program} {w:World} {H H':Hp} {h h':Heap} {a C dx:Addr} {fs fs':List (Str×V)}
theorem yw (hok:Cm P w H h) (e:H a=some (.ins C dx fs)):∃ mA,Tj h a dx C mA/\(∀ f,Cg (fs.lookup f) (mA f))/\PySem.Within mA (fs.map (·.1))/\fs.length <= 1000/\H dx=some (.own a):=by obtain ⟨d,z,ne,ob,mA,n,r,q⟩:=(show iw P w H h a (.ins C dx fs) from hok a _ e);exact ⟨mA,⟨ob,n,ne⟩,r,q,z,d⟩
end
structure Qa (K:Fg) (C:Addr):Prop where
 pg:PySem.W.plainGet K C Str.empty=true
 hd:PySem.W.hasDictIn K C=true
 po:PySem.W.plainOver K C=true
 sa:PySem.W.findIn K (.ref C) "__setattr__" = some (some (.builtin "object.__setattr__"))
theorem Qa.get {K:Fg} {C:Addr} (c:Qa K C) (f:Str):PySem.W.plainGet K C f=true:=c.pg
def ql (K:Fg) (C:Addr) (f:Str):Prop:=PySem.W.findIn K (.ref C) f=some none
theorem ql.taker {K:Fg} {C:Addr} {f:Str} (n:ql K C f):PySem.W.takerIn K C f=some none:=by unfold PySem.W.takerIn;rw [show PySem.W.findIn K (.ref C) f=some none from n];rfl
structure Meth (K:Fg) (C:Addr) (m:Str) (f:Addr):Prop where
 at_:PySem.W.findIn K (.ref C) m=some (some (.ref f))
 fn:PySem.W.isFn K (.ref f)=true
 kp:PySem.W.keepIn K (.ref f)=true
section
variable {X:Cx} {pins:List (Addr×Obj)} {σ:St} {H:Hp} {s:Shared} {a C dx:Addr} {fs:List (Str×V)} {f:Str} {v:V} {A:Around} {E:Value->Shared->Prop}
theorem Tn {b:Bool} {Q:Value->Shared->Prop} (I:Inv X pins σ H s) (e:H a=some (.ins C dx fs)) (c:Qa X.K C) (n:ql X.K C f) (l:fs.lookup f=some v)
 (h:∀ u s',Inv X pins σ H s'->RelV v u->Q u s'):wpAny (model X.prog X.w) A (getAttr (.ref a) f b) Q E s:=by
 obtain ⟨mA,O,r,_,_,_⟩:=yw I.hok e;obtain ⟨u,hu,ru⟩:=Cg.some_of (v:=v) (o:=mA f) (by rw [<- l];exact r f);exact get_map I.Df O (c.get f) c.hd n hu (W6 ru) (h u _ (I.tok _) ru)
theorem Ip {m:Str} {g:Addr} {pl:Sem Bool} {Q:Value×List Value->Shared->Prop} (I:Inv X pins σ H s) (e:H a=some (.ins C dx fs)) (c:Qa X.K C) (k:Meth X.K C m g) (l:fs.lookup m=none)
 (h:Q (.ref g,[.ref a]) s):wpAny (model X.prog X.w) A (getMethod (.ref a) m pl) Q E s:=by
 obtain ⟨mA,O,r,_,_,_⟩:=yw I.hok e;have hn:mA m=none:=Cg.none_of (by rw [<- l];exact r m);exact Zh I.Df O (c.get m) k.at_ k.fn hn h
theorem Tp {y:V} {u:Value} {Q:Unit->Shared->Prop} (I:Inv X pins σ H s) (e:H a=some (.ins C dx fs)) (c:Qa X.K C) (n:ql X.K C f) (hl:fs.length < 1000) (ry:RelV y u)
 (h:∀ s',Inv X pins σ (upd H a (.ins C dx (u5 f y fs))) s'->Q () s'):wpAny (model X.prog X.w) A (setAttr (.ref a) f u) Q E s:=by
 obtain ⟨mA,O,r,wi,_,ho⟩:=yw I.hok e;have hz:(fs.map (·.1)).length <= sizeLine:=by rw [List.length_map,sizeLine_eq];omega
 refine adx I.Df O c.sa c.po n.taker c.hd wi hz λh' O' sb=>h _ ?_
 have hd:∃ o,h'.get? dx=some o:=let ⟨o,_,_,e',_⟩:=O'.ns;⟨o,e'⟩;refine I.write (x:=a) (e:=dx) (by rw [e];exact True.intro) (.inr ho) (λb q hb z=>(sb.2 b hb).trans z) hd ?_;refine ⟨by rw [aq O.ne];exact ho,?_,O.ne,O'.obj,_,O'.ns,λg=>?_,λg hg=>?_⟩
 . have:=G9 f y fs;omega
 . show Cg ((u5 f y fs).lookup g) (if g=f then some u else mA g)
   rw [G8]
   by_cases q:g=f
   . rw [if_pos q,if_pos q];exact ry
   . rw [if_neg q,if_neg q];exact r g
 . by_cases q:g=f
   . rw [q];exact (Gg f y fs).1
   . refine (Gg f y fs).2 g (wi g λz=>hg ?_)
     show (if g=f then some u else mA g)=none;rw [if_neg q];exact z
theorem Inv.made (I:Inv X pins σ H s):Inv X pins σ (upd (upd H s.heap.objs.size (.own (s.heap.objs.size+1))) (s.heap.objs.size+1) (.ins C s.heap.objs.size []))
 { s with heap:=(s.heap.push PySem.W.emptyDict).push (PySem.W.instObj C s.heap.objs.size) }:=by
 have e1:(s.heap.push PySem.W.emptyDict).get? s.heap.objs.size=some PySem.W.emptyDict:=Heap.get?_push_size s.heap rfl;have e2:((s.heap.push PySem.W.emptyDict).push (PySem.W.instObj C s.heap.objs.size)).get? (s.heap.objs.size+1)=some (PySem.W.instObj C s.heap.objs.size):=by
  have:=Heap.get?_push_size (s.heap.push PySem.W.emptyDict) (o:=PySem.W.instObj C s.heap.objs.size) rfl
  rwa [Heap.size_push] at this
 have e3:(s.heap.push PySem.W.emptyDict).Ns s.heap.objs.size (λ_=>none):=⟨PySem.W.emptyDict,#[],_,e1,rfl,(λe he=>absurd he (by simp)),λ_=>rfl⟩;have I1:=I.laid (a:=s.heap.objs.size) (o:=.own (s.heap.objs.size+1)) (h':=s.heap.push PySem.W.emptyDict) (t':=s.toks) (λb u q=>Heap.get?_push_of_some _ q) (Nat.le_refl _) ⟨_,e1⟩;refine I1.laid (a:=s.heap.objs.size+1) (o:=.ins C s.heap.objs.size []) (t':=s.toks) (λb u q=>Heap.get?_push_of_some _ q) (Nat.le_of_eq (Heap.size_push _ _)) ?_;have ne:s.heap.objs.size≠s.heap.objs.size+1:=Nat.ne_of_lt (Nat.lt_succ_self _);refine ⟨by rw [aq ne,dh],Nat.zero_le _,ne,e2,λ_=>none,(Heap.Ns1.of_empty e3).at λo q=>Heap.get?_push_of_some _ q,λ_=>True.intro,λy hy=>absurd rfl hy⟩
theorem ady {prog:Program} {w:World} {env:Env} {e:Expr} {f:Str} {pos:Pos} {s:Shared} {Q:Value->Shared->Prop} (hb:attributeBase e f env (eval e env)=eval e env)
 (h:wpAny (model prog w) A (eval e env) (λo s₁=>wpAny (model prog w) A (getAttr o f true) Q E s₁) E s):wpAny (model prog w) A (eval (.Attribute e f pos) env) Q E s :=
 Attribute_any_ h (by rw [arm_eval_Attribute,hb])
end
def atk (K:Fg) (ta:TE) (f:Str):TE:=fun σ H Q=>ta σ H λx H1=>∃ a C dx fs v,x=.ref a/\H1 a=some (.ins C dx fs)/\Qa K C/\ql K C f/\fs.lookup f=some v/\Q v H1
def atl (K:Fg) (ta tv:TE) (f:Str):TS:=λD σ H=>tv σ H λy H1=>ta σ H1 λx H2=>∃ a C dx fs,x=.ref a/\H2 a=some (.ins C dx fs)/\Qa K C/\ql K C f/\fs.length < 1000 /\
 D.nx σ (upd H2 a (.ins C dx (u5 f y fs)))
section
variable {X:Cx} {o e value:Expr} {f:Str} {pos pos' tpos:Pos} {ta tv:TE}
theorem ai6 (he:PE X e ta) (hb:attributeBase e f X.env (eval e X.env)=eval e X.env):PE X (.Attribute e f pos) (atk X.K ta f):=by intro pins s σ H Q I h;refine ady hb (jb (he pins s σ H _ I h) λu s1 ⟨x,H1,I1,rx,a,C,dx,fs,v,ex,ea,c,n,l,q⟩=>?_);subst ex;obtain rfl:u=Value.ref a:=rx;exact Tn I1 ea c n l λu' s2 I2 ru=>⟨v,H1,I2,ru,q⟩
theorem ai7 (ha:PE X o ta) (hv:PE X value tv) (hs:swapsWith value (some (.Attribute o f pos')) pos.line X.env=pure false):PS X (.Assign [.Attribute o f pos'] value pos) (atl X.K ta tv f):=by intro pins s σ H D I h;refine plainObj_wpAny_Assign_Attribute (jb (hv pins s σ H _ I h) λu s1 ⟨y,H1,I1,ry,q⟩=>jb (ha pins s1 σ H1 _ I1 q) λov s2 ⟨x,H2,I2,rx,a,C,dx,fs,ex,ea,c,n,l,q2⟩=>?_) hs;subst ex;obtain rfl:ov=Value.ref a:=rx;exact Tp I2 ea c n l ry λs3 I3=>⟨σ,_,I3,q2⟩
end
section
variable {X:Cx} {pins:List (Addr×Obj)} {σ:St} {H:Hp} {s:Shared} {A:Around} {E:Value->Shared->Prop} {Q:Value->Shared->Prop} {c:Value} {b:Bool}
inductive Am (K:Fg) (H:Hp):V->Value->Prop where
 | non:Am K H .non (.type "NoneType")
 | bl (x:Bool):Am K H (.bl x) (.type "bool")
 | int (i:Int):Am K H (.int i) (.type "int")
 | str (x:Str):Am K H (.str x) (.type "str")
 | flt (x:UInt64):Am K H (.flt x) (.type "float")
 | lst {a:Addr} {xs:List V} (e:H a=some (.lst xs)):Am K H (.ref a) (.type "list")
 | By {a:Addr} {o:Obj} {xs:List V} (e:H a=some (.By o (.lst xs))):Am K H (.ref a) (.type "list")
 | tup {a:Addr} {xs:List V} (e:H a=some (.tup xs)):Am K H (.ref a) (.type "tuple")
 | dK {a:Addr} {kvs:List (Key×V)} (e:H a=some (.dK kvs)):Am K H (.ref a) (.type "dict")
 | dT {a:Addr} {kvs:List (List Key×V)} (e:H a=some (.dT kvs)):Am K H (.ref a) (.type "dict")
 | ins {a C dx:Addr} {fs:List (Str×V)} (e:H a=some (.ins C dx fs)) (cl:Qa K C) (ha:PySem.W.findIn K (.ref C) "__class__" = some (some (.builtin "object.__class__")))
  (hn:PySem.W.specialIn K (.builtin "object.__class__") "__get__" = some (some (.builtin "getset_descriptor.__get__"))) (htk:PySem.W.takesIn K (.builtin "object.__class__")=some true)
  (hm:PySem.W.mroIn K C (.type "object")=some true):Am K H (.ref a) (.ref C)
theorem W7 {x:V} {u t:Value} (I:Inv X pins σ H s) (rx:RelV x u) (ty:Am X.K H x t) (e:PySem.W.kitOne X.K t c=some b) (h:∀ tk,Q (.bool b) { s with toks:=tk }) :
 wpAny (model X.prog X.w) A (call (.builtin "isinstance") [u,c]) Q E s:=by
 cases ty with
 | non=>cases (show u=Value.none from rx);exact PySem.W.kia_one PySem.W.kitx_none I.Df True.intro e (λz=>nomatch z) h
 | bl y=>cases (show u=Value.bool y from rx);exact PySem.W.kia_one PySem.W.kitx_bool I.Df True.intro e (λz=>nomatch z) h
 | int i=>obtain ⟨t,q⟩:=(show ∃ t,u=Value.int i t from rx);cases q;exact PySem.W.kia_one PySem.W.kitx_int I.Df True.intro e (λz=>nomatch z) h
 | str y=>obtain ⟨t,q⟩:=(show ∃ t,u=Value.str y t from rx);cases q;exact PySem.W.kia_one PySem.W.kitx_str I.Df True.intro e (λz=>nomatch z) h
 | flt y=>obtain ⟨t,q⟩:=(show ∃ t,u=Value.float y t from rx);cases q;exact PySem.W.kia_one PySem.W.kitx_float I.Df True.intro e (λz=>nomatch z) h
 | @lst a xs ea =>
  cases (show u=Value.ref a from rx);obtain ⟨_,_,n,_,h1⟩:=(show iw X.prog X.w H s.heap a (.lst xs) from I.hok a _ ea);exact PySem.W.kia_one PySem.W.kitx_list I.Df ⟨_,h1,rfl⟩ e (λz=>nomatch z) h
 | @By a ob xs ea =>
  cases (show u=Value.ref a from rx);obtain ⟨_,_,_,n,_,h1⟩:=(show iw X.prog X.w H s.heap a (.By ob (.lst xs)) from I.hok a _ ea);exact PySem.W.kia_one PySem.W.kitx_list I.Df ⟨_,h1,rfl⟩ e (λz=>nomatch z) h
 | @tup a xs ea =>
  cases (show u=Value.ref a from rx);obtain ⟨_,_,_,p⟩:=(show iw X.prog X.w H s.heap a (.tup xs) from I.hok a _ ea);obtain ⟨o,h1,h2,_⟩:=p;exact PySem.W.kia_one PySem.W.kitx_tuple I.Df ⟨o,h1,h2⟩ e (λz=>nomatch z) h
 | @dK a kvs ea =>
  cases (show u=Value.ref a from rx);obtain ⟨_,_,vs,_,p⟩:=(show iw X.prog X.w H s.heap a (.dK kvs) from I.hok a _ ea);obtain ⟨o,es,ep,h1,h2,_⟩:=p;exact PySem.W.kia_one PySem.W.kitx_dict I.Df ⟨o,h1,h2.1⟩ e (λz=>nomatch z) h
 | @dT a kvs ea =>
  cases (show u=Value.ref a from rx);obtain ⟨_,_,xs,_,o,es,ep,h1,h2,_⟩:=(show iw X.prog X.w H s.heap a (.dT kvs) from I.hok a _ ea);exact PySem.W.kia_one PySem.W.kitx_dict I.Df ⟨o,h1,h2.1⟩ e (λz=>nomatch z) h
 | @ins a C dx fs ea cl ha hn htk hm =>
  cases (show u=Value.ref a from rx);obtain ⟨mA,O,_⟩:=yw I.hok ea;obtain ⟨od,J,_⟩:=O.look;exact PySem.W.kia_one (PySem.W.kitx_own (cl.get _) cl.hd ha hn htk hm) I.Df J e (λz=>nomatch z) h
end
end L2
namespace L2
open PySem PySem.Spec PyProof.Rows
structure gm (k:Nat) (A:Around):Prop where
 hd:A.handled=none
 dp:A.depth+3 * k+5 < recursionLimit
 un:A.units+16 * k+200 < cLine
theorem gm.mono {j k:Nat} {A:Around} (r:gm k A) (h:j <= k):gm j A:=⟨r.hd,by have:=r.dp;omega,by have:=r.un;omega⟩
theorem gm.deeper {k:Nat} {A:Around} (r:gm (k+1) A) (env:Env):gm k (A.deeper env) :=
 ⟨r.hd,by have:=r.dp;show A.depth+1+3 * k+5 < _;omega,by have:=r.un;show A.units+3+16 * k+200 < _;omega⟩
theorem gm.in1 {k:Nat} {A:Around} (r:gm (k+1) A):gm k A.in1 :=
 ⟨r.hd,by have:=r.dp;show A.depth+3 * k+5 < _;omega,by have:=r.un;show A.units+1+16 * k+200 < _;omega⟩
theorem Tq {A:Around} {C:Addr} {us:List Value} {kw:List (Str×Value)}:(A.under (.builtin "type.__call__" ⟨.ref C :: us,kw⟩)).depth=A.depth+1:=by first | rfl | simp [Around.under,Code.weight,Code.isCreation,Code.isGuard,Code.isCaller,Code.frames,Code.isFrame,guardIds]
theorem Tr {A:Around} {C:Addr} {us:List Value} {kw:List (Str×Value)}:(A.under (.builtin "type.__call__" ⟨.ref C :: us,kw⟩)).units=A.units+1:=by first | rfl | simp [Around.under,Code.cUnits,Code.frames,Code.isFrame]
theorem gm.make {k:Nat} {A:Around} (r:gm (k+1) A) (C:Addr) (us:List Value) (kw:List (Str×Value)):gm k (A.under (.builtin "type.__call__" ⟨.ref C :: us,kw⟩)) :=
 ⟨r.hd,by have:=r.dp;rw [Tq];omega,by have:=r.un;rw [Tr];omega⟩
theorem gm.depth {k:Nat} {A:Around} (r:gm k A):A.depth < recursionLimit:=by have:=r.dp;omega
theorem gm.units {k:Nat} {A:Around} (r:gm k A):A.units+64 < cLine:=by have:=r.un;omega
theorem gm.Gh {k:Nat} {A:Around} (r:gm k A):A.units < cLine:=by have:=r.un;omega
def anl:TA:=λ_ H Q=>Q [] H
def anm (ta:TE) (tr:TA):TA:=fun σ H Q=>ta σ H λx H1=>tr σ H1 λxs H2=>Q (x :: xs) H2
section
variable {X:Cx} {e:Expr} {es:List Expr} {te:TE} {t:TA} {pos:Pos}
theorem ai8:PA X [] anl:=λ_ _ _ _ H Q I h=>Calls.spliced_nil ⟨[],H,I,.nil,h⟩
theorem adz (ha:PE X e te) (hr:PA X es t) (hs:starEach (e :: es) X.env=(false,eval e X.env) :: starEach es X.env:=by rfl):PA X (e :: es) (anm te t):=by intro pos pins s σ H Q I h;rw [hs];show wpAny _ _ (spliced ((false,eval e X.env) :: backTo pos (starEach es X.env))) _ _ s;refine Calls.spliced_cons (jb (ha pins s σ H _ I h) λu s1 ⟨x,H1,I1,r1,q1⟩=>?_);exact jb (hr pos pins s1 σ H1 _ I1 q1) λus s2 ⟨xs,H2,I2,r2,q2⟩=>⟨x :: xs,H2,I2,.cons r1 r2,q2⟩
def atm (t:TA):TE:=fun σ H Q=>t σ H λxs H1=>xs.length <= sizeLine/\∀ p,H1 p=none->Q (.ref p) (upd H1 p (.tup xs))
def atn (t:TA):TE:=fun σ H Q=>t σ H λxs H1=>xs.length <= sizeLine/\∀ p,H1 p=none->Q (.ref p) (upd H1 p (.lst xs))
theorem ai9 {x1} (h:PA X es t):PE X (.Tuple es x1 pos) (atm t):=by intro pins s σ H Q I hq;refine wpAny_Tuple_spliced (jb (h pos pins s σ H _ I hq) λus s1 ⟨xs,H1,I1,r,z,q⟩=>⟨by rw [<- r.length];exact z,?_⟩);have hf:H1 s1.heap.objs.size=none:=I1.hok.fresh (Nat.le_refl _);refine ⟨.ref s1.heap.objs.size,upd H1 s1.heap.objs.size (.tup xs),I1.laid (t':=s1.toks) (λb u e=>Heap.get?_push_of_some _ e) (Nat.le_refl _) ?_,rfl,q _ hf⟩;exact ⟨z,us,r,⟨_,Heap.get?_push_size _ rfl,rfl,_,rfl⟩⟩
theorem Zj (h:PA X es t):PE X (.List es pos) (atn t):=by intro pins s σ H Q I hq;refine wpAny_List_spliced (jb (h pos pins s σ H _ I hq) λus s1 ⟨xs,H1,I1,r,z,q⟩=>⟨by rw [<- r.length];exact z,?_⟩);have hf:H1 s1.heap.objs.size=none:=I1.hok.fresh (Nat.le_refl _);refine ⟨.ref s1.heap.objs.size,upd H1 s1.heap.objs.size (.lst xs),I1.laid (t':=s1.toks) (λb u e=>Heap.get?_push_of_some _ e) (Nat.le_refl _) ?_,rfl,q _ hf⟩;exact ⟨z,us,0,r,Heap.get?_push_size _ rfl⟩
end
abbrev Sp:=List V->Hp->VK->XK->Prop
abbrev Yv:=List Env->Hp->Shared->XK->Value->Shared->Prop
structure Tt (P:Program) (w:World) (K:Fg) (mg:Str->Option Value) (base:Heap) (A:Around) (outer:List Env) (s:Shared) (H:Hp):Prop where
 frames:A.frames=some outer
 mod:Mod K mg base
 bs:∀ b o,base.get? b=some o->s.heap.get? b=some o/\H b=none
 bsz:base.objs.size <= s.heap.objs.size
 Hv:s.heap.FunFrames base outer
 frf:∀ b∈frs outer,H b=none
 hok:Cm P w H s.heap
 bare:AllBare s.gens
def CE (outer:List Env) (P:Program) (w:World) (H:Hp) (s:Shared) (Q:VK) (u:Value) (s':Shared):Prop :=
 ∃ v H',s'.os=s.os/\AllBare s'.gens/\Un (frs outer) [] H H' s.heap s'.heap/\Cm P w H' s'.heap/\RelV v u/\Q v H'
def CR (CX:Yv) (outer:List Env) (P:Program) (w:World) (H:Hp) (s:Shared) (Q:VK) (E:XK) (r:Result) (s':Shared):Prop :=
 match r with
 | .ok (.ret u)=>CE outer P w H s Q u s'|.ok _=>False|.error e=>CX outer H s E e s'
structure m5 (P:Program) (w:World) (K:Fg) (mg:Str->Option Value) (base:Heap) (CX:Yv) (k:Nat) (f:Addr) (fd:FuncData) (ps:List Str) (sp:Sp):Prop where
 len:∀ vs H Q E,sp vs H Q E->vs.length=ps.length
 run:∀ (A:Around) (outer:List Env) (s:Shared) (H:Hp) (args:Args) (us:List Value) (vs:List V) (Q:VK) (E:XK),gm k A->Tt P w K mg base A outer s H->BindsTo s fd args (ps.zip us)->Vals vs us->sp vs H Q E ->
  codeAny (model P w) A (.call (.ref f) args) (CR CX outer P w H s Q E) s
theorem m5.imp {P:Program} {w:World} {K:Fg} {mg:Str->Option Value} {base:Heap} {CX:Yv} {k:Nat} {f:Addr} {fd:FuncData} {ps:List Str} {sp sp':Sp} (F:m5 P w K mg base CX k f fd ps sp)
 (h:∀ vs H Q E,sp' vs H Q E->sp vs H Q E):m5 P w K mg base CX k f fd ps sp' :=
 ⟨λvs H Q E q=>F.len vs H Q E (h _ _ _ _ q),λA outer s H args us vs Q E hr he hb hv hs=>F.run A outer s H args us vs Q E hr he hb hv (h _ _ _ _ hs)⟩
theorem Tt.make {P:Program} {w:World} {K:Fg} {mg:Str->Option Value} {base:Heap} {A:Around} {outer:List Env} {s:Shared} {H:Hp} (e:Tt P w K mg base A outer s H) (C:Addr) (us:List Value) (kw:List (Str×Value)) :
 Tt P w K mg base (A.under (.builtin "type.__call__" ⟨.ref C :: us,kw⟩)) outer s H:=⟨by first | exact e.frames | (simpa [Around.under,Code.envs,Code.isFrame,pushEnvs] using e.frames),e.mod,e.bs,e.bsz,e.Hv,e.frf,e.hok,e.bare⟩
section
variable {X:Cx} {pins:List (Addr×Obj)} {σ:St} {H:Hp} {s s':Shared}
theorem Inv.env0 (I:Inv X pins σ H s):Tt X.prog X.w X.K X.mg X.base X.A X.stack s H :=
 ⟨I.ok.frames,I.ok.mod,I.bs,Nat.le_trans I.ok.bsz I.sz,I.stack,I.U9,I.hok,I.bare⟩
theorem Inv.after {Q:VK} {u:Value} (I:Inv X pins σ H s) (h:CE X.stack X.prog X.w H s Q u s'):EP X pins σ Q u s':=by obtain ⟨v,H',os,bare,un,hok,r,q⟩:=h;obtain ⟨hh,g,d,t,os'⟩:=s';obtain rfl:os'=s.os:=os;exact ⟨v,H',I.call (h':=hh) (g':=g) (d':=d) (t':=t) (ch:=[]) un hok bare (λb z=>absurd z (by simp)),r,q⟩
end
def ano (sp:Sp) (K3:List V) (E:XK) (t:TA):TE:=fun σ H Q=>t σ H λvs H1=>sp (vs ++ K3) H1 Q E
def ahd (C:Addr) (m:Str) (sp:Sp) (K3:List V) (E:XK) (ta:TE) (t:TA):TE:=fun σ H Q=>ta σ H λx H1=>∃ a dx fs,x=.ref a/\H1 a=some (.ins C dx fs)/\fs.lookup m=none /\
 t σ H1 λvs H2=>sp (x :: (vs ++ K3)) H2 Q E
def anp (C:Addr) (sp:Sp) (K3:List V) (E:XK) (t:TA):TE:=fun σ H Q=>t σ H λvs H1=>∀ x dx,H1 x=none->H1 dx=none->dx≠x ->
 sp (.ref x :: (vs ++ K3)) (upd (upd H1 dx (.own x)) x (.ins C dx [])) (λv H2=>v=.non/\Q (.ref x) H2) E
def Binds (K:Fg) (fd:FuncData) (ps:List Str) (ds:List Value):Prop :=
 ∀ (s:Shared) (us:List Value),K.In s.heap->(us ++ ds).length=ps.length->BindsTo s fd ⟨us,[]⟩ (ps.zip (us ++ ds))
theorem Binds.all {K:Fg} {fd:FuncData} {ps:List Str} (h:∀ us:List Value,us.length=ps.length->bindArgs fd ⟨us,[]⟩=pure (ps.zip us)):Binds K fd ps []:=λs us _ hl=>by rw [List.append_nil] at hl ⊢;exact .of_eq (h us hl)
def Passes (CX:Yv) (X:Cx) (E:XK):Prop:=∀ (pins:List (Addr×Obj)) (σ:St) (H:Hp) (s:Shared) (e:Value) (s':Shared),Inv X pins σ H s->CX X.stack H s E e s'->X.xe e s'
section
variable {X:Cx} {CX:Yv} {k:Nat} {f C:Addr} {fd:FuncData} {ps:List Str} {sp:Sp} {K3:List V} {ds:List Value} {E:XK} {x m:Str} {p pos apos:Pos} {e o:Expr} {es:List Expr} {ta:TE} {t:TA}
theorem Tu {pins:List (Addr×Obj)} {σ:St} {H:Hp} {s:Shared} {Q:VK} {us:List Value} {vs:List V} (F:m5 X.prog X.w X.K X.mg X.base CX k f fd ps sp) (hr:gm k X.A) (hb:Binds X.K fd ps ds) (hd:Vals K3 ds) (hx:Passes CX X E)
 (I:Inv X pins σ H s) (r:Vals vs us) (h:sp (vs ++ K3) H Q E):wpAny (model X.prog X.w) X.A (call (.ref f) us) (EP X pins σ Q) X.xe s:=by
 have r2:Vals (vs ++ K3) (us ++ ds):=r.append hd;have hl:(us ++ ds).length=ps.length:=by rw [<- r2.length];exact F.len _ _ _ _ h
 refine wpAny_call (codeAny_mono (F.run X.A X.stack s H ⟨us,[]⟩ (us ++ ds) (vs ++ K3) Q E hr I.env0 (hb s us I.Df hl) r2 h) λr s' hq=>?_);cases r with
 | error e=>exact hx pins σ H s e s' I hq
 | ok fl =>
  cases fl with
  | ret u=>exact I.after hq|next=>exact False.elim hq|brk=>exact False.elim hq|cont=>exact False.elim hq
theorem ad0 (F:m5 X.prog X.w X.K X.mg X.base CX k f fd ps sp) (hr:gm k X.A) (hg:Gl X x) (hm:X.mg x=some (.ref f)) (hk:PySem.W.keepIn X.K (.ref f)=true) (hb:Binds X.K fd ps ds) (hd:Vals K3 ds) (hx:Passes CX X E)
 (ha:PA X (e :: es) t) (hdb:(x == ("__debug__" : Str))=false:=by decide) (he:starEach (e :: es) X.env=(false,eval e X.env) :: starEach es X.env:=by rfl) (hpl:(backTo pos (starEach es X.env)).any (·.1)=false:=by rfl) :
 PE X (.Call (.Name x p) (e :: es) [] pos) (ano sp K3 E t):=by
 intro pins s σ H Q I h;refine wpAny_Call_Name_kw (Ni I hg hm ?_ hdb);refine PySem.W.callWith_K (h₀:=X.base) I.ok.mod.kin hk (jb (ha pos pins s σ H _ I h) λus s1 ⟨vs,H1,I1,r,q⟩=>⟨I1.Df,?_⟩) he hpl;exact Tu F hr hb hd hx I1 r q
theorem ad1 {pl:Sem Bool} (he:PE X o ta) (c:Qa X.K C) (hm:Meth X.K C m f) (F:m5 X.prog X.w X.K X.mg X.base CX k f fd ps sp) (hr:gm k X.A) (hb:Binds X.K fd ps ds) (hd:Vals K3 ds) (hx:Passes CX X E) (ha:PA X (e :: es) t)
 (hst:starEach (e :: es) X.env=(false,eval e X.env) :: starEach es X.env:=by rfl) (hpl:(backTo pos (starEach es X.env)).any (·.1)=false:=by rfl)
 (ht:eval (.Call (.Attribute o m apos) (e :: es) [] pos) X.env=(do
  let ov <- eval o X.env
  standAt apos.atName
  let (f,first) <- holding [ov] (getMethod ov m pl)
  callWith pos f first (backTo pos (starEach (e :: es) X.env)) (backToKw pos (keywordEach [] X.env))):=by rfl) :
 PE X (.Call (.Attribute o m apos) (e :: es) [] pos) (ahd C m sp K3 E ta t):=by
 intro pins s σ H Q I h;refine PySem.W.methodCall_KW (pl:=pl) (jb (he pins s σ H _ I h) λu s1 ⟨x,H1,I1,rx,a,dx,fs,ex,ea,l,q⟩=>?_) ht;subst ex;obtain rfl:u=Value.ref a:=rx;refine Ip I1 ea c hm l ?_;refine PySem.W.callWith_K (first:=[.ref a]) (h₀:=X.base) I.ok.mod.kin hm.kp (jb (ha pos pins s1 σ H1 _ I1 q) λus s2 ⟨vs,H2,I2,r,q2⟩=>⟨I2.Df,?_⟩) hst hpl;exact Tu (us:=.ref a :: us) (vs:=.ref a :: vs) F hr hb hd hx I2 (.cons rfl r) q2
theorem Zk {pl:Sem Bool} (he:PE X o ta) (c:Qa X.K C) (hm:Meth X.K C m f) (F:m5 X.prog X.w X.K X.mg X.base CX k f fd ps sp) (hr:gm k X.A) (hb:Binds X.K fd ps ds) (hd:Vals K3 ds) (hx:Passes CX X E)
 (ht:eval (.Call (.Attribute o m apos) [] [] pos) X.env=(do
  let ov <- eval o X.env
  standAt apos.atName
  let (f,first) <- holding [ov] (getMethod ov m pl)
  callWith pos f first (backTo pos (starEach [] X.env)) (backToKw pos (keywordEach [] X.env))):=by rfl) :
 PE X (.Call (.Attribute o m apos) [] [] pos) (ahd C m sp K3 E ta anl):=by
 intro pins s σ H Q I h;refine PySem.W.methodCall_KW (pl:=pl) (jb (he pins s σ H _ I h) λu s1 ⟨x,H1,I1,rx,a,dx,fs,ex,ea,l,q⟩=>?_) ht;subst ex;obtain rfl:u=Value.ref a:=rx;refine Ip I1 ea c hm l ?_;exact PySem.W.callWith_K0 (first:=[.ref a]) I1.Df hm.kp (Tu (us:=[.ref a]) (vs:=[.ref a]) F hr hb hd hx I1 (.cons rfl .nil) q)
structure Mk (K:Fg) (C f:Addr):Prop where
 makes:PySem.W.makesIn K C=true
 init:PySem.W.findIn K (.ref C) "__init__" = some (some (.ref f))
 fn:PySem.W.isFn K (.ref f)=true
 kp:PySem.W.keepIn K (.ref C)=true
theorem Zm {pins:List (Addr×Obj)} {σ:St} {H:Hp} {s:Shared} {Q:VK} {us:List Value} {vs:List V} (M:Mk X.K C f) (F:m5 X.prog X.w X.K X.mg X.base CX k f fd ps sp) (hr:gm (k+1) X.A) (hb:Binds X.K fd ps ds) (hd:Vals K3 ds)
 (hx:Passes CX X E) (I:Inv X pins σ H s) (r:Vals vs us)
 (h:∀ x dx,H x=none->H dx=none->dx≠x->sp (.ref x :: (vs ++ K3)) (upd (upd H dx (.own x)) x (.ins C dx [])) (λv H2=>v=.non/\Q (.ref x) H2) E) :
 wpAny (model X.prog X.w) X.A (call (.ref C) us) (EP X pins σ Q) X.xe s:=by
 have hq:=h (s.heap.objs.size+1) s.heap.objs.size (I.hok.fresh (Nat.le_succ _)) (I.hok.fresh (Nat.le_refl _)) (Nat.ne_of_lt (Nat.lt_succ_self _));have I2:=Inv.made (C:=C) I;have r2:Vals (V.ref (s.heap.objs.size+1) :: (vs ++ K3)) (Value.ref (s.heap.objs.size+1) :: (us ++ ds)):=.cons rfl (r.append hd);have hl:(Value.ref (s.heap.objs.size+1) :: us ++ ds).length=ps.length:=by have e:=r2.length;rw [F.len _ _ _ _ hq] at e;exact e.symm
 refine wpAny_call (Zi (f:=f) I.Df M.makes M.init (beq_iff_eq.mp M.fn) (codeAny_mono (F.run _ X.stack _ _ ⟨Value.ref (s.heap.objs.size+1) :: us,[]⟩ (Value.ref (s.heap.objs.size+1) :: (us ++ ds)) _ _ E (hr.make C us [])
  (I2.env0.make C us []) (hb _ (Value.ref (s.heap.objs.size+1) :: us) I2.Df hl) r2 hq) λr s' hq'=>?_))
 cases r with
 | error e=>exact hx pins σ _ _ e s' I2 hq'
 | ok fl =>
  cases fl with
  | ret u =>
   obtain ⟨v,H',I3,rv,ev,q3⟩:=I2.after hq';subst ev;exact ⟨rv,⟨V.ref (s.heap.objs.size+1),H',I3,rfl,q3⟩⟩
  | next=>exact False.elim hq'|brk=>exact False.elim hq'|cont=>exact False.elim hq'
theorem ad2 (M:Mk X.K C f) (F:m5 X.prog X.w X.K X.mg X.base CX k f fd ps sp) (hr:gm (k+1) X.A) (hg:Gl X x) (hm:X.mg x=some (.ref C)) (hb:Binds X.K fd ps ds) (hd:Vals K3 ds) (hx:Passes CX X E)
 (ha:PA X (e :: es) t) (hdb:(x == ("__debug__" : Str))=false:=by decide) (he:starEach (e :: es) X.env=(false,eval e X.env) :: starEach es X.env:=by rfl) (hpl:(backTo pos (starEach es X.env)).any (·.1)=false:=by rfl) :
 PE X (.Call (.Name x p) (e :: es) [] pos) (anp C sp K3 E t):=by
 intro pins s σ H Q I h;refine wpAny_Call_Name_kw (Ni I hg hm ?_ hdb);refine PySem.W.callWith_K (h₀:=X.base) I.ok.mod.kin M.kp (jb (ha pos pins s σ H _ I h) λus s1 ⟨vs,H1,I1,r,q⟩=>⟨I1.Df,?_⟩) he hpl;exact Zm M F hr hb hd hx I1 r q
end
structure Ie (N P:List Str) (sc:Scope):Prop where
 kind:sc.kind=.function
 co:sc.isCoroutine=false
 gen:sc.isGenerator=false
 nd:N.Nodup
 pre:N.take P.length=P
 par:∀ x∈P,sc.names.lookup x=some .local \/ sc.names.lookup x=some .cell
 aja:∀ y∈sc.names,y.2≠.free
theorem Lb {kindOf:Str->Option NameKind} {x:Str}:∀ {binds:List (Str×Value)} {m:Str->Option Value},(∀ v,(x,v) ∉ binds)->bindL kindOf binds m x=m x
 | [],_,_=>rfl
 | (n,v) :: r,m,h=>by
  unfold bindL;rw [Lb λw hw=>h w (List.mem_cons_of_mem _ hw)];split
  . have:x≠n:=by rintro rfl;exact h v List.mem_cons_self
    simp [this]
  . rfl
theorem Ld {kindOf:Str->Option NameKind} {x:Str}:∀ {binds:List (Str×Value)} {m:Str->Option Value},(∀ v,(x,v) ∉ binds)->bindC kindOf binds m x=m x
 | [],_,_=>rfl
 | (n,v) :: r,m,h=>by
  unfold bindC;rw [Ld λw hw=>h w (List.mem_cons_of_mem _ hw)];split
  . rfl
  . have:x≠n:=by rintro rfl;exact h v List.mem_cons_self
    simp [this]
theorem Lf {kindOf:Str->Option NameKind} {x:Str} {v:Value}:∀ {P:List Str} {vs:List Value} {i:Nat} {m:Str->Option Value},P.Nodup->P[i]?=some x->vs[i]?=some v->kindOf x=some .local ->
 bindL kindOf (P.zip vs) m x=some v
 | [],_,_,_,_,h,_,_=>by simp at h|_ :: _,[],_,_,_,_,h,_=>by simp at h
 | p :: P,w :: vs,0,m,nd,h1,h2,hk=>by
  simp at h1 h2;subst h1;subst h2;show bindL kindOf ((p,w) :: P.zip vs) m p=_;unfold bindL;rw [Lb λv hv=>(List.nodup_cons.mp nd).1 (List.of_mem_zip hv).1,if_pos hk];simp
 | p :: P,w :: vs,i+1,m,nd,h1,h2,hk=>by
  show bindL kindOf ((p,w) :: P.zip vs) m x=_;unfold bindL;exact Lf (i:=i) (List.nodup_cons.mp nd).2 (by simpa using h1) (by simpa using h2) hk
theorem Lg {kindOf:Str->Option NameKind} {x:Str} {v:Value}:∀ {P:List Str} {vs:List Value} {i:Nat} {m:Str->Option Value},P.Nodup->P[i]?=some x->vs[i]?=some v->kindOf x≠some .local ->
 bindC kindOf (P.zip vs) m x=some v
 | [],_,_,_,_,h,_,_=>by simp at h|_ :: _,[],_,_,_,_,h,_=>by simp at h
 | p :: P,w :: vs,0,m,nd,h1,h2,hk=>by
  simp at h1 h2;subst h1;subst h2;show bindC kindOf ((p,w) :: P.zip vs) m p=_;unfold bindC;rw [Ld λv hv=>(List.nodup_cons.mp nd).1 (List.of_mem_zip hv).1,if_neg hk];simp
 | p :: P,w :: vs,i+1,m,nd,h1,h2,hk=>by
  show bindC kindOf ((p,w) :: P.zip vs) m x=_;unfold bindC;exact Lg (i:=i) (List.nodup_cons.mp nd).2 (by simpa using h1) (by simpa using h2) hk
def start (N:List Str) (vs:List V):St:=vs.map some ++ List.replicate (N.length - vs.length) none
def Tv (CX:Yv) (P:Program) (w:World) (K:Fg) (mg:Str->Option Value) (base:Heap) (N:List Str) (qual:Str) (scope:Scope) (f:Addr) (cd:Value) (A:Around) (outer:List Env) (s:Shared) (H:Hp) (E:XK):Cx where
 prog:=P
 w:=w
 K:=K
 mg:=mg
 base:=base
 A:=A.deeper (envOfC qual scope s.heap.objs.size f cd)
 N:=N
 s₀:=s
 H₀:=H
 env:=envOfC qual scope s.heap.objs.size f cd
 outer:=outer
 stack:=envOfC qual scope s.heap.objs.size f cd :: outer
 ex:=[]
 calm:=true
 fn:=λ_=>true
 pn:=[]
 xe:=λe s'=>wpAny (model P w) (A.deeper (envOfC qual scope s.heap.objs.size f cd)) (leaving (envOfC qual scope s.heap.objs.size f cd) e) (λ_ s''=>CX outer H s E e s'') (λe' s''=>CX outer H s E e' s'') s'
theorem Qm {sc:Scope} {n:Nat} {x:Str} (h:sc.names.lookup x=some .cell):∃ c,(cellsFrom n sc.names []).lookup x=some c:=by have q:=PySem.W.cellsFrom_some sc.names n [] (.inl h);exact Option.isSome_iff_exists.mp q
theorem W8 {CX:Yv} {P:Program} {w:World} {K:Fg} {mg:Str->Option Value} {base:Heap} {N ps:List Str} {qual:Str} {scope:Scope} {f:Addr} {cd:Value} {A:Around} {outer:List Env} {s s1:Shared} {H:Hp} {E:XK} {us:List Value} {vs:List V}
 (S:Ie N ps scope) (hd:A.handled=none) (e0:Tt P w K mg base A outer s H) (hl:vs.length=ps.length) (r:Vals vs us)
 (x:InCallC s s.heap.objs.size (bindL (envOfC qual scope s.heap.objs.size f cd).kindOf (ps.zip us) λ_=>none) (cellsFrom (s.heap.objs.size+1) scope.names []) (bindC (envOfC qual scope s.heap.objs.size f cd).kindOf (ps.zip us) λ_=>none) s1) :
 Inv (Tv CX P w K mg base N qual scope f cd A outer s H E) [] (start N vs) H s1:=by
 have hpl:ps.length <= N.length:=by have:=congrArg List.length S.pre;rw [List.length_take] at this;omega
 obtain ⟨h1,tk,rfl,hk⟩:=x.done;have noA:∀ b:Addr,b ∉ (Tv CX P w K mg base N qual scope f cd A outer s H E).ex:=λb z=>absurd (show b∈([]:List Addr) from z) (by simp)
 refine ⟨⟨e0.mod,S.kind,rfl,rfl,Nat.le_refl _,λy z c h1 h2=>?_,λy hy=>?_,λy c _ h=>?_,λ_=>hd,Around.frames_deeper e0.frames,.inr ⟨rfl,rfl⟩,λb z=>absurd z (noA b),e0.bs,e0.bsz,λb _ _=>noA b,λb z=>absurd z (noA b),e0.Hv,e0.frf⟩,
  rfl,e0.bare,Un.kept hk,⟨_,x.toInCall.ns,λi y v h1 h2 h3=>?_⟩,λy c h=>⟨_,x.cell y c h⟩,e0.hok.fresh (Nat.le_refl _),λy c h=>?_,λp hp=>absurd (show p∈([]:List (Addr×Obj)) from hp) (by simp),e0.hok.kept hk,?_⟩
 . exact name_of_addr x.apart (PySem.mem_of_lookup h1) (PySem.mem_of_lookup h2)
 . have hy:scope.names.lookup y=some .cell \/ scope.names.lookup y=some .free:=hy
   rcases hy with hy | hy
   . exact Qm hy
   . exact absurd rfl (S.aja _ (PySem.mem_of_lookup hy))
 . exact Nat.le_of_lt (x.above y c (PySem.mem_of_lookup h))
 . have hi:i < vs.length:=by
    unfold start at h2
    by_cases hi:i < vs.length
    . exact hi
    . rw [List.getElem?_append_right (by simpa using hi)] at h2
      rw [List.getElem?_replicate] at h2;split at h2<;>cases h2
   have ha:vs[i]?=some v:=by
    unfold start at h2;rw [List.getElem?_append_left (by simpa using hi),List.getElem?_map] at h2;cases e:vs[i]? with
    | none=>rw [e] at h2;cases h2|some a=>rw [e] at h2;cases h2;rfl
   obtain ⟨u,hu,rv⟩:=r.get ha;have hp:ps[i]?=some y:=by rw [<- S.pre,List.getElem?_take_of_lt (by omega)];exact h1
   have ndP:ps.Nodup:=by rw [<- S.pre];exact S.nd.sublist (List.take_sublist _ _)
   refine ⟨u,rv,?_⟩;rcases S.par y (List.mem_of_getElem? hp) with k | k
   . exact .inl ⟨k,Lf ndP hp hu k⟩
   . obtain ⟨c,e⟩:=Qm (n:=s.heap.objs.size+1) k
     refine .inr ⟨.inl k,c,e,?_⟩;have q:=x.cell y c e;rw [Lg ndP hp hu (by show scope.names.lookup y≠_;rw [k];decide)] at q;exact q
 . exact e0.hok.fresh (Nat.le_of_lt (x.above y c (PySem.mem_of_lookup h)))
 . unfold start
   show _=N.length;rw [List.length_append,List.length_map,List.length_replicate];omega
theorem anr {CX:Yv} {P:Program} {w:World} {K:Fg} {mg:Str->Option Value} {base:Heap} {k:Nat} {f:Addr} {name qual:Str} {params:Arguments} {body:List Stmt} {scope:Scope} {dV kV doc pm cdv ct oc:Value} {an od:Option Addr}
 {osl:Array (Option Value)} {N ps:List Str} {sp:Sp} (lk:K.lookup f=some ⟨oc,od,.func (PySem.W.fnOf name qual params body scope dV kV doc pm an cdv ct),osl⟩) (hcd:PySem.W.codeIn K cdv qual=true) (S:Ie N ps scope)
 (len:∀ vs H Q E,sp vs H Q E->vs.length=ps.length)
 (hbody:∀ (A:Around) (outer:List Env) (s:Shared) (H:Hp) (vs:List V) (Q:VK) (E:XK),gm k (A.deeper (envOfC qual scope s.heap.objs.size f cdv))->sp vs H Q E ->
  ∃ t,Ec (Tv CX P w K mg base N qual scope f cdv A outer s H E) body t/\t { nx:=λ_ H'=>Q .non H',rt:=Q } (start N vs) H) :
 m5 P w K mg base CX (k+1) f (PySem.W.fnOf name qual params body scope dV kV doc pm an cdv ct) ps sp:=by
 refine ⟨len,λA outer s H args us vs Q E hr e0 hb r hsp=>?_⟩;have hl:=len _ _ _ _ hsp;have KX:K.In s.heap:=e0.mod.kin.keeps λb o e=>(e0.bs b o e).1
 have lim:s.heap.NoLimit:=e0.mod.nolimit.keeps λb o e=>(e0.bs b o e).1
 have hkind:∀ y∈ps.zip us,scope.names.lookup y.1=some .local \/ (scope.names.lookup y.1=some .cell/\((cellsFrom (s.heap.objs.size+1) scope.names []).lookup y.1).isSome=true):=λ⟨n,v⟩ hy=>by
  rcases S.par n (List.of_mem_zip hy).1 with q | q
  . exact .inl q
  . exact .inr ⟨q,PySem.W.cellsFrom_some _ _ _ (.inl q)⟩
 refine codeAny_call_function hr.depth (KX _ _ lk) rfl S.co S.gen rfl (PySem.W.codeRec_of KX hcd) (hb _ _ _ _ ?_);refine wpAny_newFunctionEnv_cells S.kind hkind λenv he s1 x=>?_
 subst he;refine ⟨lim.keeps x.toInCall.keep,codeAny_func ?_⟩;obtain ⟨t,ht,hq⟩:=hbody A outer s H vs Q E (hr.deeper _) hsp;have I:Inv (Tv CX P w K mg base N qual scope f cdv A outer s H E) [] (start N vs) H s1:=W8 S hr.hd e0 hl r x;refine wpAny_mono (ht [] s1 (start N vs) H _ I hq) (λfl s' hs=>?_) λe s' hs=>hs
 have fin:∀ {σ':St} {H':Hp} {v:V} {u:Value},Inv (Tv CX P w K mg base N qual scope f cdv A outer s H E) [] σ' H' s'->RelV v u->Q v H'->CE outer P w H s Q u s' :=
  fun {σ' H' v u} J rv q=>⟨v,H',J.os,J.bare,J.base,J.hok,rv,q⟩
 cases fl with
 | ret u =>
  obtain ⟨v,σ',H',J,rv,q⟩:=hs;exact fin J rv q
 | next =>
  obtain ⟨σ',H',J,q⟩:=hs;exact fin (v:=V.non) (u:=Value.none) J rfl q
 | brk =>
  obtain ⟨_,_,_,q⟩:=hs;exact False.elim q
 | cont =>
  obtain ⟨_,_,_,q⟩:=hs;exact False.elim q
end L2
namespace L2
open PySem PySem.Spec PyProof.Rows
section
variable {X:Cx} {x:Str} {p pos:Pos} {e:Expr} {es:List Expr} {t:TA} {id T:String} {r:List V->Hp->VK->Prop}
def tCB (r:List V->Hp->VK->Prop) (t:TA):TE:=fun σ H Q=>t σ H λvs H1=>r vs H1 Q
theorem Zn (hc:jy X (.builtin id) r) (hg:Gl X x) (hm:X.mg x=none) (hv:bootBuiltins x=some (.builtin id)) (ha:PA X (e :: es) t) (hn:x ≠ "__name__" := by decide) (hdb:(x == ("__debug__" : Str))=false:=by decide)
 (he:starEach (e :: es) X.env=(false,eval e X.env) :: starEach es X.env:=by rfl) (hpl:(backTo pos (starEach es X.env)).any (·.1)=false:=by rfl):PE X (.Call (.Name x p) (e :: es) [] pos) (tCB r t):=by
 intro pins s σ H Q I h;refine wpAny_Call_Name_kw (j4 I hg hm hv ?_ hn hdb);exact PyProof.Rows.callWith_builtin1 (jb (ha pos pins s σ H _ I h) λus s1 ⟨vs,H1,I1,r1,q1⟩=>hc pins s1 σ H1 vs us Q I1 r1 q1) he hpl
theorem W9 (hc:jy X (.type T) r) (hg:Gl X x) (hm:X.mg x=none) (hv:bootBuiltins x=some (.type T)) (ha:PA X (e :: es) t) (hn:x ≠ "__name__" := by decide) (hdb:(x == ("__debug__" : Str))=false:=by decide)
 (he:starEach (e :: es) X.env=(false,eval e X.env) :: starEach es X.env:=by rfl) (hpl:(backTo pos (starEach es X.env)).any (·.1)=false:=by rfl):PE X (.Call (.Name x p) (e :: es) [] pos) (tCB r t):=by
 intro pins s σ H Q I h;refine wpAny_Call_Name_kw (j4 I hg hm hv ?_ hn hdb);exact PyProof.Rows.callWith_type1 (jb (ha pos pins s σ H _ I h) λus s1 ⟨vs,H1,I1,r1,q1⟩=>hc pins s1 σ H1 vs us Q I1 r1 q1) he hpl
end
end L2
namespace HT
open PySem PyProof.Rows
section
variable {prog:Program} {w:World} {A:Around} {E:Value->Shared->Prop} {s:Shared}
theorem ad3 {t b:Addr} {vs ws:List Value} {Q:Value->Shared->Prop} (ht:IsTup s.heap t vs.toArray) (hb:IsTup s.heap b ws.toArray) (hv:vs≠[])
 (h1:ws=[]->Q (.ref t) s) (h2:ws≠[]->Q (.ref s.heap.objs.size) { s with heap:=s.heap.push { cls:=.type "tuple",data:=.seq (vs ++ ws).toArray } })
 (hsz:vs.length+ws.length <= sizeLine):wpAny (model prog w) A (binaryOp .Add (.ref t) (.ref b)) Q E s:=by
 obtain ⟨⟨cls,dd,data,sl⟩,ho,hc,n,hd⟩:=id ht;obtain ⟨⟨cls2,dd2,data2,sl2⟩,ho2,hc2,n2,hd2⟩:=id hb;simp only at hc hd hc2 hd2;subst hc hd hc2 hd2;have e:vs.toArray ++ ws.toArray=(vs ++ ws).toArray:=by simp
 by_cases hw:ws=[]
 . exact concat_meets ⟨_,ho,rfl⟩ ⟨_,ho2,rfl⟩ noFill_tuple_add seq_tuple_add PySem.F.slot_tuple_add PySem.F.entry_tuple_add (PySem.F.args_tuple_add_2 _ _)
    (tuple_addW1 t b vs.toArray ws.toArray n n2 dd dd2 sl sl2 (by simpa using hv) (by simp [hw])) ⟨ho,ho2,h1 hw⟩
 . refine concat_meets ⟨_,ho,rfl⟩ ⟨_,ho2,rfl⟩ noFill_tuple_add seq_tuple_add PySem.F.slot_tuple_add PySem.F.entry_tuple_add (PySem.F.args_tuple_add_2 _ _)
    (tuple_addW2 t b vs.toArray ws.toArray n n2 dd dd2 sl sl2 (by simpa using hv) (by simpa using hw) (by rw [List.size_toArray,List.size_toArray];exact hsz)) ⟨ho,ho2,?_⟩
   rw [e];exact h2 hw
def qj (n d:Nat):Option Int->Nat
 | none=>d|some v=>if v < 0 then (v+(n:Int)).toNat else min v.toNat n
theorem ajb (n d:Nat) (hd:d <= n) (o:Option Int):qj n d o <= n:=by
 cases o with
 | none=>exact hd
 | some v =>
  show (if v < 0 then (v+(n:Int)).toNat else min v.toNat n) <= n
  by_cases hv:v < 0
  . rw [if_pos hv];omega
  . rw [if_neg hv];exact Nat.min_le_right _ _
theorem Ve (v:Int) (n d:Nat):(if v < 0 then max (v+(n:Int)) 0 else min v (n:Int))=((qj n d (some v):Nat):Int):=by
 show (if v < 0 then max (v+(n:Int)) 0 else min v (n:Int))=(((if v < 0 then (v+(n:Int)).toNat else min v.toNat n):Nat):Int)
 by_cases hv:v < 0
 . simp only [if_pos hv];omega
 . simp only [if_neg hv];omega
theorem Tw (lo hi:Option Int) (n:Nat):Builtin.Slice.sliceAdjust lo hi 1 (n:Int)=(((qj n 0 lo:Nat):Int),((qj n n hi:Nat):Int)):=by
 have h1:¬ ((1:Int) < 0):=by omega
 unfold Builtin.Slice.sliceAdjust;simp only [h1,if_false];refine Prod.ext ?_ ?_
 . cases lo with
   | none=>rfl|some v=>exact Ve v n 0
 . cases hi with
   | none=>rfl|some v=>exact Ve v n n
theorem Tz (i j:Nat):Builtin.Slice.slicePlaces (i:Int) (j:Int) 1=j - i:=by
 unfold Builtin.Slice.slicePlaces;have h1:(1:Int) > 0:=by omega
 simp only [h1,if_true,Int.ediv_one];split<;>omega
theorem Ir {v:Value} {o:Option Int} {Q:Option Int->Shared->Prop} (p:IsPart v o) (h:Q o s):wpAny (model prog w) A (Builtin.Slice.slicePartIndex v) Q E s:=by
 cases p with
 | none=>exact slicePart_none h|int i t=>exact slicePart_int h
theorem Gi {sl:Addr} {vl vu:Value} {lo hi:Option Int} {n:Nat} {Q:Int×Int×Nat->Shared->Prop} (hs:s.heap.IsSliceOf sl vl vu .none) (pl:IsPart vl lo) (pu:IsPart vu hi)
 (h:Q (((qj n 0 lo:Nat):Int),1,qj n n hi - qj n 0 lo) s):wpAny (model prog w) A (Builtin.Slice.sliceApplied (.ref sl) (pure (n:Int))) Q E s:=by
 obtain ⟨os,hos,hcs,hds⟩:=id hs;unfold Builtin.Slice.sliceApplied Builtin.Slice.sliceFields;refine wpAny_bind (wpAny_bind (wpAny_field hos hds (x:=vl) rfl (wpAny_bind (wpAny_field hos hds (x:=vu) rfl (wpAny_bind (wpAny_field hos hds (x:=.none) rfl (wpAny_pure ?_)))))));refine wpAny_bind (slicePart_none ?_);show wpAny _ _ (if ((1:Int) == 0)=true then _ else _) _ _ s;rw [if_neg (by decide)];refine wpAny_bind (Ir pl (wpAny_bind (Ir pu (wpAny_bind (wpAny_pure ?_)))));show wpAny _ _ (match Builtin.Slice.sliceAdjust lo hi 1 (n:Int) with | (lo,hi)=>pure (lo,(1:Int),Builtin.Slice.slicePlaces lo hi 1)) _ _ s;rw [Tw lo hi n];show wpAny _ _ (pure (((qj n 0 lo:Nat):Int),(1:Int),Builtin.Slice.slicePlaces ((qj n 0 lo:Nat):Int) ((qj n n hi:Nat):Int) 1)) _ _ s;rw [Tz];exact wpAny_pure h
theorem Zo (xs:Array Value) (i k:Nat):((List.range k).filterMap λ(m:Nat)=>xs[((i:Int)+(m:Int) * 1).toNat]?).toArray=((xs.toList.drop i).take k).toArray:=by
 have e:(λ(m:Nat)=>xs[((i:Int)+(m:Int) * 1).toNat]?)=λm=>xs[i+m]?:=by
  funext m
  have:((i:Int)+(m:Int) * 1).toNat=i+m:=by omega
  rw [this]
 rw [e];have:=pick_run xs i k;rw [List.filterMap_map] at this;have e2:((λx=>xs[x]?) ∘ λx=>i+x)=λm=>xs[i+m]?:=rfl
 rw [e2] at this;rw [this]
theorem Ed {t sl:Addr} {items:Array Value} {vl vu:Value} {lo hi:Option Int} {Q:Value->Shared->Prop} (ht:IsTup s.heap t items) (hs:s.heap.IsSliceOf sl vl vu .none) (pl:IsPart vl lo) (pu:IsPart vu hi)
 (hw:¬ (qj items.size 0 lo=0/\qj items.size items.size hi=items.size))
 (h:Q (.ref s.heap.objs.size) { s with heap:=s.heap.push { cls:=.type "tuple",data:=.seq ((items.toList.drop (qj items.size 0 lo)).take (qj items.size items.size hi - qj items.size 0 lo)).toArray } })
 (hsz:items.size <= sizeLine):wpAny (model prog w) A (getItem (.ref t) (.ref sl)) Q E s:=by
 have Vf:sizeOk (.seq ((items.toList.drop (qj items.size 0 lo)).take (qj items.size items.size hi - qj items.size 0 lo)).toArray):=by
  show ((items.toList.drop (qj items.size 0 lo)).take (qj items.size items.size hi - qj items.size 0 lo)).toArray.size <= sizeLine
  rw [List.size_toArray,List.length_take,List.length_drop,Array.length_toList];omega
 have hj:qj items.size items.size hi <= items.size:=ajb _ _ (Nat.le_refl _) hi
 obtain ⟨os,hos,hcs,hds⟩:=id hs;have hTs:s.TypeIs (.ref sl) "slice" := ⟨os,hos,hcs⟩;unfold getItem
 try with_reducible refine wpAny_holding ?_
 first | refine wpAny_bind (wpAny_pure ?_) | skip
 refine wpAny_bind (wpAny_sequenceKey ht.typeIs (by decide) ?_);refine wpAny_bind (wpAny_callSpecial?_slot (name:=Str.ofString "__getitem__") ht.typeIs PyProof.Rows.slot_tuple_getitem
  (wpAny_call_entry PyProof.Rows.slot_tuple_getitem ht.typeIs entry_tuple_getitem ?_ (args_tuple_getitem _ _)))
 show wpAny _ _ (Builtin.Tuple.tupleItemsOf (.ref t) >>= _) _ _ s;refine wpAny_bind (tupleItemsOf_ ht ?_);refine wpAny_bind (wpAny_typeOf hTs ?_);rw [if_pos (by decide)];refine wpAny_bind (Gi hs pl pu ?_);have hno:¬ ((((qj items.size 0 lo:Nat):Int) == 0 && (1:Int) == 1 && (qj items.size items.size hi - qj items.size 0 lo) == items.size)=true):=by intro q;rw [Bool.and_eq_true,Bool.and_eq_true] at q;have q1:((qj items.size 0 lo:Nat):Int)=0:=eq_of_beq q.1.1;have q2:qj items.size items.size hi - qj items.size 0 lo=items.size:=eq_of_beq q.2;exact hw ⟨by omega,by omega⟩
 show wpAny _ _ (if (((qj items.size 0 lo:Nat):Int) == 0 && (1:Int) == 1 && (qj items.size items.size hi - qj items.size 0 lo) == items.size)=true then _ else _) _ _ s;rw [if_neg hno,Zo]
 first
  | exact wpAny_bind (m:=Builtin.Tuple.tupleExact _) (wpAny_newObj_type (wpAny_pure ⟨_,rfl,wpAny_pure h⟩) Vf)
  | exact wpAny_bind (m:=Builtin.Tuple.tupleExact _) (wpAny_newObj_type (wpAny_bind (wpAny_pure (wpAny_pure ⟨_,rfl,wpAny_pure h⟩))) Vf)
  | exact wpAny_bind (wpAny_bind (m:=Builtin.Tuple.tupleExact _) (wpAny_newObj_type (wpAny_pure (wpAny_pure ⟨_,rfl,wpAny_pure h⟩)) Vf))
  | exact wpAny_bind (wpAny_bind (m:=Builtin.Tuple.tupleExact _) (wpAny_newObj_type (wpAny_pure ⟨_,rfl,wpAny_pure h⟩) Vf))
end
end HT
namespace L2
open PySem PySem.Spec PyProof.Rows
abbrev TO:=St->Hp->(Option Int->Hp->Prop)->Prop
def PO (X:Cx) (e:Option Expr) (t:TO):Prop :=
 ∀ (pins:List (Addr×Obj)) (s:Shared) (σ:St) (H:Hp) (Q:Option Int->Hp->Prop),Inv X pins σ H s->t σ H Q ->
  wpAny (model X.prog X.w) X.A (evalPart e X.env) (λu s'=>∃ o H',Inv X pins σ H' s'/\IsPart u o/\Q o H') X.xe s
def ad4:TO:=λ_ H Q=>Q none H
def ant (t:TE):TO:=fun σ H Q=>t σ H λx H1=>∃ i,x=.int i/\Q (some i) H1
section
variable {X:Cx} {e:Expr} {te:TE} {lo hi:Option Expr} {tl th:TO} {pos p2:Pos}
theorem ad5:PO X none ad4:=by intro pins s σ H Q I h;rw [evalPart_none];exact wpAny_pure ⟨none,H,I,.none,h⟩
theorem ad6 (h:PE X e te):PO X (some e) (ant te):=by
 intro pins s σ H Q I hw;rw [evalPart_some];refine jb (h pins s σ H _ I hw) λu s1 ⟨x,H1,I1,r1,q1⟩=>?_
 obtain ⟨i,rfl,q⟩:=q1;obtain ⟨t,rfl⟩:=r1;exact ⟨some i,H1,I1,.int i t,q⟩
def SlR (X:Cx) (r:V->Option Int->Option Int->Hp->VK->Prop):Prop :=
 ∀ (pins:List (Addr×Obj)) (s:Shared) (σ:St) (H:Hp) (x:V) (v vl vu:Value) (lo hi:Option Int) (sl:Addr) (Q:VK),Inv X pins σ H s->RelV x v->s.heap.IsSliceOf sl vl vu .none->IsPart vl lo->IsPart vu hi->r x lo hi H Q ->
  ∃ T id,typeLookup (.type T) "__getitem__" = pure (some (.builtin id))/\s.TypeIs v T/\wpAny (model X.prog X.w) X.A (getItem v (.ref sl)) (EP X pins σ Q) X.xe s
theorem SlR.or {r r':V->Option Int->Option Int->Hp->VK->Prop} (h:SlR X r) (h':SlR X r'):SlR X (λx lo hi H Q=>r x lo hi H Q \/ r' x lo hi H Q):=by
 intro pins s σ H x v vl vu lo hi sl Q I rx hs pl pu q;rcases q with q | q
 . exact h pins s σ H x v vl vu lo hi sl Q I rx hs pl pu q
 . exact h' pins s σ H x v vl vu lo hi sl Q I rx hs pl pu q
def tSl (r:V->Option Int->Option Int->Hp->VK->Prop) (te:TE) (tl th:TO):TE:=fun σ H Q=>te σ H λx H1=>tl σ H1 λl H2=>th σ H2 λu H3=>r x l u H3 Q
theorem Zq {r:V->Option Int->Option Int->Hp->VK->Prop} (hr:SlR X r) (he:PE X e te) (hl:PO X lo tl) (hu:PO X hi th):PE X (.Subscript e (.Slice lo hi none p2) pos) (tSl r te tl th):=by
 intro pins s σ H Q I h;refine Subscript_ (jb (he pins s σ H _ I h) λv s1 ⟨x,H1,I1,r1,q1⟩=>?_);refine wpAny_Slice (jb (hl pins s1 σ H1 _ I1 q1) λvl s2 ⟨l,H2,I2,pl,q2⟩=>jb (hu pins s2 σ H2 _ I2 q2) λvu s3 ⟨u,H3,I3,pu,q3⟩=>?_);rw [evalPart_none];refine wpAny_pure ?_;have I4:Inv X pins σ H3 { s3 with heap:=s3.heap.push { cls:=.type "slice",data:=.fields #[vl,vu,.none] } }:=I3.kept (t':=s3.toks) λb ob q=>Heap.get?_push_of_some _ q
 obtain ⟨T,id,hT,ht,hg⟩:=hr pins { s3 with heap:=s3.heap.push { cls:=.type "slice",data:=.fields #[vl,vu,.none] } } σ H3 x v vl vu l u s3.heap.objs.size Q I4 r1 (Heap.IsSliceOf.new ..) pl pu q3;show wpAny (model X.prog X.w) X.A (subscriptTail e (.Slice lo hi none p2) v (.ref s3.heap.objs.size)) (EP X pins σ Q) X.xe { s3 with heap:=s3.heap.push { cls:=.type "slice",data:=.fields #[vl,vu,.none] } };exact tail_any (ops:=[.ref s3.heap.objs.size,v]) ht hT hg (by with_unfolding_all rfl)
def K4 (xs:List V) (lo hi:Option Int):List V:=(xs.drop (HT.qj xs.length 0 lo)).take (HT.qj xs.length xs.length hi - HT.qj xs.length 0 lo)
theorem Ha (xs:List V) (lo hi:Option Int):(K4 xs lo hi).length <= xs.length:=by unfold K4;rw [List.length_take,List.length_drop];omega
def atp (K:Fg):V->Option Int->Option Int->Hp->VK->Prop:=λx lo hi H Q=>∃ a xs,x=.ref a/\yt K H a xs /\
 ¬ (HT.qj xs.length 0 lo=0/\HT.qj xs.length xs.length hi=xs.length)/\∀ p,H p=none->Q (.ref p) (upd H p (.tup (K4 xs lo hi)))
theorem ajc:SlR X (atp X.K):=by
 intro pins s σ H x v vl vu lo hi sl Q I rx hs pl pu h;obtain ⟨a,xs,rfl,hx,hw,q⟩:=h;cases rx;obtain ⟨its,r,ht,hz⟩:=I.tuple hx;have hlen:its.toArray.size=xs.length:=by rw [List.size_toArray];exact r.length.symm
 refine ⟨"tuple",_,PyProof.Rows.slot_tuple_getitem.lookup,ht.typeIs,?_⟩;refine HT.Ed ht hs pl pu (by rw [hlen];exact hw) ?_ (by rw [hlen];exact hz);rw [hlen];refine ⟨.ref s.heap.objs.size,_,I.laid (t':=s.toks) (o:=.tup (K4 xs lo hi)) (λb ob q=>Heap.get?_push_of_some _ q) (Nat.le_refl _) ?_,rfl,q _ (I.hok.fresh (Nat.le_refl _))⟩;exact ⟨Nat.le_trans (Ha xs lo hi) hz,_,(r.drop (HT.qj xs.length 0 lo)).take (HT.qj xs.length xs.length hi - HT.qj xs.length 0 lo),IsTup.new _ _⟩
def anu (K:Fg):R2:=λx y H Q=>∃ a b xs ys,x=.ref a/\y=.ref b/\yt K H a xs/\yt K H b ys/\xs≠[]/\xs.length+ys.length <= sizeLine /\
 (ys=[]->Q (.ref a) H)/\(ys≠[]->∀ p,H p=none->Q (.ref p) (upd H p (.tup (xs ++ ys))))
theorem Vals.Nq {xs:List V} {us:List Value} (r:Vals xs us):us=[] ↔ xs=[]:=by
 cases r with
 | nil=>simp|cons _ _=>simp
theorem ad7:jt X (binaryOp .Add) (anu X.K):=by intro pins s σ H x y v u Q I rx ry h;obtain ⟨a,b,xs,ys,rfl,rfl,ha,hb,hx,hz,q1,q2⟩:=h;cases rx;cases ry;obtain ⟨its,r1,p1,_⟩:=I.tuple ha;obtain ⟨its2,r2,p2,_⟩:=I.tuple hb;refine HT.ad3 p1 p2 (λz=>hx (r1.Nq.mp z)) (λz=>⟨.ref a,H,I,rfl,q1 (r2.Nq.mp z)⟩) (λz=>?_) (by rw [<- r1.length,<- r2.length];exact hz);refine ⟨.ref s.heap.objs.size,_,I.laid (t':=s.toks) (o:=.tup (xs ++ ys)) (λb ob q=>Heap.get?_push_of_some _ q) (Nat.le_refl _) ?_,rfl,q2 (λw=>z (r2.Nq.mpr w)) _ (I.hok.fresh (Nat.le_refl _))⟩;exact ⟨by rw [List.length_append];exact hz,_,r1.append r2,IsTup.new _ _⟩
end
end L2
namespace L2
open PySem PySem.Spec PyProof.Rows
def ixN (n:Nat) (i:Int):Option Nat:=if 0 <= i then (if i < n then some i.toNat else none) else if -(n:Int) <= i then some (i+n).toNat else none
def atI {α:Type} (xs:List α) (i:Int):Option α:=(ixN xs.length i).bind λj=>xs[j]?
theorem Vg {n:Nat} {i:Int} {j:Nat} (h:ixN n i=some j):seqIndex? i n=some j/\j < n/\-(n:Int) <= i/\i < n:=by
 unfold ixN at h
 by_cases h0:0 <= i
 . rw [if_pos h0] at h
   by_cases h1:i < n
   . rw [if_pos h1] at h
     have e:i.toNat=j:=Option.some.inj h;exact ⟨by rw [seqIndex_of h0 h1,e],by omega,by omega,h1⟩
   . rw [if_neg h1] at h;cases h
 . rw [if_neg h0] at h
   by_cases h1:-(n:Int) <= i
   . rw [if_pos h1] at h
     have e:(i+n).toNat=j:=Option.some.inj h;exact ⟨by rw [seqIndex_neg (by omega) h1,e],by omega,h1,by omega⟩
   . rw [if_neg h1] at h;cases h
theorem Vh {α:Type} {xs:List α} {i:Int} {v:α} (h:atI xs i=some v):∃ j,seqIndex? i xs.length=some j/\xs[j]?=some v/\j < xs.length/\-(xs.length:Int) <= i/\i < xs.length:=by
 unfold atI at h;cases e:ixN xs.length i with
 | none=>rw [e] at h;cases h
 | some j =>
  rw [e] at h;obtain ⟨h1,h2,h3,h4⟩:=Vg e;exact ⟨j,h1,h,h2,h3,h4⟩
def Nr (b:Expr):Prop:=∀ o i,subscripted b false o i=operate [o,i] (getItem o i)
def IxR (X:Cx) (r:R2):Prop :=
 ∀ (value slice:Expr) (pins:List (Addr×Obj)) (s:Shared) (σ:St) (H:Hp) (x y:V) (v u:Value) (Q:VK),Inv X pins σ H s->RelV x v->RelV y u->r x y H Q ->
  subscripted slice false v u=operate [v,u] (getItem v u)->wpAny (model X.prog X.w) X.A (subscriptTail value slice v u) (EP X pins σ Q) X.xe s
def MtR (X:Cx) (id:String) (r:V->List V->Hp->VK->Prop):Prop :=
 ∀ (pins:List (Addr×Obj)) (s:Shared) (σ:St) (H:Hp) (x:V) (xs:List V) (v:Value) (us:List Value) (Q:VK),Inv X pins σ H s->RelV x v->Vals xs us->r x xs H Q ->
  wpAny (model X.prog X.w) X.A (call (.builtin id) (v :: us)) (EP X pins σ Q) X.xe s
section
variable {X:Cx} {a b:Expr} {ta tb:TE} {pos:Pos}
theorem anw {r:R2} (hr:IxR X r) (ha:PE X a ta) (hb:PE X b tb) (hs:Nr b):PE X (.Subscript a b pos) (tOp r ta tb):=by intro pins s σ H Q I h;exact Subscript_ (aix ha hb I h λv u s2 x y H2 I2 rx ry q=>hr a b pins s2 σ H2 x y v u Q I2 rx ry q (hs _ _))
def atq (K:Fg):R2:=λx y H Q=>∃ p xs i v,x=.ref p/\y=.int i/\uh K H p xs/\atI xs i=some v/\Q v H
def atr (K:Fg):R2:=λx y H Q=>∃ p xs i v,x=.ref p/\y=.int i/\yt K H p xs/\atI xs i=some v/\Q v H
theorem uc:IxR X (atq X.K):=by
 intro value slice pins s σ H x y v u Q I rx ry h hs;obtain ⟨p,xs,i,z,rfl,rfl,hq,he,q⟩:=h;cases rx;obtain ⟨t,rfl⟩:=ry;obtain ⟨its,r,pl,hz⟩:=I.list hq;obtain ⟨j,h1,h2,h3,h4,h5⟩:=Vh he;obtain ⟨w,ew,rw'⟩:=r.get h2;have hl:=r.length;have hn:=Np;have fin:EP X pins σ Q w s:=⟨z,H,I,rw',q⟩
 by_cases h0:0 <= i
 . have hj:i.toNat=j:=by
    rw [seqIndex_of h0 h5] at h1;exact Option.some.inj h1
   exact item_listR pl.isList h0 (by omega) (by rw [hj];simpa using ew) fin hs
 . have hj:(i+(its.toArray.size:Int)).toNat=j:=by
    rw [seqIndex_neg (by omega) h4] at h1;rw [List.size_toArray,<- hl];exact Option.some.inj h1
   exact subscriptTail_builtinR (x:=w) pl.isList.typeIs slot_list_getitem.lookup
    (wpAny_getItem_list_neg (Q:=λr s'=>r=w/\EP X pins σ Q r s') pl.isList (by omega) (by rw [List.size_toArray]<;>omega) (by omega) (by rw [hj];simpa using ew) ⟨rfl,fin⟩) hs
theorem Dg:IxR X (atr X.K):=by
 intro value slice pins s σ H x y v u Q I rx ry h hs;obtain ⟨p,xs,i,z,rfl,rfl,hq,he,q⟩:=h;cases rx;obtain ⟨t,rfl⟩:=ry;obtain ⟨its,r,pl,hz⟩:=I.tuple hq;obtain ⟨j,h1,h2,h3,h4,h5⟩:=Vh he;obtain ⟨w,ew,rw'⟩:=r.get h2;have hl:=r.length;have hn:=Np;have fin:EP X pins σ Q w s:=⟨z,H,I,rw',q⟩;exact subscriptTail_builtinR (x:=w) pl.typeIs slot_tuple_getitem.lookup
  (getItem_tuple (j:=j) (Q:=λr s'=>r=w/\EP X pins σ Q r s') pl (by omega) (by omega) (by rw [List.size_toArray,<- hl];exact h1) (by simpa using ew) ⟨rfl,fin⟩) hs
theorem T3 (its:List Value) (n j:Nat) (u:Value):Obj.mapSeq (·.setIfInBounds j u) { cls:=.type "list",data:=.seq its.toArray n }={ cls:=.type "list",data:=.seq (its.set j u).toArray n }:=by simp [Obj.mapSeq]
theorem Inv.lst {pins:List (Addr×Obj)} {σ:St} {H:Hp} {s:Shared} {p:Addr} {xs:List V} (I:Inv X pins σ H s) (h:H p=some (.lst xs)) :
 ∃ (its:List Value) (n:Nat),Vals xs its/\s.heap.get? p=some { cls:=.type "list",data:=.seq its.toArray n }/\xs.length <= sizeLine:=by
 obtain ⟨z,its,n,r,e⟩:=I.hok p _ h;exact ⟨its,n,r,e,z⟩
theorem Inv.aje {pins:List (Addr×Obj)} {σ:St} {H:Hp} {s:Shared} {p:Addr} {xs ys:List V} {its its':List Value} {n n':Nat} {f:Obj->Obj} (I:Inv X pins σ H s) (h:H p=some (.lst xs))
 (ho:s.heap.get? p=some { cls:=.type "list",data:=.seq its.toArray n }) (hf:f { cls:=.type "list",data:=.seq its.toArray n }={ cls:=.type "list",data:=.seq its'.toArray n' }) (r:Vals ys its') (hz:ys.length <= sizeLine) (t:Nat) :
 Inv X pins σ (upd H p (.lst ys)) { s with heap:=s.heap.update p f,toks:=t }:=by
 have e:(s.heap.update p f).get? p=some { cls:=.type "list",data:=.seq its'.toArray n' }:=by rw [Heap.get?_update_self f ho (by rw [hf]<;>rfl),hf]
 refine I.write (x:=p) (e:=p) (by rw [h];trivial) (.inl rfl) (λb u hb q=>(Heap.get?_update_other _ _ (Ne.symm hb)).trans q) ⟨_,e⟩ ?_;exact ⟨hz,its',n',r,e⟩
def anx:V->V->V->Hp->(Hp->Prop)->Prop:=λo i v H Q=>∃ p xs k j,o=.ref p/\i=.int k/\H p=some (.lst xs)/\ixN xs.length k=some j/\Q (upd H p (.lst (xs.set j v)))
theorem set_list:aiq X anx:=by
 intro pins s σ H o i v ov iv u Q I ro ri rv h;obtain ⟨p,xs,k,j,rfl,rfl,hp,hj,q⟩:=h;cases ro;obtain ⟨t,rfl⟩:=ri;obtain ⟨its,n,r,ho,hz⟩:=I.lst hp;obtain ⟨h1,h2,h3,h4⟩:=Vg hj;have hl:=r.length;have hn:=Np;have I':Inv X pins σ (upd H p (.lst (xs.set j v))) { s with heap:=s.heap.update p (Obj.mapSeq (·.setIfInBounds j u)) } :=
  I.aje hp ho (T3 its n j u) (r.set rv j) (by rw [List.length_set];exact hz) s.toks
 by_cases h0:0 <= k
 . have hk:k.toNat=j:=by
    rw [seqIndex_of h0 h4] at h1;exact Option.some.inj h1
   exact PySem.W.ki_setAt ho h0 (by omega) (by rw [List.size_toArray,<- hl];exact h4) (by rw [hk];exact ⟨_,I',q⟩)
 . have hk:(k+(its.toArray.size:Int)).toNat=j:=by
    rw [seqIndex_neg (by omega) h3] at h1;rw [List.size_toArray,<- hl];exact Option.some.inj h1
   exact PySem.W.ki_setBack ho (by omega) (by rw [List.size_toArray,<- hl];exact h3) (by omega) (by rw [hk];exact ⟨_,I',q⟩)
theorem Nt (lo hi:Option Int) (n:Nat):(sliceBounds lo hi none n).1=((HT.qj n 0 lo:Nat):Int)/\(sliceBounds lo hi none n).2.1=((HT.qj n n hi:Nat):Int)/\(sliceBounds lo hi none n).2.2=1:=by
 refine ⟨?_,?_,rfl⟩
 . cases lo with
   | none=>simp [sliceBounds,HT.qj]
   | some i =>
    simp only [sliceBounds,HT.qj,Option.getD_none,show (1:Int) > 0 by decide,if_true]
    by_cases h:i < 0
    . simp only [h,if_true]<;>omega
    . simp only [h,if_false]<;>omega
 . cases hi with
   | none=>simp [sliceBounds,HT.qj]
   | some i =>
    simp only [sliceBounds,HT.qj,Option.getD_none,show (1:Int) > 0 by decide,if_true]
    by_cases h:i < 0
    . simp only [h,if_true]<;>omega
    . simp only [h,if_false]<;>omega
theorem K5 (its:List Value) (lo hi:Option Int):slicePick its.toArray lo hi none=((its.drop (HT.qj its.length 0 lo)).take (HT.qj its.length its.length hi - HT.qj its.length 0 lo)).toArray:=by obtain ⟨h1,h2,h3⟩:=Nt lo hi its.toArray.size;unfold slicePick;rw [h1,h2,h3];simp only [sliceRange_one,pick_run,List.size_toArray]<;>rfl
def anz (K:Fg):V->Option Int->Option Int->Hp->VK->Prop:=λx lo hi H Q=>∃ a xs,x=.ref a/\uh K H a xs/\∀ p,H p=none->Q (.ref p) (upd H p (.lst (K4 xs lo hi)))
theorem ad8:SlR X (anz X.K):=by intro pins s σ H x v vl vu lo hi sl Q I rx hs pl pu h;obtain ⟨a,xs,rfl,hx,q⟩:=h;cases rx;obtain ⟨its,r,ht,hz⟩:=I.list hx;have hlen:=r.length;refine ⟨"list",_,slot_list_getitem.lookup,ht.isList.typeIs,?_⟩;refine wpAny_getItem_list_slice ht.isList hs pl pu .none (by simp) ?_ (by rw [List.size_toArray]<;>omega);rw [K5,<- hlen];refine ⟨.ref s.heap.objs.size,_,I.laid (t':=s.toks) (o:=.lst (K4 xs lo hi)) (λb ob q=>Heap.get?_push_of_some _ q) (Nat.le_refl _) ?_,rfl,q _ (I.hok.fresh (Nat.le_refl _))⟩;exact ⟨Nat.le_trans (Ha xs lo hi) hz,_,0,(r.drop (HT.qj xs.length 0 lo)).take (HT.qj xs.length xs.length hi - HT.qj xs.length 0 lo),Heap.get?_push_size _ rfl⟩
theorem Nu:jy X (.builtin "len") (λxs H Q=>∃ p ys,xs=[.ref p]/\(uh X.K H p ys \/ yt X.K H p ys)/\Q (.int ys.length) H):=by
 intro pins s σ H xs us Q I r h;obtain ⟨p,ys,rfl,hq,q⟩:=h;obtain ⟨u,rfl,rx⟩:=vals1 r;cases rx;have hn:=Np;rcases hq with hq | hq
 . obtain ⟨its,r',pl,hz⟩:=I.list hq
   have hlen:=r'.length;exact Calls.call_len_list pl.isList (by simp only [List.size_toArray]<;>omega) ⟨.int ys.length,H,I.tok _,⟨s.toks+1,by rw [List.size_toArray,hlen]⟩,q⟩
 . obtain ⟨its,r',pl,hz⟩:=I.tuple hq
   have hlen:=r'.length;exact len_tuple pl (by simp only [List.size_toArray]<;>omega) ⟨.int ys.length,H,I.tok _,⟨s.toks+1,by rw [List.size_toArray,hlen]⟩,q⟩
theorem K6:jy X (.type "tuple") (λxs H Q=>∃ p ys,xs=[.ref p]/\((uh X.K H p ys/\∀ l,H l=none->Q (.ref l) (upd H l (.tup ys))) \/ (yt X.K H p ys/\Q (.ref p) H))):=by
 intro pins s σ H xs us Q I r h;obtain ⟨p,ys,rfl,h⟩:=h;obtain ⟨u,rfl,rx⟩:=vals1 r;cases rx;rcases h with ⟨hq,q⟩ | ⟨hq,q⟩
 . obtain ⟨its,r',pl,hz⟩:=I.list hq
   have hlen:=r'.length;refine call_tuple_list pl.isList (λh' kp=>?_) (by simp only [List.size_toArray]<;>omega);have I1:Inv X pins σ H { s with heap:=h' }:=I.kept (t':=s.toks) kp;have I2:Inv X pins σ (upd H h'.objs.size (.tup ys)) { s with heap:=h'.push { cls:=.type "tuple",data:=.seq its.toArray } } :=
    I1.laid (t':=s.toks) (λb o e=>Heap.get?_push_of_some _ e) (Nat.le_refl _) (show iw X.prog X.w _ _ _ (.tup ys) from ⟨hz,its,r',IsTup.new _ _⟩)
   exact ⟨.ref h'.objs.size,_,I2,rfl,q _ (I1.hok.fresh (Nat.le_refl _))⟩
 . obtain ⟨its,r',pl,hz⟩:=I.tuple hq
   exact call_tuple_same pl ⟨.ref p,H,I,rfl,q⟩
def tyV (K:Fg) (T:String) (x:V) (H:Hp):Prop:=match x with
 | .str _=>T = "str"|.int _=>T = "int"
 | .ref p=>(T = "list" /\ ∃ xs,uh K H p xs) \/ (T = "tuple" /\ ∃ o,K.lookup p=some o/\o.cls=.type "tuple" /\ o.dict=none) \/
  (T = "dict" /\ ((∃ kvs,H p=some (.dK kvs)) \/ ∃ kvs,H p=some (.dT kvs))) \/ (T = "set" /\ ∃ S n,H p=some (.set S n))
 | _=>False
theorem ajf {pins:List (Addr×Obj)} {σ:St} {H:Hp} {s:Shared} {T:String} {x:V} {v:Value} (I:Inv X pins σ H s) (r:RelV x v) (ty:tyV X.K T x H) :
 s.TypeIs v T/\∀ a,v=.ref a->∃ ob,s.heap.get? a=some ob/\ob.dict=none:=by
 cases x with
 | str z =>
  obtain ⟨t,rfl⟩:=r;cases (show T = "str" from ty);exact ⟨typeIs_str s z t,λ_ e=>nomatch e⟩
 | int i =>
  obtain ⟨t,rfl⟩:=r;cases (show T = "int" from ty);exact ⟨typeIs_int s i t,λ_ e=>nomatch e⟩
 | ref p =>
  cases r;rcases ty with ⟨rfl,xs,hq⟩ | ⟨rfl,o,hk,hc,hd⟩ | ⟨rfl,hk⟩ | ⟨rfl,S,n,hk⟩
  . obtain ⟨its,_,pl,_⟩:=I.list hq
    refine ⟨pl.isList.typeIs,λa e=>?_⟩;cases e;obtain ⟨o,n,e,c,hd,_⟩:=pl;exact ⟨o,e,hd⟩
  . refine ⟨⟨o,I.Df p o hk,hc⟩,λa e=>?_⟩
    cases e;exact ⟨o,I.Df _ o hk,hd⟩
  . have z:∃ o,s.heap.get? p=some o/\o.ExactDict:=by
     rcases hk with ⟨kvs,hk⟩ | ⟨kvs,hk⟩
     . obtain ⟨_,_,_,_,o,_,_,e,ex,_⟩:=I.hok p _ hk
       exact ⟨o,e,ex⟩
     . obtain ⟨_,_,_,_,o,_,_,e,ex,_⟩:=I.hok p _ hk
       exact ⟨o,e,ex⟩
    obtain ⟨o,e,ex⟩:=z;refine ⟨⟨o,e,ex.1⟩,λa e2=>?_⟩;cases e2;exact ⟨o,e,ex.2.1⟩
  . obtain ⟨o,_,_,_,e,ex,_⟩:=I.hok p _ hk
    refine ⟨⟨o,e,ex.1⟩,λa e2=>?_⟩;cases e2;exact ⟨o,e,ex.2.1⟩
 | _=>exact False.elim ty
def tBM (K:Fg) (T:String) (r:V->List V->Hp->VK->Prop) (to:TE) (t:TA):TE:=fun σ H Q=>to σ H λx H1=>tyV K T x H1/\t σ H1 λxs H2=>r x xs H2 Q
variable {o e:Expr} {es:List Expr} {to:TE} {t:TA} {name:Str} {apos cpos:Pos} {T id:String} {r:V->List V->Hp->VK->Prop}
theorem aob (pa:PlainAttrs T) (slot:Slot T name id) (hty:typeOf (.builtin id)=pure (.type "method_descriptor")) (hm:MtR X id r) (ho:PE X o to) (ha:PA X (e :: es) t)
 (hbase:attributeBase o name X.env (eval o X.env)=eval o X.env:=by rfl)
 (hfew:((backTo cpos (starEach (e :: es) X.env)).all (λx=>!x.1) && (backToKw cpos (keywordEach [] X.env)).all (λx=>x.1.isSome)
  && decide ((e :: es).length+([]:List Keyword).length+(if ([]:List Keyword).isEmpty then 0 else 1) < 30))=true:=by rfl)
 (hline:(apos.endLine == cpos.line)=true:=by rfl) (hs:starEach (e :: es) X.env=(false,eval e X.env) :: starEach es X.env:=by rfl) (hplain:(backTo cpos (starEach es X.env)).any (·.1)=false:=by rfl) :
 PE X (.Call (.Attribute o name apos) (e :: es) [] cpos) (tBM X.K T r to t):=by
 intro pins s σ H Q I h;refine wpAny_Call_method_late hbase hfew hline rfl (jb (ho pins s σ H _ I h) λv s1 ⟨x,H1,I1,r1,ty,q1⟩=>?_);obtain ⟨h1,h2⟩:=ajf I1 r1 ty;refine ⟨T,id,pa,slot,hty,h1,h2,?_⟩;have hA:=ha cpos pins s1 σ H1 _ I1 q1;rw [hs] at hA ⊢;refine Calls.callWith_builtin (by show (false || (backTo cpos (starEach es X.env)).any (·.1))=false;rw [hplain]<;>rfl) (Calls.evalArgs_plain ?_);exact jb hA λus s2 ⟨vs,H2,I2,r2,q2⟩=>hm pins s2 σ H2 x vs v us Q I2 r1 r2 q2
end
end L2
namespace L2
open PySem PySem.Spec PyProof.Rows
def MtM (X:Cx) (id:String) (r:V->List V->Hp->VK->Prop):Prop :=
 ∀ (pins:List (Addr×Obj)) (s:Shared) (σ:St) (H:Hp) (x:V) (xs:List V) (v:Value) (us:List Value) (Q:VK),Inv X pins σ H s->RelV x v->Vals xs us->r x xs H Q ->
  wpAny (model X.prog X.w) X.A (call (.builtin id) (v :: us)) (EP X pins σ Q) X.xe s
theorem Vals.one:∀ {x:V} {us:List Value},Vals [x] us->∃ u,us=[u]/\RelV x u
 | _,_,.cons r .nil=>⟨_,rfl,r⟩
section
variable {X:Cx} {pins:List (Addr×Obj)} {σ:St} {H:Hp} {s:Shared} {l b:Addr} {xs ys zs:List V}
theorem Inv.atu {its its':List Value} {n:Nat} {f:Array Value->Array Value} {t':Nat} (I:Inv X pins σ H s) (hH:H l=some (.lst xs))
 (e:s.heap.get? l=some { cls:=.type "list",data:=.seq its.toArray n }) (hf:f its.toArray=its'.toArray) (hv:Vals ys its') (hz:ys.length <= sizeLine) :
 Inv X pins σ (upd H l (.lst ys)) { s with heap:=s.heap.update l (Obj.mapSeq f),toks:=t' }:=by
 have q:=PySem.IsL.update e f;rw [hf] at q;refine I.write (x:=l) (e:=l) (by rw [hH];exact trivial) (.inl rfl) (λb' u hb hu=>(Heap.get?_update_other s.heap (Obj.mapSeq f) (Ne.symm hb)).trans hu) ⟨_,q⟩ ?_;exact ⟨hz,its',_,hv,q⟩
theorem Inv.atv {its:List Value} {t':Nat} (I:Inv X pins σ H s) (hv:Vals ys its) (hz:ys.length <= sizeLine) :
 Inv X pins σ (upd H s.heap.objs.size (.lst ys)) { s with heap:=s.heap.push { cls:=.type "list",data:=.seq its.toArray },toks:=t' } :=
 I.laid (λ_ _ q=>Heap.get?_push_of_some _ q) (Nat.le_refl _) ⟨hz,its,0,hv,Heap.get?_push_size _ rfl⟩
theorem Inv.fresh (I:Inv X pins σ H s):H s.heap.objs.size=none:=I.hok.fresh (Nat.le_refl _)
theorem Inv.ad9 (I:Inv X pins σ H s) (hH:H l=some (.lst xs)):xs.length <= sizeLine/\∃ (its:List Value) (n:Nat),Vals xs its/\xs.length=its.length/\s.heap.get? l=some { cls:=.type "list",data:=.seq its.toArray n }:=by obtain ⟨z,its,n,r,e⟩:=I.hok l _ hH;exact ⟨z,its,n,r,r.length,e⟩
end
section
variable {X:Cx}
def aea:V->List V->Hp->VK->Prop:=λx vs H Q=>∃ l xs y,x=.ref l/\vs=[y]/\H l=some (.lst xs)/\xs.length < sizeLine/\Q .non (upd H l (.lst (xs ++ [y])))
theorem Lh:MtM X "list.append" aea:=by intro pins s σ H x vs v us Q I rx rv h;obtain ⟨l,xs,y,rfl,rfl,hH,hz,q⟩:=h;cases rx;obtain ⟨u,rfl,ru⟩:=rv.one;obtain ⟨z,its,n,r,hl,e⟩:=I.ad9 hH;refine call_meets F.slot_list_append ⟨_,e,rfl⟩ F.entry_list_append (F.args_list_append_2 _ _) (PySem.list_append l its.toArray n u (by rw [List.size_toArray];omega)) ⟨e,?_⟩;refine ⟨.non,_,I.atu (its':=its ++ [u]) hH e (by simp) (r.append (.cons ru .nil)) ?_,rfl,q⟩;rw [List.length_append,List.length_singleton];omega
def aoc:R2:=λx y H Q=>∃ l b xs zs,x=.ref l/\y=.ref b/\H l=some (.lst xs)/\H b=some (.lst zs)/\xs.length+zs.length <= sizeLine/\∀ p,H p=none->Q (.ref p) (upd H p (.lst (xs ++ zs)))
theorem Zr:jt X (binaryOp .Add) aoc:=by
 intro pins s σ H x y v u Q I rx ry h;obtain ⟨l,b,xs,zs,rfl,rfl,hH,hB,hz,q⟩:=h;cases rx;cases ry;obtain ⟨z,its,n,r,hl,e⟩:=I.ad9 hH;obtain ⟨z2,its2,n2,r2,hl2,e2⟩:=I.ad9 hB;refine PySem.P.add_list e e2 ?_ (by rw [List.size_toArray,List.size_toArray];omega);have ea:its.toArray ++ its2.toArray=(its ++ its2).toArray:=by simp
 rw [ea];exact ⟨.ref _,_,I.atv (t':=s.toks) (r.append r2) (by rw [List.length_append];omega),rfl,q _ I.fresh⟩
end
end L2
namespace L2
open PySem PySem.Spec PyProof.Rows
section
variable {κ:Type} [DecidableEq κ]
def Ef (kvs:List (κ×V)) (k:κ):Option V:=(kvs.find? λkv=>decide (kv.1=k)).map (·.2)
def putK (kvs:List (κ×V)) (k:κ) (v:V):List (κ×V) :=
 if (kvs.any λkv=>decide (kv.1=k))=true then kvs.map (λkv=>if kv.1=k then (kv.1,v) else kv) else kvs ++ [(k,v)]
theorem Eg {p:κ×V} {r:List (κ×V)} {k:κ} (e:p.1=k):Ef (p :: r) k=some p.2:=by simp [Ef,List.find?_cons,e]
theorem Eh {p:κ×V} {r:List (κ×V)} {k:κ} (e:¬ p.1=k):Ef (p :: r) k=Ef r k:=by simp [Ef,List.find?_cons,e]
theorem Qn (k:κ):∀ kvs:List (κ×V),(kvs.any λkv=>decide (kv.1=k))=(Ef kvs k).isSome
 | []=>rfl
 | p :: r=>by
  rw [List.any_cons]
  by_cases e:p.1=k
  . simp only [Eg e,decide_eq_true e,Bool.true_or,Option.isSome_some]
  . rw [Eh e,decide_eq_false e,Bool.false_or];exact Qn k r
theorem Hb (kvs:List (κ×V)) (k:κ) (v:V):(putK kvs k v).length <= kvs.length+1:=by
 unfold putK;split
 . rw [List.length_map];omega
 . rw [List.length_append,List.length_cons,List.length_nil];omega
theorem Cg.uf {o:Option V} {u:Option Value} (r:Cg o u):o.isSome=u.isSome:=by
 cases o with
 | none=>cases u with
  | none=>rfl|some _=>exact (show False from r).elim
 | some _=>cases u with
  | none=>exact (show False from r).elim
  | some _=>rfl
theorem KV.val {kvs:List (κ×V)} {vs:List (κ×Value)} (r:KV kvs vs) (k:κ):Cg (Ef kvs k) (valueAt vs k):=by
 unfold KV at r
 induction r with
 | nil=>exact True.intro
 | @cons p q ps qs h t ih =>
  obtain ⟨h1,h2⟩:=h
  by_cases e:p.1=k
  . have e':q.1=k:=h1.symm.trans e
    have b:valueAt (q :: qs) k=some q.2:=by simp [valueAt,List.find?_cons,e']
    rw [Eg e,b];exact h2
  . have e':¬ q.1=k:=λz=>e (h1.trans z)
    have b:valueAt (q :: qs) k=valueAt qs k:=by simp [valueAt,List.find?_cons,e']
    rw [Eh e,b];exact ih
theorem KV.any {kvs:List (κ×V)} {vs:List (κ×Value)} (r:KV kvs vs) (k:κ):(kvs.any λkv=>decide (kv.1=k))=vs.any λkv=>decide (kv.1=k):=by
 unfold KV at r
 induction r with
 | nil=>rfl|cons h t ih=>rw [List.any_cons,List.any_cons,ih,h.1]
theorem KV.repl {kvs:List (κ×V)} {vs:List (κ×Value)} (r:KV kvs vs) (k:κ) {y:V} {u:Value} (ry:RelV y u) :
 KV (kvs.map λkv=>if kv.1=k then (kv.1,y) else kv) (vs.map λkv=>if kv.1=k then (kv.1,u) else kv):=by
 unfold KV at r ⊢
 induction r with
 | nil=>exact .nil
 | @cons p q ps qs h t ih =>
  rw [List.map_cons,List.map_cons];refine .cons ?_ ih;obtain ⟨h1,h2⟩:=h
  by_cases e:p.1=k
  . rw [if_pos e,if_pos (h1.symm.trans e)];exact ⟨h1,ry⟩
  . rw [if_neg e,if_neg (λz=>e (h1.trans z))];exact ⟨h1,h2⟩
theorem KV.put {kvs:List (κ×V)} {vs:List (κ×Value)} (r:KV kvs vs) (k:κ) {y:V} {u:Value} (ry:RelV y u):KV (putK kvs k y) (stored vs k u):=by
 unfold putK stored;rw [r.any k]
 by_cases e:(vs.any λkv=>decide (kv.1=k))=true
 . rw [if_pos e,if_pos e];exact r.repl k ry
 . rw [if_neg e,if_neg e];exact Paired.snoc r ⟨rfl,ry⟩
theorem KV.length {kvs:List (κ×V)} {vs:List (κ×Value)} (r:KV kvs vs):kvs.length=vs.length:=Paired.length r
end
theorem Qo {P:Program} {w:World} {k:Key} {u:Value} (r:RelV (kV k) u):(aj P w).is k u=true:=by
 cases k with
 | inl i=>obtain ⟨t,e⟩:=(show ∃ t,u=Value.int i t from r);subst e;exact Qe P w i t
 | inr x=>obtain ⟨t,e⟩:=(show ∃ t,u=Value.str x t from r);subst e;exact Qf P w x t
theorem Li {P:Program} {w:World}:∀ {ks:List Key} {us:List Value},Vals (ks.map kV) us->ItemsAre (aj P w) ks us
 | [],_,r=>by rw [List.map_nil] at r;cases r;exact .nil
 | k :: ks,_,r=>by
  rw [List.map_cons] at r;cases r with
  | cons h t=>exact .cons (Qo h) (Li t)
abbrev KT (H:Hp):List (List Key×V)->List (List Key×Addr×Value)->Prop:=Paired λp q=>p.1=q.1/\H q.2.1=some (.tup (p.1.map kV))/\RelV p.2 q.2.2
theorem KT.val {H:Hp} {kvs:List (List Key×V)} {xs:List (List Key×Addr×Value)} (r:KT H kvs xs) (k:List Key):Cg (Ef kvs k) ((atKey xs k).map (·.2)):=by
 induction r with
 | nil=>exact True.intro
 | @cons p q ps qs h t ih =>
  obtain ⟨h1,_,h2⟩:=h
  by_cases e:p.1=k
  . have e':q.1=k:=h1.symm.trans e
    have b:atKey (q :: qs) k=some q.2:=by simp [atKey,List.find?_cons,e']
    rw [Eg e,b];exact h2
  . have e':¬ q.1=k:=λz=>e (h1.trans z)
    have b:atKey (q :: qs) k=atKey qs k:=by simp [atKey,List.find?_cons,e']
    rw [Eh e,b];exact ih
theorem KT.repl {H:Hp} {kvs:List (List Key×V)} {xs:List (List Key×Addr×Value)} (r:KT H kvs xs) (k:List Key) {y:V} {u:Value} (ry:RelV y u) :
 KT H (kvs.map λkv=>if kv.1=k then (kv.1,y) else kv) (xs.map (putAt k u)):=by
 induction r with
 | nil=>exact .nil
 | @cons p q ps qs h t ih =>
  rw [List.map_cons,List.map_cons];refine .cons ?_ ih;obtain ⟨h1,h2,h3⟩:=h;unfold putAt
  by_cases e:p.1=k
  . rw [if_pos e,if_pos (h1.symm.trans e)];exact ⟨h1,h2,ry⟩
  . rw [if_neg e,if_neg (λz=>e (h1.trans z))];exact ⟨h1,h2,h3⟩
theorem KT.put {H:Hp} {kvs:List (List Key×V)} {xs:List (List Key×Addr×Value)} (r:KT H kvs xs) (k:List Key) {b:Addr} {y:V} {u:Value} (hb:H b=some (.tup (k.map kV))) (ry:RelV y u) :
 KT H (putK kvs k y) (storedH xs k b u):=by
 have e:(kvs.any λkv=>decide (kv.1=k))=(atKey xs k).isSome:=by rw [Qn,(r.val k).uf,Option.isSome_map]
 unfold putK storedH;rw [e]
 by_cases q:(atKey xs k).isSome=true
 . rw [if_pos q,if_pos q];exact r.repl k ry
 . rw [if_neg q,if_neg q];exact Paired.snoc r ⟨rfl,hb,ry⟩
theorem KT.keeps {H H':Hp} {kvs:List (List Key×V)} {xs:List (List Key×Addr×Value)} (r:KT H kvs xs) (ht:∀ b ys,H b=some (.tup ys)->H' b=some (.tup ys)):KT H' kvs xs :=
 Paired.ah6 r λ_ _ z=>⟨z.1,ht _ _ z.2.1,z.2.2⟩
section
variable {P:Program} {w:World} {H:Hp} {h:Heap} {a:Addr}
theorem ahg {u:HO} (ok:Cm P w H h) (e:Rd H a u):iw P w H h a u:=e.ok ok
theorem Lj {kvs:List (Key×V)} (ok:Cm P w H h) (e:Rd H a (.dK kvs)):kvs.length <= sizeLine/\(a == sysModules)=false/\∃ vs,KV kvs vs/\h.DictOf (aj P w) a vs :=
 show iw P w H h a (.dK kvs) from ahg ok e
theorem aod {kvs:List (Key×V)} (ok:Cm P w H h) (e:H a=some (.dK kvs)):kvs.length <= sizeLine/\(a == sysModules)=false/\∃ vs,KV kvs vs/\h.DictOf (aj P w) a vs:=Lj ok (.inl e)
theorem Dh {ks:List Key} (ok:Cm P w H h) (e:H a=some (.tup (ks.map kV))):(tupleKind (aj P w)).is h ks a:=by obtain ⟨_,its,r,o,h1,h2,n,h3⟩:=(show iw P w H h a (.tup (ks.map kV)) from ok a _ e);exact ⟨o,its.toArray,n,h1,h2,h3,by simpa using Li r⟩
theorem Qp {kvs:List (List Key×V)} (ok:Cm P w H h) (e:Rd H a (.dT kvs)):kvs.length <= sizeLine/\(a == sysModules)=false /\
 ∃ xs,KT H kvs xs/\h.DictOfH (tupleKind (aj P w)) a xs:=by
 obtain ⟨z,y,xs,r,o,es,ep,h1,h2,h3,h4,h5⟩:=(show iw P w H h a (.dT kvs) from ahg ok e);refine ⟨z,y,xs,r,o,es,ep,h1,h2,h3,h4,λx hx=>?_,h5⟩;have all:∀ {l:List (List Key×V)} {m:List (List Key×Addr×Value)},KT H l m->∀ x∈m,(tupleKind (aj P w)).is h x.1 x.2.1:=by
  intro l m q
  induction q with
  | nil=>intro x hx;exact nomatch hx
  | @cons p q ps qs hq t ih =>
   intro x hx;rcases List.mem_cons.mp hx with e | hx
   . subst e
     exact Dh ok (by rw [<- hq.1];exact hq.2.1)
   . exact ih x hx
 exact all r x hx
theorem Qq {kvs:List (List Key×V)} (ok:Cm P w H h) (e:H a=some (.dT kvs)):kvs.length <= sizeLine/\(a == sysModules)=false /\
 ∃ xs,KT H kvs xs/\h.DictOfH (tupleKind (aj P w)) a xs:=Qp ok (.inl e)
end
def Di (H:Hp) (a:Addr) (y:V) (r:Option V):Prop :=
 (∃ kvs k,Rd H a (.dK kvs)/\y=kV k/\r=Ef kvs k) \/ ∃ kvs k b,Rd H a (.dT kvs)/\y=.ref b/\H b=some (.tup (k.map kV))/\r=Ef kvs k
def T4 (H:Hp) (a:Addr) (y v:V) (H':Hp):Prop :=
 (∃ kvs k,H a=some (.dK kvs)/\y=kV k/\kvs.length < sizeLine/\H'=upd H a (.dK (putK kvs k v))) \/
 ∃ kvs k b,H a=some (.dT kvs)/\y=.ref b/\H b=some (.tup (k.map kV))/\kvs.length < sizeLine/\H'=upd H a (.dT (putK kvs k v))
theorem Di.k {H:Hp} {a:Addr} {kvs:List (Key×V)} {k:Key} (e:H a=some (.dK kvs)):Di H a (kV k) (Ef kvs k):=.inl ⟨kvs,k,.inl e,rfl,rfl⟩
theorem Di.t {H:Hp} {a b:Addr} {kvs:List (List Key×V)} {k:List Key} (e:H a=some (.dT kvs)) (eb:H b=some (.tup (k.map kV))):Di H a (.ref b) (Ef kvs k):=.inr ⟨kvs,k,b,.inl e,rfl,eb,rfl⟩
theorem T4.k {H:Hp} {a:Addr} {kvs:List (Key×V)} {k:Key} {v:V} (e:H a=some (.dK kvs)) (hl:kvs.length < sizeLine):T4 H a (kV k) v (upd H a (.dK (putK kvs k v))):=.inl ⟨kvs,k,e,rfl,hl,rfl⟩
theorem T4.t {H:Hp} {a b:Addr} {kvs:List (List Key×V)} {k:List Key} {v:V} (e:H a=some (.dT kvs)) (eb:H b=some (.tup (k.map kV))) (hl:kvs.length < sizeLine) :
 T4 H a (.ref b) v (upd H a (.dT (putK kvs k v))):=.inr ⟨kvs,k,b,e,rfl,eb,hl,rfl⟩
section
variable {X:Cx} {pins:List (Addr×Obj)} {σ:St} {H:Hp} {s:Shared} {a:Addr} {y v:V} {u r:Value} {o:Option V} {A:Around} {E:Value->Shared->Prop}
theorem Inv.big (I:Inv X pins σ H s):sysModules < s.heap.objs.size:=by
 have h:mainGlobals < s.heap.objs.size:=(I.mod.glob.keeps I.bk).lt
 exact Nat.lt_trans (by decide) h
theorem Xa {Q:Value->Shared->Prop} (hu:A.units+1 < cLine) (I:Inv X pins σ H s) (g:Di H a y (some v)) (ry:RelV y u) (h:∀ w' s',Inv X pins σ H s'->RelV v w'->Q w' s') :
 wpAny (model X.prog X.w) A (getItem (.ref a) u) Q E s:=by
 rcases g with ⟨kvs,k,e,ey,l⟩ | ⟨kvs,k,b,e,ey,eb,l⟩
 . subst ey
   obtain ⟨z,hd,vs,rel,dd⟩:=Lj I.hok e;obtain ⟨w',hw,rw'⟩:=Cg.some_of (v:=v) (o:=valueAt vs k) (by rw [l];exact rel.val k);exact wpAny_getItem_of (Qo ry) dd.mapOf hw (h w' _ (I.tok _) rw')
 . subst ey
   cases (show u=Value.ref b from ry);obtain ⟨z,hd,xs,rel,dd⟩:=Qp I.hok e;obtain ⟨w',hw,rw'⟩:=Cg.some_of (v:=v) (o:=(atKey xs k).map (·.2)) (by rw [l];exact rel.val k);obtain ⟨p,hp,hp2⟩:=Option.map_eq_some_iff.mp hw;refine wpAny_getItem_heap (tupleKind_room_in1 hu) (Dh I.hok eb) dd hp ?_;rw [hp2];exact h w' _ (I.tok _) rw'
theorem aoe {Q:Value->Shared->Prop} (hu:A.units+1 < cLine) (I:Inv X pins σ H s) (g:Di H a y o) (ry:RelV y u) (h:∀ s',Inv X pins σ H s'->Q (.bool o.isSome) s') :
 wpAny (model X.prog X.w) A (compareOp .In u (.ref a)) Q E s:=by
 rcases g with ⟨kvs,k,e,ey,l⟩ | ⟨kvs,k,b,e,ey,eb,l⟩
 . subst ey
   obtain ⟨z,hd,vs,rel,dd⟩:=Lj I.hok e;refine wpAny_in_of (Qo ry) hd dd.mapOf ?_;rw [<- (rel.val k).uf,<- l];exact h _ (I.tok _)
 . subst ey
   cases (show u=Value.ref b from ry);obtain ⟨z,hd,xs,rel,dd⟩:=Qp I.hok e;refine wpAny_in_heap (tupleKind_room_in1 hu) (Dh I.hok eb) hd dd ?_;have q:=(rel.val k).uf;rw [Option.isSome_map] at q;rw [<- q,<- l];exact h _ (I.tok _)
theorem Vi {Q:Value->Shared->Prop} (hu:A.units+1 < cLine) (I:Inv X pins σ H s) (g:Di H a y o) (ry:RelV y u) (h:∀ s',Inv X pins σ H s'->Q (.bool (!o.isSome)) s') :
 wpAny (model X.prog X.w) A (compareOp .NotIn u (.ref a)) Q E s:=by
 rcases g with ⟨kvs,k,e,ey,l⟩ | ⟨kvs,k,b,e,ey,eb,l⟩
 . subst ey
   obtain ⟨z,hd,vs,rel,dd⟩:=Lj I.hok e;refine wpAny_notIn_of (Qo ry) hd dd.mapOf ?_;rw [<- (rel.val k).uf,<- l];exact h _ (I.tok _)
 . subst ey
   cases (show u=Value.ref b from ry);obtain ⟨z,hd,xs,rel,dd⟩:=Qp I.hok e;refine wpAny_notIn_heap (tupleKind_room_in1 hu) (Dh I.hok eb) hd dd ?_;have q:=(rel.val k).uf;rw [Option.isSome_map] at q;rw [<- q,<- l];exact h _ (I.tok _)
theorem Vj {h':Heap} {t':Nat} {ob:HO} (I:Inv X pins σ H s) (mu:Mut (H a)) (hs:Heap.SameBut a s.heap h') (he:∃ q,h'.get? a=some q) (new:iw X.prog X.w (upd H a ob) h' a ob) :
 Inv X pins σ (upd H a ob) { s with heap:=h',toks:=t' } :=
 I.write (x:=a) (e:=a) mu (.inl rfl) (λb q hb z=>(hs.2 b hb).trans z) he new
theorem Zt {P:Program} {w:World} {H':Hp} {h':Heap} {kvs:List (Key×V)} {vs:List (Key×Value)} (z:kvs.length <= sizeLine) (hd:(a == sysModules)=false) (rel:KV kvs vs) (dd:h'.DictOf (aj P w) a vs) :
 iw P w H' h' a (.dK kvs):=⟨z,hd,vs,rel,dd⟩
theorem Lk {H':Hp} {Q:Unit->Shared->Prop} (hu:A.units+1 < cLine) (I:Inv X pins σ H s) (g:T4 H a y v H') (ry:RelV y u) (rv:RelV v r) (h:∀ s',Inv X pins σ H' s'->Q () s') :
 wpAny (model X.prog X.w) A (setItem (.ref a) u r) Q E s:=by
 rcases g with ⟨kvs,k,e,ey,l,eH⟩ | ⟨kvs,k,b,e,ey,eb,l,eH⟩
 . subst ey eH
   obtain ⟨z,hd,vs,rel,dd⟩:=aod I.hok e;have hz:vs.length <= sizeLine:=by rw [<- rel.length];exact z
   have hl:(putK kvs k v).length <= sizeLine:=by have:=Hb kvs k v;omega
   refine wpAny_setItem_pairs (hsz:=hz) (Qo ry) dd λh' dd' hs=>h _ ?_
   have he:∃ q,h'.get? a=some q:=let ⟨q,_,_,hq,_⟩:=dd';⟨q,hq⟩;exact Vj I (by rw [e];exact True.intro) hs he (Zt hl hd (rel.put k rv) dd')
 . subst ey eH
   cases (show u=Value.ref b from ry);obtain ⟨z,hd,xs,rel,dd⟩:=Qq I.hok e;have hz:xs.length <= sizeLine:=by rw [<- Paired.length rel];exact z
   have hl:(putK kvs k v).length <= sizeLine:=by have:=Hb kvs k v;omega
   refine wpAny_setItem_heap (hsz:=hz) (tupleKind_room_in1 hu) (Dh I.hok eb) dd λh' dd' hs=>h _ ?_
   obtain ⟨q,es,ep,hq,h2,h3,h4,_,h5⟩:=dd';refine Vj I (by rw [e];exact True.intro) hs ⟨q,hq⟩ ⟨hl,hd,_,(rel.put k eb rv).keeps λc ys ec=>?_,q,es,ep,hq,h2,h3,h4,h5⟩;rw [aq (Yy ec e (λz=>nomatch z))];exact ec
end
theorem Qs {X:Cx} {pins:List (Addr×Obj)} {σ:St} {H:Hp} {s:Shared} {a:Addr} {y:V} {o:Option V} (I:Inv X pins σ H s) (g:Di H a y o):s.TypeIs (.ref a) "dict" := by
 rcases g with ⟨kvs,k,e,_,_⟩ | ⟨kvs,k,b,e,_,_,_⟩
 . obtain ⟨_,_,vs,_,dd⟩:=Lj I.hok e
   exact dd.typeIs
 . obtain ⟨_,_,xs,_,dd⟩:=Qp I.hok e
   exact dd.typeIs
theorem Zu {P:Program} {w:World} {H:Hp} (h:Heap) (hb:sysModules < h.objs.size):iw P w H (h.push { cls:=.type "dict",data:=.dict #[] }) h.objs.size (.dT []) :=
 ⟨Nat.zero_le _,beq_eq_false_iff_ne.mpr (Ne.symm (Nat.ne_of_lt hb)),[],.nil,_,#[],0,Heap.get?_push_size _ rfl,⟨rfl,rfl,rfl⟩,rfl,rfl,List.nodup_nil⟩
def ajg:TE:=λ_ H Q=>∀ p,H p=none->Q (.ref p) (upd H p (.dT []))
section
variable {X:Cx} {pos:Pos}
theorem Zv:PE X (.Dict [] [] pos) ajg:=λpins s σ H Q I h =>
 wpAny_Dict_empty ⟨.ref s.heap.objs.size,_,I.laid (a:=s.heap.objs.size) (o:=.dT []) (t':=s.toks) (λ_ _ q=>Heap.get?_push_of_some _ q) (Nat.le_refl _) (Zu s.heap I.big),rfl,h _ (I.hok.fresh (Nat.le_refl _))⟩
end
section
variable {X:Cx} {pins:List (Addr×Obj)} {σ:St} {H:Hp} {s:Shared} {a:Addr} {kvs:List (Key×V)} {A:Around} {E:Value->Shared->Prop}
theorem Zw {Q:Value->Shared->Prop} (I:Inv X pins σ H s) (e:Rd H a (.dK kvs)) (h:∀ p s',H p=none->Inv X pins σ (upd H p (.dK kvs)) s'->Q (.ref p) s'):wpAny (model X.prog X.w) A (call (.type "dict") [.ref a]) Q E s:=by
 obtain ⟨z,hd,vs,rel,dd⟩:=Lj I.hok e;refine kt_call_dict hd dd (by rw [<- rel.length];exact z) λh' dd' hs=>?_
 refine h _ _ (I.hok.fresh (Nat.le_refl _)) (I.laid (a:=s.heap.objs.size) (o:=.dK kvs) (t':=s.toks) (λb q hq=>?_) (Nat.le_refl _) (Zt z (beq_eq_false_iff_ne.mpr (Ne.symm (Nat.ne_of_lt I.big))) rel dd'));exact (hs.2 b (Nat.ne_of_lt (Heap.lt_size hq))).trans (Heap.get?_push_of_some _ hq)
end
end L2
namespace Att
open PySem PySem.W PySem.Calls PyProof.Rows
theorem Hx {P:Params} {h:Heap}:∀ (ns:List Int) (vs:List Value),WellAll P h vs (ns.map WData.int)->IntsAre vs ns:=by
 intro ns
 induction ns with
 | nil =>
  intro vs w;rw [List.map_nil] at w;cases w;exact .nil
 | cons n ns ih =>
  intro vs w;rw [List.map_cons] at w;cases w with
  | cons a b =>
   cases a;exact .cons _ _ (ih _ b)
theorem Xb {l:OpenLaw} {n:Nat} (hn:l.most=some n) {P:Params} {h:Heap} {args:List WData} {vals:List Value}
 (hpre:l.row.toRowW.claim.pre args=true) (hwl:WellAll P h vals args) :
 ∃ a vs ns,vals=[Value.ref a]/\args=[WData.list (ns.map WData.int)]/\h.get? a=some { cls:=.type "list",data:=.seq vs.toArray }/\IntsAre vs ns/\ns.length <= n:=by
 have hsh:WShape.hasAll [] args [.list .int]=true:=(pre_splitW hpre).1;have hc:l.pre.holds [] { args:=args }=true:=(pre_splitW hpre).2;obtain ⟨d,r,rfl,h1,h2⟩:=hasAllW_cons hsh;obtain rfl:=hasAllW_nil h2;obtain ⟨xs,rfl,h3⟩:=hasW_list h1;obtain ⟨ns,rfl⟩:=items_int h3;have hlen:ns.length <= n:=by
  unfold OpenLaw.pre at hc;have h4:(WTm.not (.lt (.lit (.int (n:Int))) (.len (.arg 0)))).holds [] { args:=[.list (ns.map .int)] }=true:=by have h4:=(holds_andW hc).1;rw [hn] at h4;exact h4
  have h5:=condW_of h4 (w_not (w_lt w_lit (w_len_list (w_arg rfl))));rw [List.length_map] at h5;refine Nat.le_of_not_lt λq=>?_
  have q':(n:Int) < ((ns.length:Nat):Int):=by omega
  first
   | (rw [decide_eq_true q'] at h5;exact absurd h5 (by decide))
   | (simp at h5;omega)
 cases hwl with
 | cons w1 w2 =>
  cases w2;cases w1 with
  | list ho hall=>exact ⟨_,_,ns,rfl,rfl,ho,Hx ns _ hall,hlen⟩
theorem Xc (l:OpenLaw) (args:List WData):l.row.toRowW.claim.post args (.bool true) args=true :=
 postW_of (r:=l.row.toRowW) (X:=(true == true))
  (show WShape.has [] (.bool true) .bool=true by first | rfl | decide | simp [WShape.has,WShape.arms,WShape.armsAll])
  (show (WTm.eq .res (.lit (.bool true))).value [] { args:=args,res:=some (.bool true),after:=args }=some (.bool (true == true)) from w_eq_bool (w_res rfl) w_lit) rfl
theorem Qt {l:OpenLaw} {n:Nat} {q:Program} {loose:List Str} {XP:(Str->Option Value)->Heap->Prop} {YP:World->Heap->Prop} {d:DefRec}
 (hn:l.most=some n) (hdf:d.params.defaults=[])
 (call:∀ (w:World) (s₀ s₁:Shared) (mg mb:Str->Option Value) (fa:Addr) (o:Obj) (pm cd doc:Value) (a:Addr) (vs:List Value) (ns:List Int),
  Ground q loose [] XP w s₀ mg mb s₁.heap->YP w s₁.heap ->
  s₁.heap.get? fa=some o->o.data=.func (docDef d.name d.params d.body d.scope pm cd doc)->s₁.heap.CodeRec cd d.name->mg d.name=some (.ref fa) ->
  s₁.heap.get? a=some { cls:=.type "list",data:=.seq vs.toArray }->IntsAre vs ns->ns.length <= n->s₁.gens=#[] ->
  codeAny (model l.prog w) callerA (.call (.ref fa) ⟨[.ref a],[]⟩) (λr s'=>r=.ok (.ret (.bool true))/\OldK s₁.heap s'.heap/\s'.os=s₁.os/\AllBare s'.gens) s₁) :
 WalkO q loose XP YP l.row.toRowW d [] (λf vs=>PySem.call f vs):=by
 intro w s₀ s₁ mg mb G Y fa o pm cd doc dV kV ho hd hcd hD hmg hg args vals as hpre hlay hrd hwl hlo;obtain rfl:dV=.none:=Dflts.none hD hdf;obtain rfl:kV=.none:=Dflts.noKw hD;obtain ⟨a,vs,ns,rfl,rfl,hobj,hints,hlen⟩:=Xb hn hpre hwl;refine enter_call (codeAny_mono (call w s₀ s₁ mg mb fa o pm cd doc a vs ns G Y ho (fd_plain hd) hcd hmg hobj hints hlen hg) λr s' hq=>?_);obtain ⟨rfl,h2,h3,h4⟩:=hq;exact ⟨.inl ⟨.bool true,.bool true,[],rfl,λ_=>rfl,.bool true,Xc l _,λ_=>⟨List.Pairwise.nil,λ_ hm=>(nomatch hm)⟩⟩,h2,h3,h4⟩
end Att
namespace L2
open PySem PySem.Spec PyProof.Rows
theorem Ln:∀ {vs:List Value} {ns:List Int},IntsAre vs ns->Vals (ns.map V.int) vs
 | _,_,.nil=>.nil|_,_,.cons n t h=>.cons ⟨t,rfl⟩ (Ln h)
def Only (H:Hp):Prop:=∀ b,H b=none \/ ∃ o xs,H b=some (.By o (.lst xs))
theorem Zx {P:Program} {w:World} {K:Fg} {mg mb:Str->Option Value} {CX:Yv} {k:Nat} {fa a:Addr} {fd:FuncData} {x:Str} {sp:Sp} {s₁:Shared} {vs:List Value} {ns:List Int}
 (KX:K.In s₁.heap) (hns:s₁.heap.Ns mainGlobals mg) (hb:s₁.heap.Ns builtinsNs mb) (hbb:∀ x:Str,x ≠ "__name__" -> mb x=bootBuiltins x) (hlim:s₁.heap.NoLimit) (hg:s₁.gens=#[])
 (ha:s₁.heap.get? a=some { cls:=.type "list",data:=.seq vs.toArray }) (hi:IntsAre vs ns) (hl:ns.length <= sizeLine) (hr:gm k callerA)
 (F:∀ base:Heap,K.In base->base.Ns mainGlobals mg->m5 P w K mg base CX k fa fd [x] sp) (hbind:∀ (s:Shared) (u:Value),BindsTo s fd ⟨[u],[]⟩ [(x,u)])
 (hsp:∀ H:Hp,Only H->uh K H a (ns.map V.int)->sp [.ref a] H (λv _=>v=.bl true) λ_ _ _=>False)
 (hCX:∀ H e s',CX [] H s₁ (λ_ _ _=>False) e s'->False) :
 codeAny (model P w) callerA (.call (.ref fa) ⟨[.ref a],[]⟩) (λr s'=>r=.ok (.ret (.bool true))/\OldK s₁.heap s'.heap/\s'.os=s₁.os/\AllBare s'.gens) s₁:=by
 have rv:=Ln hi;have lenV:=hi.length;have core:∀ H:Hp,Only H->uh K H a (ns.map V.int)->Cm P w H s₁.heap->(∀ b,H b≠none->b=a)->(H a≠none->K.lookup a=none) ->
  codeAny (model P w) callerA (.call (.ref fa) ⟨[.ref a],[]⟩) (λr s'=>r=.ok (.ret (.bool true))/\OldK s₁.heap s'.heap/\s'.os=s₁.os/\AllBare s'.gens) s₁:=by
  intro H hO hS hok hA hK;have yx:∀ {b:Addr} {o:Obj},s₁.heap.get? b=some o->H b=none->(Ng s₁.heap H).get? b=some o:=λe n=>Yz e n
  have noA:∀ {b:Addr} {o:Obj} {es:Array DictEntry} {ep:Nat},s₁.heap.get? b=some o->o.data=.dict es ep->H b=none:=fun {b o es ep} e d=>by
   cases q:H b with
   | none=>rfl
   | some u =>
    have e':b=a:=hA b (by rw [q];simp);subst e';rw [ha] at e;cases e;have d':Data.seq vs.toArray _=Data.dict es ep:=d;cases d'
  have nsK:∀ {b:Addr} {m:Str->Option Value},s₁.heap.Ns b m->(Ng s₁.heap H).Ns b m:=fun {b m} ⟨o,es,ep,e,d,r⟩=>⟨o,es,ep,yx e (noA e d),d,r⟩
  have hKb:K.In (Ng s₁.heap H):=λb o e=>yx (KX b o e) (by
   cases q:H b with
   | none=>rfl
   | some u =>
    have e':b=a:=hA b (by rw [q];simp);subst e';rw [hK (by rw [q];simp)] at e;cases e)
  have hM:Mod K mg (Ng s₁.heap H):=⟨hKb,nsK hns,⟨mb,nsK hb,hbb⟩,let ⟨mc,h1,h2⟩:=hlim;⟨mc,nsK h1,h2⟩⟩;have e0:Tt P w K mg (Ng s₁.heap H) callerA [] s₁ H:=⟨rfl,hM,λb o e=>adf e,Nat.le_of_eq (Wy _ _),trivial,λb hb=>absurd (show b∈([]:List Addr) from hb) (by simp),hok,.of_eq hg⟩;refine codeAny_mono ((F _ hKb (nsK hns)).run callerA [] s₁ H ⟨[.ref a],[]⟩ [.ref a] [.ref a] _ _ hr e0 (hbind s₁ (.ref a)) (.cons rfl .nil) (hsp H hO hS)) λr s' h=>?_
  cases r with
  | error e=>exact (hCX H e s' h).elim
  | ok fl =>
   cases fl with
   | next=>exact False.elim h|brk=>exact False.elim h|cont=>exact False.elim h
   | ret u =>
    obtain ⟨v,H',os,bare,un,hok',r',q⟩:=h;have q':v=.bl true:=q;subst q';obtain rfl:u=Value.bool true:=r';refine ⟨rfl,OldK.of_keep λb o e=>?_,os,bare⟩;cases q:H b with
    | none=>exact un.keep b o e q (by intro z;exact absurd (show b∈([]:List Addr) from z) (by simp)) (by simp)
    | some u =>
     rcases hO b with z | ⟨ob,xs,z⟩
     . rw [q] at z;cases z
     . have z2:=un.Nf b ob _ z
       obtain ⟨e1,_⟩:=hok b _ z;obtain ⟨e2,_⟩:=hok' b _ z2;rw [e] at e1;cases e1;exact e2
 cases hk:K.lookup a with
 | some o =>
  have e:=KX a o hk;rw [ha] at e;cases e;refine core (λ_=>none) (λ_=>.inl rfl) (.inr ⟨_,vs.toArray,_,hk,rfl,rfl,rfl,by rw [List.size_toArray,lenV];exact hl,by simpa using rv⟩) (λb u z=>by have z':(none:Option HO)=some u:=z;cases z') (λb z=>absurd rfl z) λz=>absurd rfl z
 | none =>
  refine core (λb=>if b=a then some (.By { cls:=.type "list",data:=.seq vs.toArray } (.lst (ns.map V.int))) else none) (λb=>?_) (.inl (.inr ⟨{ cls:=.type "list",data:=.seq vs.toArray },if_pos rfl⟩)) (λb u z=>?_) (λb z=>?_) λ_=>hk
  . by_cases hb:b=a
    . exact .inr ⟨_,_,if_pos hb⟩
    . exact .inl (if_neg hb)
  . by_cases hb:b=a
    . have z':=(if_pos hb).symm.trans z
      cases z';subst hb;exact ⟨ha,by rw [List.length_map];exact hl,vs,_,rv,ha⟩
    . have z':=(if_neg hb).symm.trans z
      cases z'
  . by_cases hb:b=a
    . exact hb
    . exact absurd (if_neg hb) z
end L2
namespace L2
open PySem PySem.Spec PyProof.Rows
theorem aeb {l:PySem.W.OpenLaw} {n k:Nat} {q:Program} {loose:List Str} {XP:(Str->Option Value)->Heap->Prop} {YP:World->Heap->Prop} {d:DefRec} {K:Params->Fg} {CX:World->Yv} {sp:World->Sp} {x:Str}
 (hn:l.most=some n) (hn2:n <= sizeLine) (hdf:d.params.defaults=[]) (hr:gm k callerA)
 (hY:∀ (w:World) (h:Heap),YP w h->(K w.params).In h)
 (F:∀ (w:World) (mg:Str->Option Value) (fa:Addr) (h:Heap),(K w.params).In h->h.Ns mainGlobals mg->mg d.name=some (.ref fa) ->
  ∃ fd:FuncData,(∀ (s:Shared) (u:Value),BindsTo s fd ⟨[u],[]⟩ [(x,u)]) /\
   ∀ base:Heap,(K w.params).In base->base.Ns mainGlobals mg->m5 l.prog w (K w.params) mg base (CX w) k fa fd [x] (sp w))
 (hsp:∀ (w:World) (H:Hp) (a:Addr) (ns:List Int),ns.length <= n->Only H->uh (K w.params) H a (ns.map V.int)->sp w [.ref a] H (λv _=>v=.bl true) λ_ _ _=>False)
 (hCX:∀ (w:World) (H:Hp) (s:Shared) (e:Value) (s':Shared),CX w [] H s (λ_ _ _=>False) e s'->False) :
 PySem.W.WalkO q loose XP YP l.row.toRowW d [] (λf vs=>PySem.call f vs):=by
 refine Att.Qt hn hdf λw s₀ s₁ mg mb fa o pm cd doc a vs ns G Y ho hd hcd hmg hobj hints hlen hg=>?_
 have KX:=hY w _ Y;obtain ⟨fd,hb,hF⟩:=F w mg fa _ KX G.T.g hmg;exact Zx KX G.T.g G.T.b G.T.builtins G.T.nolimit hg hobj hints (Nat.le_trans hlen hn2) hr hF hb (λH hO hS=>hsp w H a ns hlen hO hS) λH e s'=>hCX w H s₁ e s'
end L2
namespace L2
open PySem PySem.Spec PyProof.Rows
def inClass (s:Stmt) (j:Nat):Stmt:=match s with
 | .ClassDef _ _ _ body _ _ _ _ _ _ _=>body.getD j (.Pass ⟨0,0,0,0⟩)|_=>.Pass ⟨0,0,0,0⟩
def cj (s:Stmt):Arguments:=match s with
 | .FunctionDef _ a _ _ _ _ _ _ _ _=>a|_=>{ posonlyargs:=[],args:=[],vararg:=none,kwonlyargs:=[],kw_defaults:=[],kwarg:=none,defaults:=[] }
def bz (s:Stmt):List Stmt:=match s with
 | .FunctionDef _ _ b _ _ _ _ _ _ _=>b|_=>[]
def bf (s:Stmt):Scope:=match s with
 | .FunctionDef _ _ _ _ _ _ sc _ _ _=>sc|_=>{ kind:=.function,names:=[],isGenerator:=false,isCoroutine:=false }
abbrev Nv:Yv:=λ_ _ _ _ _ _=>False
abbrev E0:XK:=λ_ _ _=>False
theorem Vk {X:Cx}:Passes Nv X E0:=λ_ _ _ _ _ _ _ h=>h.elim
structure Zy (K:Fg) (x qual:Str) (st:Stmt) (f:Addr) (fd:FuncData):Prop where
 ex:∃ (oc:Value) (od:Option Addr) (kV doc pm:Value) (an:Option Addr) (cdv ct:Value) (osl:Array (Option Value)),
  fd=PySem.W.fnOf x qual (cj st) (bz st) (bf st) .none kV doc pm an cdv ct/\K.lookup f=some ⟨oc,od,.func fd,osl⟩/\PySem.W.codeIn K cdv qual=true
 kp:PySem.W.keepIn K (.ref f)=true
section
variable {P:Program} {w:World} {K:Fg} {mg:Str->Option Value} {base:Heap}
theorem Zy.ok {x qual:Str} {st:Stmt} {f:Addr} {fd:FuncData} {N ps:List Str} {k:Nat} {sp:Sp} (F:Zy K x qual st f fd) (S:Ie N ps (bf st)) (len:∀ vs H Q E,sp vs H Q E->vs.length=ps.length)
 (hbody:∀ (cdv:Value) (A:Around) (outer:List Env) (s:Shared) (H:Hp) (vs:List V) (Q:VK) (E:XK),gm k (A.deeper (envOfC qual (bf st) s.heap.objs.size f cdv))->sp vs H Q E ->
  ∃ t,Ec (Tv Nv P w K mg base N qual (bf st) f cdv A outer s H E).nox (bz st) t/\t { nx:=λ_ H'=>Q .non H',rt:=Q } (start N vs) H):m5 P w K mg base Nv (k+1) f fd ps sp:=by
 obtain ⟨oc,od,kV,doc,pm,an,cdv,ct,osl,rfl,lk,hcd⟩:=F.ex;refine anr lk hcd S len λA outer s H vs Q E hr hsp=>?_
 obtain ⟨t,h,q⟩:=hbody cdv A outer s H vs Q E hr hsp;exact ⟨t,h.nox,q⟩
theorem Zy.binds {x qual:Str} {st:Stmt} {f:Addr} {fd:FuncData} {ps:List Str} (F:Zy K x qual st f fd)
 (h:∀ (kV doc pm:Value) (an:Option Addr) (cdv ct:Value) (us:List Value),us.length=ps.length->bindArgs (PySem.W.fnOf x qual (cj st) (bz st) (bf st) .none kV doc pm an cdv ct) ⟨us,[]⟩=pure (ps.zip us)):Binds K fd ps []:=by
 obtain ⟨oc,od,kV,doc,pm,an,cdv,ct,osl,rfl,lk,hcd⟩:=F.ex;exact .all (h kV doc pm an cdv ct)
theorem gb {x qual:Str} {st:Stmt} {f:Addr} {oc:Value} {od an:Option Addr} {osl:Array (Option Value)} {kV doc pm cdv ct:Value} (l:K.lookup f=some ⟨oc,od,.func (PySem.W.fnOf x qual (cj st) (bz st) (bf st) .none kV doc pm an cdv ct),osl⟩)
 (c:PySem.W.codeIn K cdv qual=true) (k:PySem.W.keepIn K (.ref f)=true):Zy K x qual st f (PySem.W.fnOf x qual (cj st) (bz st) (bf st) .none kV doc pm an cdv ct):=⟨⟨oc,od,kV,doc,pm,an,cdv,ct,osl,rfl,l,c⟩,k⟩
end
theorem Vl {A:Around} {k:Nat} (hr:gm k A):A.units+1 < cLine:=Nat.lt_of_le_of_lt (Nat.add_le_add_left (by decide:1 <= 64) _) hr.units
end L2
namespace MW
open PySem (Str)
inductive D where
 | non | bl (b:Bool) | int (i:Int) | str (s:Str) | tup (ds:List D) | vl (ds:List D) | fz (ds:List D) | ref (n:Nat)
noncomputable abbrev Kx:=Sum Int Str
inductive MO where
 | lst (ds:List D) | dT (kvs:List (List Kx×D)) | dK (kvs:List (Kx×D)) | ins (c:Nat) (fs:List (Nat×D))
noncomputable abbrev Store:=List MO
noncomputable abbrev Env:=List (Option D)
inductive Res (α:Type) where
 | ok (a:α) (M:Store) | err (c:Nat) (M:Store) | bad
namespace Res
noncomputable def bind {α β:Type} (r:Res α) (f:α->Store->Res β):Res β :=
 match r with | ok a M=>f a M | err c M=>err c M | bad=>bad
@[simp] theorem di {α β:Type} (a:α) (M:Store) (f:α->Store->Res β):(ok a M).bind f=f a M:=rfl
@[simp] theorem aof {α β:Type} (c:Nat) (M:Store) (f:α->Store->Res β):(err c M:Res α).bind f=err c M:=rfl
@[simp] theorem aog {α β:Type} (f:α->Store->Res β):(bad:Res α).bind f=bad:=rfl
noncomputable def ofOpt {α:Type} (o:Option α) (M:Store):Res α:=match o with | some a=>ok a M | none=>bad
@[simp] theorem ik {α:Type} (a:α) (M:Store):ofOpt (some a) M=ok a M:=rfl
@[simp] theorem ajh {α:Type} (M:Store):ofOpt (none:Option α) M=bad:=rfl
end Res
inductive Vm where | add | Xd | sub | mul | fdiv | mod | pow
inductive Cp where | eq | ne | lt | le | gt | ge | is | Zz | inn | Hc
inductive Nx where
 | len | tuple | list | max | min | sum | sorted | dict | all | isList | isTuple | isInt | isBool | Vn | isSeq
inductive Bm where | append | pop | index | get
inductive Tg where
 | name (i:Nat) | names (is:List Nat)
mutual
inductive Ex where
 | var (i:Nat) | cst (d:D)
 | bin (op:Vm) (a b:Ex) | neg (a:Ex)
 | cmp (op:Cp) (a b:Ex) | chain (o1 o2:Cp) (a b c:Ex)
 | and (a b:Ex) | or (a b:Ex) | not (a:Ex) | ite (c a b:Ex)
 | tup (es:ji) | lst (es:ji) | xj (es:ji) | Xe | aec
 | ix (a b:Ex) | cut (a:Ex) (lo hi:Qc)
 | call (f:Nat) (es:ji) | make (c:Nat) (es:ji) | meth (o:Ex) (m:Nat) (es:ji) | fld (o:Ex) (f:Nat)
 | blt (b:Nx) (es:ji) | bm (m:Bm) (o:Ex) (es:ji)
 | comp (v:Bool) (k:Nat) (t:Tg) (it:xg) (e:Ex) | jh (v:Bool) (k:Nat) (t:Tg) (it:xg) (c:Ex) (e:Ex)
 | Iu (a b:Ex) | T5 (e:Ex) | Z0 (e:Ex)
inductive ji where
 | nil | cons (e:Ex) (es:ji)
inductive Qc where
 | none | some (e:Ex)
inductive xg where
 | val (e:Ex) | Ib (e:Ex) | Z1 (e:Ex) | zip (a b:Ex)
end
inductive Lv where
 | tg (t:Tg) | sub (o i:Ex) | fld (o:Ex) (f:Nat)
mutual
inductive mj where
 | asg (l:Lv) (e:Ex) | expr (e:Ex) | iff (c:Ex) (a b:bw) | whl (c:Ex) (b:bw) | for_ (t:Tg) (it:xg) (b:bw)
 | ret (e:Ex) | aed | brk | cont | pass | raise (c:Nat) (es:ji)
inductive bw where
 | nil | cons (s:mj) (r:bw)
end
structure Fn where
 np:Nat
 ns:Nat
 body:bw
structure Cl where
 init:Nat
 meths:List (Nat×Nat)
noncomputable def asList (M:Store):D->Option (List D)
 | .vl ds=>some ds|.ref n=>match M[n]? with | some (.lst ds)=>some ds | _=>none
 | _=>none
noncomputable def gr (M:Store):D->Option (List D)
 | .tup ds=>some ds|d=>asList M d
noncomputable def K7:D->Option Kx
 | .int i=>some (.inl i)|.str s=>some (.inr s)|_=>none
noncomputable def Ny:List D->Option (List Kx)
 | []=>some []
 | d :: ds=>match K7 d,Ny ds with
  | some k,some ks=>some (k :: ks)|_,_=>none
noncomputable def Gj:D->Option (List Kx)
 | .tup ds=>Ny ds|_=>none
noncomputable def Z2:Kx->D
 | .inl i=>.int i|.inr s=>.str s
noncomputable def Z3 (ks:List Kx):D:=.tup (ks.map Z2)
noncomputable def j5:List D->Option (List (List Kx))
 | []=>some []
 | d :: ds=>match Gj d,j5 ds with
  | some k,some ks=>some (k :: ks)|_,_=>none
noncomputable def Dj (f:D->D->Option Bool):List D->List D->Option Bool
 | [],[]=>some true
 | a :: as,b :: bs=>match f a b,Dj f as bs with
  | some x,some y=>some (x && y)|_,_=>none
 | _,_=>some false
instance:DecidableEq Kx:=inferInstanceAs (DecidableEq (Sum Int Str))
noncomputable def jo {κ:Type} [DecidableEq κ] (kvs:List (κ×D)) (k:κ):Option D:=(kvs.find? λp=>decide (p.1=k)).map (·.2)
noncomputable def Lp (kvs:List (List Kx×D)):Bool:=kvs.all λp=>p.1.all λx=>match x with | .inl _=>true | .inr _=>false
noncomputable def eqK (f:D->D->Option Bool) (kb:List (List Kx×D)):List (List Kx×D)->Option Bool
 | []=>some true
 | (k,v) :: r=>match jo kb k with
  | none=>some false
  | some y=>match f v y,eqK f kb r with
   | some e,some b=>some (e && b)|_,_=>none
noncomputable def Lq (f:D->D->Option Bool) (M:Store) (a b:D):Option Bool :=
 match a,b with
 | .ref i,.ref j=>match M[i]?,M[j]? with
  | some (.dT ka),some (.dT kb)=>if Lp ka && Lp kb then (if i=j then some true else if ka.length=kb.length then eqK f kb ka else some false) else none
  | _,_=>none
 | _,_=>none
noncomputable def Lr (M:Store):D->Bool
 | .ref n=>match M[n]? with | some (.dT _)=>true | _=>false
 | _=>false
noncomputable def qm (M:Store):Nat->D->D->Option Bool
 | 0,_,_=>none
 | n+1,a,b=>match a,b with
  | .int i,.int j=>some (decide (i=j))|.bl i,.bl j=>some (i == j)|.str i,.str j=>some (decide (i=j))|.non,.non=>some true|.tup as,.tup bs=>Dj (qm M n) as bs
  | a,b=>match asList M a,asList M b with
   | some as,some bs=>if as.length=bs.length then Dj (qm M n) as bs else some false
   | none,none=>Lq (qm M n) M a b|_,_=>none
noncomputable def jd (M:Store) (a b:D):Option Bool:=if Lr M a then none else qm M 6 a b
noncomputable def Gk (M:Store) (x:D):List D->Option (List Bool)
 | []=>some []
 | y :: ys=>match jd M y x,Gk M x ys with
  | some a,some b=>some (a :: b)|_,_=>none
noncomputable def memD (M:Store) (x:D) (ds:List D):Option Bool:=(Gk M x ds).map (·.any id)
noncomputable def Qu (M:Store) (x:D) (ds:List D):Option Nat:=(Gk M x ds).bind (·.findIdx? id)
noncomputable def Vo:List D->Option (List Int)
 | []=>some []|.int i :: r=>(Vo r).map (i :: ·)|_ :: _=>none
noncomputable def Iv (n:Nat) (i:Int):Option Nat:=if 0 <= i then (if i < n then some i.toNat else none) else if -(n:Int) <= i then some (i+n).toNat else none
noncomputable def clip (n:Nat) (d:Nat):Option Int->Nat
 | none=>d|some i=>if 0 <= i then min i.toNat n else (i+n).toNat
noncomputable def Nz (ds:List D) (lo hi:Option Int):List D:=(ds.drop (clip ds.length 0 lo)).take (clip ds.length ds.length hi - clip ds.length 0 lo)
noncomputable def aji:List Int->Option Int
 | []=>none|a :: r=>some (r.foldl (λm x=>if m < x then x else m) a)
noncomputable def atx:List Int->Option Int
 | []=>none|a :: r=>some (r.foldl (λm x=>if x < m then x else m) a)
noncomputable def insI (x:Int):List Int->List Int
 | []=>[x]|y :: ys=>if x < y then x :: y :: ys else y :: insI x ys
noncomputable def sortI (xs:List Int):List Int:=xs.foldr insI []
noncomputable def T6:List Int->List Int
 | []=>[]|x :: xs=>if x∈xs then T6 xs else x :: T6 xs
noncomputable def keysOf (M:Store) (d:D):Option (List D) :=
 match d with
 | .ref n=>match M[n]? with
  | some (.dT kvs)=>some (kvs.map λp=>Z3 p.1)
  | _=>asList M d
 | _=>asList M d
noncomputable def Aa {κ:Type} [DecidableEq κ] (kvs:List (κ×D)) (k:κ) (v:D):List (κ×D) :=
 if (kvs.any λkv=>decide (kv.1=k))=true then kvs.map (λkv=>if kv.1=k then (kv.1,v) else kv) else kvs ++ [(k,v)]
noncomputable def j6 (xs:List (List Kx)):Bool:=decide (xs.length <= 30) && xs.all λk=>k.all λx=>match x with | .inl _=>true | .inr _=>false
noncomputable def u9 (xs ys:List (List Kx)):Bool:=xs.all (λx=>ys.any λy=>decide (y=x)) && ys.all (λy=>xs.any λx=>decide (x=y))
noncomputable def new (o:MO) (M:Store):Res D:=.ok (.ref M.length) (M ++ [o])
noncomputable def Z4 (a b:D) (M:Store):Res D :=
 match a,b with
 | .int i,.int j=>.ok (.int (i+j)) M|.tup xs,.tup ys=>if xs.length+ys.length <= 100000/\xs.isEmpty=false then .ok (.tup (xs ++ ys)) M else .bad
 | x,y=>match asList M x,asList M y with
  | some xs,some ys=>if xs.length+ys.length <= 100000 then .ok (.vl (xs ++ ys)) M else .bad
  | _,_=>.bad
noncomputable def T7 (x y:D) (M:Store):Res D :=
 match asList M x,asList M y with
 | some xs,some ys=>if xs.length+ys.length <= 100000 then new (.lst (xs ++ ys)) M else .bad
 | _,_=>.bad
noncomputable def ii {α:Type} (x y:D) (f:Int->Int->α) (z:α):α:=match x with | .int i=>(match y with | .int j=>f i j | _=>z) | _=>z
theorem T8 {α:Type} {x y:D} {f:Int->Int->α} {z r:α} (h:ii x y f z=r) (hz:z≠r):∃ i j,x=.int i/\y=.int j/\f i j=r:=by
 cases x with
 | int i=>cases y with
  | int j=>exact ⟨i,j,rfl,rfl,h⟩|_=>exact absurd h hz
 | _=>exact absurd h hz
@[simp] theorem aty {α:Type} (i j:Int) (f:Int->Int->α) (z:α):ii (.int i) (.int j) f z=f i j:=rfl
noncomputable def aoi (a b:D) (M:Store):Res D:=ii a b (λi j=>.ok (.int (i - j)) M) .bad
noncomputable def aoj (a b:D) (M:Store):Res D:=ii a b (λi j=>if (-(2 ^ 64) < i/\i < 2 ^ 64) \/ (-(2 ^ 64) < j/\j < 2 ^ 64) then .ok (.int (i * j)) M else .bad) .bad
noncomputable def ajj (a b:D) (M:Store):Res D:=ii a b (λi j=>if 0 < j/\j < 1073741824 then .ok (.int (i / j)) M else .bad) .bad
noncomputable def aok (a b:D) (M:Store):Res D:=ii a b (λi j=>if 0 < j then .ok (.int (i % j)) M else .bad) .bad
noncomputable def ahi (a b:D) (M:Store):Res D:=ii a b (λi j=>if 0 <= j/\j <= 64/\i.natAbs < 2 ^ 64 then .ok (.int (i ^ j.toNat)) M else .bad) .bad
noncomputable def qp (op:Vm):D->D->Store->Res D :=
 match op with
 | .add=>Z4 | .Xd=>T7 | .sub=>aoi | .mul=>aoj | .fdiv=>ajj | .mod=>aok | .pow=>ahi
noncomputable def Ei (M:Store) (a b:D):Option Bool :=
 match b with
 | .ref n=>match M[n]? with
  | some (.dT kvs)=>(Gj a).map λk=>(jo kvs k).isSome
  | some (.dK kvs)=>(K7 a).map λk=>(jo kvs k).isSome
  | _=>(gr M b).bind (memD M a)
 | _=>(gr M b).bind (memD M a)
noncomputable def aol:D->D->Option Bool
 | .non,.non=>some true|.bl a,.bl b=>some (a == b)|.non,_=>some false|_,.non=>some false|.bl _,_=>some false|_,.bl _=>some false|_,_=>none
noncomputable def Qv (f:Int->Int->Bool) (a b:D):Option Bool:=ii a b (λi j=>some (f i j)) none
noncomputable def An (op:Cp) (a b:D) (M:Store):Option Bool :=
 match op with
 | .lt=>Qv (λi j=>decide (i < j)) a b
 | .le=>Qv (λi j=>decide (i <= j)) a b
 | .gt=>Qv (λi j=>decide (j < i)) a b
 | .ge=>Qv (λi j=>decide (j <= i)) a b
 | .eq=>jd M a b|.ne=>(jd M a b).map not|.inn=>Ei M a b|.Hc=>(Ei M a b).map not|.is=>aol a b|.Zz=>(aol a b).map not
noncomputable def jm (a b:D) (M:Store):Option D :=
 match a with
 | .ref n=>match M[n]? with
  | some (.dT kvs)=>(Gj b).bind (jo kvs)|some (.dK kvs)=>(K7 b).bind (jo kvs)
  | _=>match asList M a,b with
   | some ds,.int i=>(Iv ds.length i).bind λj=>ds[j]?
   | _,_=>none
 | .fz ds=>match b with
  | .int i=>(Iv ds.length i).bind λj=>ds[j]?
  | _=>none
 | _=>match gr M a,b with
  | some ds,.int i=>(Iv ds.length i).bind λj=>ds[j]?
  | _,_=>none
noncomputable def cutOp (a:D) (lo hi:Option Int) (M:Store):Option D :=
 match a with
 | .tup ds=>if clip ds.length 0 lo=0/\clip ds.length ds.length hi=ds.length then none else some (.tup (Nz ds lo hi))
 | _=>(asList M a).map λds=>.vl (Nz ds lo hi)
noncomputable def allB:List D->Option Bool
 | []=>some true|.bl b :: r=>(allB r).map (b && ·)|_ :: _=>none
noncomputable def isL (M:Store):D->Option Bool
 | .vl _=>some true|.fz _=>none
 | .ref n=>match M[n]? with
  | some (.lst _)=>some true|some (.dT _)=>some false|some (.dK _)=>some false|_=>none
 | _=>some false
noncomputable def T9 (kvs:List (List Kx×D)):Bool:=kvs.all λp=>match p.1 with
 | [.inl i,.inl j]=>decide (-1 <= i) && decide (i < 9) && decide (-1 <= j) && decide (j < 9)|_=>false
noncomputable def Iw (M:Store):D->Res D
 | .ref n=>match M[n]? with
  | some (.lst ds)=>.ok (.int ds.length) M|_=>.bad
 | .fz ds=>.ok (.int ds.length) M|.tup ds=>.ok (.int ds.length) M|.vl ds=>.ok (.int ds.length) M|_=>.bad
noncomputable def Vp (M:Store):D->Res D
 | .ref n=>match M[n]? with
  | some (.dT kvs)=>if T9 kvs then new (.dT kvs) M else .bad
  | some (.dK kvs)=>new (.dK kvs) M|_=>.bad
 | _=>.bad
noncomputable def isT (M:Store):D->Option Bool
 | .tup _=>some true|.fz _=>none
 | .ref n=>match M[n]? with
  | some (.lst _)=>some false|some (.dT _)=>some false|some (.dK _)=>some false|_=>none
 | _=>some false
noncomputable def isB:D->Option Bool
 | .bl _=>some true|.fz _=>none|.ref _=>none|_=>some false
noncomputable def isS:D->Option Bool
 | .tup _=>some true|.vl _=>some true|.fz _=>none|.ref _=>none|_=>some false
noncomputable def Iz:D->Option (List D)
 | .tup ds=>some ds|.vl ds=>some ds|_=>none
noncomputable def two (ds:List D) (f:Int->Int->Int) (g:D->Option Int) (M:Store):Res D :=
 match ds with
 | [a,b]=>(match a,b with | .int i,.int j=>.ok (.int (f i j)) M | _,_=>.bad)
 | [d]=>Res.ofOpt ((g d).map D.int) M|_=>.bad
noncomputable def Ci (ds:List D) (g:D->Res D):Res D :=
 match ds with
 | [d]=>g d|_=>.bad
noncomputable def dj (b:Nx) (ds:List D) (M:Store):Res D :=
 match b with
 | .len=>Ci ds (Iw M)|.tuple=>Ci ds λd=>Res.ofOpt ((gr M d).map D.tup) M
 | .list=>Ci ds λd=>match gr M d with
  | some ds=>new (.lst ds) M|none=>.bad
 | .max=>two ds (λi j=>if i < j then j else i) (λd=>((asList M d).bind Vo).bind aji) M
 | .min=>two ds (λi j=>if j < i then j else i) (λd=>((asList M d).bind Vo).bind atx) M
 | .sum=>Ci ds λd=>Res.ofOpt (((gr M d).bind Vo).map λis=>D.int is.sum) M
 | .sorted=>Ci ds λd=>Res.ofOpt (((gr M d).bind Vo).map λis=>D.vl ((sortI is).map D.int)) M
 | .Vn=>Ci ds λd=>Res.ofOpt (((gr M d).bind Vo).map λis=>D.vl ((sortI (T6 is)).map D.int)) M
 | .dict=>Ci ds (Vp M)|.all=>Ci ds λd=>Res.ofOpt (((asList M d).bind allB).map D.bl) M
 | .isList=>Ci ds λd=>Res.ofOpt ((isL M d).map D.bl) M
 | .isTuple=>Ci ds λd=>Res.ofOpt ((isT M d).map D.bl) M
 | .isInt=>Ci ds λd=>match d with
  | .int _=>.ok (.bl true) M|_=>.bad
 | .isBool=>Ci ds λd=>Res.ofOpt ((isB d).map D.bl) M
 | .isSeq=>Ci ds λd=>Res.ofOpt ((isS d).map D.bl) M
noncomputable def Hy (m:Bm) (x:D) (M:Store):Bool :=
 match m,x with
 | .append,.ref n=>match M[n]? with | some (.lst _)=>true | _=>false
 | .pop,.ref n=>match M[n]? with | some (.lst _)=>true | _=>false
 | .index,x=>(asList M x).isSome|.get,.ref n=>match M[n]? with | some (.dT _)=>true | some (.dK _)=>true | _=>false
 | _,_=>false
noncomputable def Dk (m:Bm) (o:D) (ds:List D) (M:Store):Res D :=
 match m,o,ds with
 | .append,.ref n,[d]=>match M[n]? with
  | some (.lst xs)=>if xs.length < 100000 then .ok .non (M.set n (.lst (xs ++ [d]))) else .bad
  | _=>.bad
 | .pop,.ref n,[.int i]=>match M[n]? with
  | some (.lst xs)=>match (Iv xs.length i).bind λj=>(xs[j]?).map λd=>(j,d) with
   | some (j,d)=>.ok d (M.set n (.lst (xs.eraseIdx j)))|none=>.bad
  | _=>.bad
 | .index,o,[d]=>Res.ofOpt (((gr M o).bind (Qu M d)).map λj=>D.int (j:Int)) M
 | .get,.ref n,[k,d]=>match M[n]? with
  | some (.dT kvs)=>Res.ofOpt ((Gj k).map λq=>(jo kvs q).getD d) M
  | some (.dK kvs)=>Res.ofOpt ((K7 k).map λq=>(jo kvs q).getD d) M
  | _=>.bad
 | _,_,_=>.bad
noncomputable def setOp (o i v:D) (M:Store):Option Store :=
 match o with
 | .ref n=>match M[n]? with
  | some (.lst xs)=>match i with
   | .int j=>(Iv xs.length j).map λq=>M.set n (.lst (xs.set q v))
   | _=>none
  | some (.dT kvs)=>(Gj i).bind λk=>if kvs.length < 100000 then some (M.set n (.dT (Aa kvs k v))) else none
  | some (.dK kvs)=>(K7 i).bind λk=>if kvs.length < 100000 then some (M.set n (.dK (Aa kvs k v))) else none
  | _=>none
 | _=>none
noncomputable def Hd (f:Nat) (v:D):List (Nat×D)->List (Nat×D)
 | []=>[(f,v)]|(g,x) :: r=>if g=f then (g,v) :: r else (g,x) :: Hd f v r
noncomputable def Ej (o:D) (f:Nat) (M:Store):Option D :=
 match o with
 | .ref n=>match M[n]? with
  | some (.ins _ fs)=>fs.lookup f|_=>none
 | _=>none
noncomputable def Ek (o:D) (f:Nat) (v:D) (M:Store):Option Store :=
 match o with
 | .ref n=>match M[n]? with
  | some (.ins c fs)=>if fs.length < 1000 then some (M.set n (.ins c (Hd f v fs))) else none
  | _=>none
 | _=>none
inductive Src where
 | con (ds:List D) | live (n:Nat) (len:Nat)
noncomputable def Src.len:Src->Nat
 | .con ds=>ds.length|.live _ k=>k
noncomputable def Src.item (s:Src) (i:Nat) (M:Store):Option D :=
 match s with
 | .con ds=>ds[i]?
 | .live n k=>match M[n]? with
  | some (.lst ds)=>if ds.length=k then ds[i]? else none
  | _=>none
noncomputable def Src.fin (s:Src) (M:Store):Bool :=
 match s with
 | .con _=>true
 | .live n k=>match M[n]? with
  | some (.lst ds)=>ds.length == k|_=>false
noncomputable def srcOf (M:Store) (d:D):Option Src :=
 match d with
 | .tup ds=>some (.con ds)|.vl ds=>some (.con ds)
 | .ref n=>match M[n]? with
  | some (.lst ds)=>some (.live n ds.length)|_=>none
 | _=>none
inductive Flow where
 | next | brk | cont | ret (d:D)
noncomputable def Dl:List Nat->List D->Env->Env
 | i :: is,d :: ds,ρ=>Dl is ds (ρ.set i (some d))|_,_,ρ=>ρ
noncomputable def Tg.put (t:Tg) (d:D) (ρ:Env):Option Env :=
 match t with
 | .name i=>some (ρ.set i (some d))
 | .names is=>match d with
  | .tup ds=>if ds.length=is.length then some (Dl is ds ρ) else none
  | _=>none
structure jz where
 call:Nat->List D->Store->Res D
 cls:List Cl
noncomputable def my (fin:Store->Bool) (item:Nat->Store->Option D) (body:D->Env->Store->Res (Flow×Env)):Nat->Nat->Env->Store->Res (Flow×Env)
 | 0,_,ρ,M=>if fin M then .ok (.next,ρ) M else .bad
 | k+1,i,ρ,M=>match item i M with
  | none=>.bad
  | some d=>(body d ρ M).bind λr M1=>match r.1 with
   | .next=>my fin item body k (i+1) r.2 M1|.cont=>my fin item body k (i+1) r.2 M1|.brk=>.ok (.next,r.2) M1|.ret v=>.ok (.ret v,r.2) M1
noncomputable def jw (fin:Store->Bool) (item:Nat->Store->Option D) (body:D->Store->Res (Option D)):Nat->Nat->Store->Res (List D)
 | 0,_,M=>if fin M then .ok [] M else .bad
 | k+1,i,M=>match item i M with
  | none=>.bad|some d=>(body d M).bind λo M1=>(jw fin item body k (i+1) M1).bind λds M2=>.ok (match o with | some x=>x :: ds | none=>ds) M2
noncomputable def gf (s:Src) (body:D->Store->Res (Option D)) (M:Store):Res (List D):=if s.len <= 100000 then jw s.fin s.item body s.len 0 M else .bad
noncomputable def qb (c:Env->Store->Res D) (body:Env->Store->Res (Flow×Env)):Nat->Env->Store->Res (Flow×Env)
 | 0,_,_=>.bad
 | k+1,ρ,M=>(c ρ M).bind λb M1=>match b with
  | .bl false=>.ok (.next,ρ) M1
  | .bl true=>(body ρ M1).bind λr M2=>match r.1 with
   | .next=>qb c body k r.2 M2|.cont=>qb c body k r.2 M2|.brk=>.ok (.next,r.2) M2|.ret v=>.ok (.ret v,r.2) M2
  | _=>.bad
noncomputable def Xf:Nat:=1000000
noncomputable def jj (ds:List D):Nat->List D:=λn=>(ds.zipIdx n).map λp=>D.tup [.int p.2,p.1]
mutual
noncomputable def Ex.den (W:jz):Ex->Env->Store->Res D
 | .var i,ρ,M=>match ρ[i]? with
  | some (some d)=>.ok d M|_=>.bad
 | .cst d,_,M=>.ok d M|.bin op a b,ρ,M=>(a.den W ρ M).bind λx M1=>(b.den W ρ M1).bind λy M2=>qp op x y M2
 | .neg a,ρ,M=>(a.den W ρ M).bind λx M1=>match x with | .int i=>.ok (.int (-i)) M1 | _=>.bad
 | .cmp op a b,ρ,M=>(a.den W ρ M).bind λx M1=>(b.den W ρ M1).bind λy M2=>Res.ofOpt ((An op x y M2).map D.bl) M2
 | .chain o1 o2 a b c,ρ,M=>(a.den W ρ M).bind λx M1=>(b.den W ρ M1).bind λy M2=>(Res.ofOpt (An o1 x y M2) M2).bind λq M2=>if q then (c.den W ρ M2).bind λz M3=>Res.ofOpt ((An o2 y z M3).map D.bl) M3 else .ok (.bl false) M2
 | .and a b,ρ,M=>(a.den W ρ M).bind λx M1=>match x with | .bl true=>b.den W ρ M1 | .bl false=>.ok (.bl false) M1 | _=>.bad
 | .or a b,ρ,M=>(a.den W ρ M).bind λx M1=>match x with | .bl true=>.ok (.bl true) M1 | .bl false=>b.den W ρ M1 | _=>.bad
 | .not a,ρ,M=>(a.den W ρ M).bind λx M1=>match x with | .bl b=>.ok (.bl !b) M1 | _=>.bad
 | .ite c a b,ρ,M=>(c.den W ρ M).bind λx M1=>match x with | .bl true=>a.den W ρ M1 | .bl false=>b.den W ρ M1 | _=>.bad
 | .tup es,ρ,M=>(es.den W ρ M).bind λds M1=>.ok (.tup ds) M1
 | .lst es,ρ,M=>(es.den W ρ M).bind λds M1=>new (.lst ds) M1
 | .xj es,ρ,M=>(es.den W ρ M).bind λds M1=>.ok (.vl ds) M1
 | .Xe,_,M=>new (.dT []) M|.aec,_,M=>new (.dK []) M|.ix a b,ρ,M=>(a.den W ρ M).bind λx M1=>(b.den W ρ M1).bind λy M2=>Res.ofOpt (jm x y M2) M2
 | .cut a lo hi,ρ,M=>(a.den W ρ M).bind λx M1=>(lo.den W ρ M1).bind λl M2=>(hi.den W ρ M2).bind λh M3=>Res.ofOpt (cutOp x l h M3) M3
 | .call f es,ρ,M=>(es.den W ρ M).bind λds M1=>W.call f ds M1
 | .make c es,ρ,M=>(es.den W ρ M).bind λds M1=>match W.cls[c]? with
  | some C=>(W.call C.init (.ref M1.length :: ds) (M1 ++ [.ins c []])).bind λr M2=>match r with | .non=>.ok (.ref M1.length) M2 | _=>.bad
  | none=>.bad
 | .meth o m es,ρ,M=>(o.den W ρ M).bind λx M1=>(es.den W ρ M1).bind λds M2=>match x with
  | .ref n=>match M1[n]? with
   | some (.ins c _)=>match (W.cls[c]?).bind λC=>C.meths.lookup m with
    | some f=>W.call f (.ref n :: ds) M2|none=>.bad
   | _=>.bad
  | _=>.bad
 | .fld o f,ρ,M=>(o.den W ρ M).bind λx M1=>Res.ofOpt (Ej x f M1) M1
 | .blt b es,ρ,M=>(es.den W ρ M).bind λds M1=>dj b ds M1
 | .bm m o es,ρ,M=>(o.den W ρ M).bind λx M1=>if Hy m x M1 then (es.den W ρ M1).bind λds M2=>Dk m x ds M2 else .bad
 | .comp v k t it e,ρ,M=>(it.den W ρ M).bind λs M1 =>
  (gf s (λd M=>match t.put d (ρ ++ List.replicate k none) with
   | some ρ'=>(e.den W ρ' M).bind λx M'=>.ok (some x) M'
   | none=>.bad) M1).bind λds M2=>if v then .ok (.vl ds) M2 else new (.lst ds) M2
 | .jh v k t it c e,ρ,M=>(it.den W ρ M).bind λs M1 =>
  (gf s (λd M=>match t.put d (ρ ++ List.replicate k none) with
   | some ρ'=>(c.den W ρ' M).bind λb M'=>match b with
    | .bl true=>(e.den W ρ' M').bind λx M''=>.ok (some x) M''
    | .bl false=>.ok none M'|_=>.bad
   | none=>.bad) M1).bind λds M2=>if v then .ok (.vl ds) M2 else new (.lst ds) M2
 | .Iu a b,ρ,M=>(a.den W ρ M).bind λx M1 =>
  match (keysOf M1 x).bind j5 with
  | some xs=>if j6 xs then (b.den W ρ M1).bind λy M2 =>
   match (keysOf M2 y).bind j5 with
   | some ys=>if j6 ys then .ok (.bl !u9 xs ys) M2 else .bad
   | none=>.bad
   else .bad
  | none=>.bad
 | .T5 e,ρ,M=>(e.den W ρ M).bind λx M1=>match x with
  | .int i=>if i.natAbs <= 100000 then .ok (.tup ((List.range i.toNat).map λ(k:Nat)=>D.int (k:Int))) M1 else .bad
  | _=>.bad
 | .Z0 e,ρ,M=>(e.den W ρ M).bind λx M1=>match x with
  | .int i=>if i.natAbs <= 100000 then new (.lst ((List.range i.toNat).map λ(k:Nat)=>D.int (k:Int))) M1 else .bad
  | _=>.bad
noncomputable def ji.den (W:jz):ji->Env->Store->Res (List D)
 | .nil,_,M=>.ok [] M|.cons e es,ρ,M=>(e.den W ρ M).bind λx M1=>(es.den W ρ M1).bind λxs M2=>.ok (x :: xs) M2
noncomputable def Qc.den (W:jz):Qc->Env->Store->Res (Option Int)
 | .none,_,M=>.ok none M|.some e,ρ,M=>(e.den W ρ M).bind λx M1=>match x with | .int i=>.ok (some i) M1 | _=>.bad
noncomputable def xg.den (W:jz):xg->Env->Store->Res Src
 | .val e,ρ,M=>(e.den W ρ M).bind λx M1=>Res.ofOpt (srcOf M1 x) M1
 | .Ib e,ρ,M=>(e.den W ρ M).bind λx M1=>match x with
  | .int i=>if i.natAbs <= 100000 then .ok (.con ((List.range i.toNat).map λ(k:Nat)=>D.int (k:Int))) M1 else .bad
  | _=>.bad
 | .Z1 e,ρ,M=>(e.den W ρ M).bind λx M1=>match x with
  | .tup ds=>.ok (.con (jj ds 0)) M1|.vl ds=>.ok (.con (jj ds 0)) M1|_=>.bad
 | .zip a b,ρ,M=>(a.den W ρ M).bind λx M1=>(b.den W ρ M1).bind λy M2=>(Res.ofOpt (Iz x) M2).bind λds M2=>(Res.ofOpt (Iz y) M2).bind λes M2=>.ok (.con ((ds.zip es).map λp=>D.tup [p.1,p.2])) M2
end
noncomputable def Lv.put (W:jz) (l:Lv) (d:D) (ρ:Env) (M:Store):Res Env :=
 match l with
 | .tg t=>Res.ofOpt (t.put d ρ) M|.sub o i=>(o.den W ρ M).bind λx M1=>(i.den W ρ M1).bind λy M2=>(Res.ofOpt (setOp x y d M2) M2).bind λM3 _=>.ok ρ M3
 | .fld o f=>(o.den W ρ M).bind λx M1=>(Res.ofOpt (Ek x f d M1) M1).bind λM2 _=>.ok ρ M2
mutual
noncomputable def mj.den (W:jz):mj->Env->Store->Res (Flow×Env)
 | .asg l e,ρ,M=>(e.den W ρ M).bind λx M1=>(l.put W x ρ M1).bind fun ρ' M2=>.ok (.next,ρ') M2
 | .expr e,ρ,M=>(e.den W ρ M).bind λ_ M1=>.ok (.next,ρ) M1
 | .iff c a b,ρ,M=>(c.den W ρ M).bind λx M1=>match x with | .bl true=>a.den W ρ M1 | .bl false=>b.den W ρ M1 | _=>.bad
 | .whl c b,ρ,M=>qb (c.den W) (b.den W) Xf ρ M
 | .for_ t it b,ρ,M=>(it.den W ρ M).bind λs M1=>my s.fin s.item (λd ρ M=>match t.put d ρ with
  | some ρ'=>b.den W ρ' M|none=>.bad) s.len 0 ρ M1
 | .ret e,ρ,M=>(e.den W ρ M).bind λx M1=>.ok (.ret x,ρ) M1
 | .aed,ρ,M=>.ok (.ret .non,ρ) M|.brk,ρ,M=>.ok (.brk,ρ) M|.cont,ρ,M=>.ok (.cont,ρ) M|.pass,ρ,M=>.ok (.next,ρ) M|.raise c es,ρ,M=>(es.den W ρ M).bind λ_ M1=>.err c M1
noncomputable def bw.den (W:jz):bw->Env->Store->Res (Flow×Env)
 | .nil,ρ,M=>.ok (.next,ρ) M
 | .cons s r,ρ,M=>(s.den W ρ M).bind λp M1=>match p.1 with
  | .next=>r.den W p.2 M1|.brk=>.ok (.brk,p.2) M1|.cont=>.ok (.cont,p.2) M1|.ret d=>.ok (.ret d,p.2) M1
end
structure Prog where
 fns:List Fn
 cls:List Cl
noncomputable def Fn.run (W:jz) (f:Fn) (ds:List D) (M:Store):Res D :=
 if ds.length=f.np then
  (f.body.den W (ds.map some ++ List.replicate (f.ns - f.np) none) M).bind λp M1=>match p.1 with
   | .ret d=>.ok d M1|.next=>.ok .non M1|_=>.bad
 else .bad
noncomputable def Prog.call (P:Prog):Nat->Nat->List D->Store->Res D
 | 0,_,_,_=>.bad
 | n+1,f,ds,M=>match P.fns[f]? with
  | some F=>F.run ⟨P.call n,P.cls⟩ ds M|none=>.bad
section
variable {W:jz} {ρ:Env} {M:Store}
@[simp] theorem Vq (i:Nat):(Ex.var i).den W ρ M=match ρ[i]? with | some (some d)=>.ok d M | _=>.bad:=rfl
@[simp high] theorem at8 (d:D) (r:Env):(Ex.var 0).den W (some d :: r) M=.ok d M:=rfl
@[simp high] theorem at9 (a0:Option D) (d:D) (r:Env):(Ex.var 1).den W (a0 :: some d :: r) M=.ok d M:=rfl
@[simp high] theorem aua (a0 a1:Option D) (d:D) (r:Env):(Ex.var 2).den W (a0 :: a1 :: some d :: r) M=.ok d M:=rfl
@[simp high] theorem aub (a0 a1 a2:Option D) (d:D) (r:Env):(Ex.var 3).den W (a0 :: a1 :: a2 :: some d :: r) M=.ok d M:=rfl
@[simp high] theorem auc (a0 a1 a2 a3:Option D) (d:D) (r:Env):(Ex.var 4).den W (a0 :: a1 :: a2 :: a3 :: some d :: r) M=.ok d M:=rfl
@[simp high] theorem aud (a0 a1 a2 a3 a4:Option D) (d:D) (r:Env):(Ex.var 5).den W (a0 :: a1 :: a2 :: a3 :: a4 :: some d :: r) M=.ok d M:=rfl
@[simp high] theorem aue (a0 a1 a2 a3 a4 a5:Option D) (d:D) (r:Env):(Ex.var 6).den W (a0 :: a1 :: a2 :: a3 :: a4 :: a5 :: some d :: r) M=.ok d M:=rfl
@[simp high] theorem auf (a0 a1 a2 a3 a4 a5 a6:Option D) (d:D) (r:Env):(Ex.var 7).den W (a0 :: a1 :: a2 :: a3 :: a4 :: a5 :: a6 :: some d :: r) M=.ok d M:=rfl
@[simp high] theorem auh (a0 a1 a2 a3 a4 a5 a6 a7:Option D) (d:D) (r:Env):(Ex.var 8).den W (a0 :: a1 :: a2 :: a3 :: a4 :: a5 :: a6 :: a7 :: some d :: r) M=.ok d M:=rfl
@[simp high] theorem aui (a0 a1 a2 a3 a4 a5 a6 a7 a8:Option D) (d:D) (r:Env):(Ex.var 9).den W (a0 :: a1 :: a2 :: a3 :: a4 :: a5 :: a6 :: a7 :: a8 :: some d :: r) M=.ok d M:=rfl
@[simp high] theorem ar8 (a0 a1 a2 a3 a4 a5 a6 a7 a8 a9:Option D) (d:D) (r:Env):(Ex.var 10).den W (a0 :: a1 :: a2 :: a3 :: a4 :: a5 :: a6 :: a7 :: a8 :: a9 :: some d :: r) M=.ok d M:=rfl
@[simp high] theorem ar9 (a0 a1 a2 a3 a4 a5 a6 a7 a8 a9 a10:Option D) (d:D) (r:Env):(Ex.var 11).den W (a0 :: a1 :: a2 :: a3 :: a4 :: a5 :: a6 :: a7 :: a8 :: a9 :: a10 :: some d :: r) M=.ok d M:=rfl
@[simp high] theorem asa (a0 a1 a2 a3 a4 a5 a6 a7 a8 a9 a10 a11:Option D) (d:D) (r:Env):(Ex.var 12).den W (a0 :: a1 :: a2 :: a3 :: a4 :: a5 :: a6 :: a7 :: a8 :: a9 :: a10 :: a11 :: some d :: r) M=.ok d M:=rfl
@[simp] theorem El (d:D):(Ex.cst d).den W ρ M=.ok d M:=rfl
@[simp] theorem aee (op:Vm) (a b:Ex):(Ex.bin op a b).den W ρ M=(a.den W ρ M).bind λx M1=>(b.den W ρ M1).bind λy M2=>qp op x y M2:=rfl
@[simp] theorem aef (a:Ex):(Ex.neg a).den W ρ M=(a.den W ρ M).bind λx M1=>match x with | .int i=>.ok (.int (-i)) M1 | _=>.bad:=rfl
@[simp] theorem Vr (op:Cp) (a b:Ex):(Ex.cmp op a b).den W ρ M=(a.den W ρ M).bind λx M1=>(b.den W ρ M1).bind λy M2=>Res.ofOpt ((An op x y M2).map D.bl) M2:=rfl
@[simp] theorem Xg (o1 o2:Cp) (a b c:Ex):(Ex.chain o1 o2 a b c).den W ρ M=(a.den W ρ M).bind λx M1=>(b.den W ρ M1).bind λy M2=>(Res.ofOpt (An o1 x y M2) M2).bind λq M2=>if q then (c.den W ρ M2).bind λz M3=>Res.ofOpt ((An o2 y z M3).map D.bl) M3 else .ok (.bl false) M2:=rfl
theorem Vs (a b:Ex):(Ex.and a b).den W ρ M=(a.den W ρ M).bind λx M1=>match x with | .bl true=>b.den W ρ M1 | .bl false=>.ok (.bl false) M1 | _=>.bad:=rfl
theorem Z5 (a b:Ex):(Ex.or a b).den W ρ M=(a.den W ρ M).bind λx M1=>match x with | .bl true=>.ok (.bl true) M1 | .bl false=>b.den W ρ M1 | _=>.bad:=rfl
@[simp] theorem Vt (a:Ex):(Ex.not a).den W ρ M=(a.den W ρ M).bind λx M1=>match x with | .bl b=>.ok (.bl !b) M1 | _=>.bad:=rfl
theorem aeg (c a b:Ex):(Ex.ite c a b).den W ρ M=(c.den W ρ M).bind λx M1=>match x with | .bl true=>a.den W ρ M1 | .bl false=>b.den W ρ M1 | _=>.bad:=rfl
@[simp] theorem aeh (es:ji):(Ex.tup es).den W ρ M=(es.den W ρ M).bind λds M1=>.ok (.tup ds) M1:=rfl
@[simp] theorem aei (es:ji):(Ex.lst es).den W ρ M=(es.den W ρ M).bind λds M1=>new (.lst ds) M1:=rfl
@[simp] theorem Z6 (es:ji):(Ex.xj es).den W ρ M=(es.den W ρ M).bind λds M1=>.ok (.vl ds) M1:=rfl
@[simp] theorem Z7:Ex.Xe.den W ρ M=new (.dT []) M:=rfl
@[simp] theorem aom:Ex.aec.den W ρ M=new (.dK []) M:=rfl
@[simp] theorem ajk (a b:Ex):(Ex.ix a b).den W ρ M=(a.den W ρ M).bind λx M1=>(b.den W ρ M1).bind λy M2=>Res.ofOpt (jm x y M2) M2:=rfl
@[simp] theorem aej (a:Ex) (lo hi:Qc):(Ex.cut a lo hi).den W ρ M=(a.den W ρ M).bind λx M1=>(lo.den W ρ M1).bind λl M2=>(hi.den W ρ M2).bind λh M3=>Res.ofOpt (cutOp x l h M3) M3:=rfl
@[simp] theorem Z8 (f:Nat) (es:ji):(Ex.call f es).den W ρ M=(es.den W ρ M).bind λds M1=>W.call f ds M1:=rfl
@[simp] theorem Z9 (c:Nat) (es:ji):(Ex.make c es).den W ρ M=(es.den W ρ M).bind λds M1=>match W.cls[c]? with
 | some C=>(W.call C.init (.ref M1.length :: ds) (M1 ++ [.ins c []])).bind λr M2=>match r with | .non=>.ok (.ref M1.length) M2 | _=>.bad
 | none=>.bad:=rfl
@[simp] theorem Em (o:Ex) (m:Nat) (es:ji):(Ex.meth o m es).den W ρ M=(o.den W ρ M).bind λx M1=>(es.den W ρ M1).bind λds M2=>match x with
 | .ref n=>match M1[n]? with
  | some (.ins c _)=>match (W.cls[c]?).bind λC=>C.meths.lookup m with
   | some f=>W.call f (.ref n :: ds) M2|none=>.bad
  | _=>.bad
 | _=>.bad:=rfl
@[simp] theorem aek (o:Ex) (f:Nat):(Ex.fld o f).den W ρ M=(o.den W ρ M).bind λx M1=>Res.ofOpt (Ej x f M1) M1:=rfl
@[simp] theorem N5 (b:Nx) (es:ji):(Ex.blt b es).den W ρ M=(es.den W ρ M).bind λds M1=>dj b ds M1:=rfl
@[simp] theorem ajl (m:Bm) (o:Ex) (es:ji):(Ex.bm m o es).den W ρ M=(o.den W ρ M).bind λx M1=>if Hy m x M1 then (es.den W ρ M1).bind λds M2=>Dk m x ds M2 else .bad:=rfl
@[simp] theorem aaa (e:Ex):(Ex.T5 e).den W ρ M=(e.den W ρ M).bind λx M1=>match x with
 | .int i=>if i.natAbs <= 100000 then .ok (.tup ((List.range i.toNat).map λ(k:Nat)=>D.int (k:Int))) M1 else .bad
 | _=>.bad:=rfl
@[simp] theorem aon (e:Ex):(Ex.Z0 e).den W ρ M=(e.den W ρ M).bind λx M1=>match x with
 | .int i=>if i.natAbs <= 100000 then new (.lst ((List.range i.toNat).map λ(k:Nat)=>D.int (k:Int))) M1 else .bad
 | _=>.bad:=rfl
theorem Ao (v:Bool) (k:Nat) (t:Tg) (it:xg) (e:Ex):(Ex.comp v k t it e).den W ρ M=(it.den W ρ M).bind λs M1 =>
 (gf s (λd M=>match t.put d (ρ ++ List.replicate k none) with
  | some ρ'=>(e.den W ρ' M).bind λx M'=>.ok (some x) M'
  | none=>.bad) M1).bind λds M2=>if v then .ok (.vl ds) M2 else new (.lst ds) M2:=rfl
theorem Ja (v:Bool) (k:Nat) (t:Tg) (it:xg) (c e:Ex):(Ex.jh v k t it c e).den W ρ M=(it.den W ρ M).bind λs M1 =>
 (gf s (λd M=>match t.put d (ρ ++ List.replicate k none) with
  | some ρ'=>(c.den W ρ' M).bind λb M'=>match b with
   | .bl true=>(e.den W ρ' M').bind λx M''=>.ok (some x) M''
   | .bl false=>.ok none M'|_=>.bad
  | none=>.bad) M1).bind λds M2=>if v then .ok (.vl ds) M2 else new (.lst ds) M2:=rfl
@[simp] theorem Aq:ji.nil.den W ρ M=.ok [] M:=rfl
@[simp] theorem m6 (e:Ex) (es:ji):(ji.cons e es).den W ρ M=(e.den W ρ M).bind λx M1=>(es.den W ρ M1).bind λxs M2=>.ok (x :: xs) M2:=rfl
@[simp] theorem Xh:Qc.none.den W ρ M=.ok none M:=rfl
@[simp] theorem Xi (e:Ex):(Qc.some e).den W ρ M=(e.den W ρ M).bind λx M1=>match x with | .int i=>.ok (some i) M1 | _=>.bad:=rfl
@[simp] theorem yz (e:Ex):(xg.val e).den W ρ M=(e.den W ρ M).bind λx M1=>Res.ofOpt (srcOf M1 x) M1:=rfl
@[simp] theorem N6 (e:Ex):(xg.Ib e).den W ρ M=(e.den W ρ M).bind λx M1=>match x with
 | .int i=>if i.natAbs <= 100000 then .ok (.con ((List.range i.toNat).map λ(k:Nat)=>D.int (k:Int))) M1 else .bad
 | _=>.bad:=rfl
@[simp] theorem N7 (e:Ex):(xg.Z1 e).den W ρ M=(e.den W ρ M).bind λx M1=>match x with
 | .tup ds=>.ok (.con (jj ds 0)) M1|.vl ds=>.ok (.con (jj ds 0)) M1|_=>.bad:=rfl
theorem ael (a b:Ex):(xg.zip a b).den W ρ M=(a.den W ρ M).bind λx M1=>(b.den W ρ M1).bind λy M2=>(Res.ofOpt (Iz x) M2).bind λds M2=>(Res.ofOpt (Iz y) M2).bind λes M2=>.ok (.con ((ds.zip es).map λp=>D.tup [p.1,p.2])) M2:=rfl
@[simp] theorem N8 (l:Lv) (e:Ex):(mj.asg l e).den W ρ M=(e.den W ρ M).bind λx M1=>(l.put W x ρ M1).bind fun ρ' M2=>.ok (.next,ρ') M2:=rfl
@[simp] theorem aem (e:Ex):(mj.expr e).den W ρ M=(e.den W ρ M).bind λ_ M1=>.ok (.next,ρ) M1:=rfl
theorem ajm (c:Ex) (a b:bw):(mj.iff c a b).den W ρ M=(c.den W ρ M).bind λx M1=>match x with | .bl true=>a.den W ρ M1 | .bl false=>b.den W ρ M1 | _=>.bad:=rfl
@[simp] theorem ajn (e:Ex):(mj.ret e).den W ρ M=(e.den W ρ M).bind λx M1=>.ok (.ret x,ρ) M1:=rfl
@[simp] theorem asb:mj.aed.den W ρ M=.ok (.ret .non,ρ) M:=rfl
@[simp] theorem auj:mj.brk.den W ρ M=.ok (.brk,ρ) M:=rfl
@[simp] theorem aen:mj.cont.den W ρ M=.ok (.cont,ρ) M:=rfl
@[simp] theorem asd:mj.pass.den W ρ M=.ok (.next,ρ) M:=rfl
@[simp] theorem aab (c:Nat) (es:ji):(mj.raise c es).den W ρ M=(es.den W ρ M).bind λ_ M1=>.err c M1:=rfl
theorem Ua (c:Ex) (b:bw):(mj.whl c b).den W ρ M=qb (c.den W) (b.den W) Xf ρ M:=rfl
theorem Gm (t:Tg) (it:xg) (b:bw):(mj.for_ t it b).den W ρ M=(it.den W ρ M).bind λs M1=>my s.fin s.item (λd ρ M=>match t.put d ρ with
 | some ρ'=>b.den W ρ' M|none=>.bad) s.len 0 ρ M1:=rfl
@[simp] theorem aeo:bw.nil.den W ρ M=.ok (.next,ρ) M:=rfl
theorem aac (s:mj) (r:bw):(bw.cons s r).den W ρ M=(s.den W ρ M).bind λp M1=>match p.1 with
 | .next=>r.den W p.2 M1|.brk=>.ok (.brk,p.2) M1|.cont=>.ok (.cont,p.2) M1|.ret d=>.ok (.ret d,p.2) M1:=rfl
noncomputable def Xj (W:jz) (r:bw) (x:Res (Flow×Env)):Res (Flow×Env):=x.bind λp M1=>match p.1 with
 | .next=>r.den W p.2 M1|.brk=>.ok (.brk,p.2) M1|.cont=>.ok (.cont,p.2) M1|.ret d=>.ok (.ret d,p.2) M1
@[simp] theorem ase (s:mj) (r:bw):(bw.cons s r).den W ρ M=Xj W r (s.den W ρ M):=rfl
@[simp] theorem aoo (r:bw):Xj W r (.ok (.next,ρ) M)=r.den W ρ M:=rfl
@[simp] theorem asf (r:bw):Xj W r (.ok (.brk,ρ) M)=.ok (.brk,ρ) M:=rfl
@[simp] theorem aop (r:bw):Xj W r (.ok (.cont,ρ) M)=.ok (.cont,ρ) M:=rfl
@[simp] theorem ash (r:bw) (d:D):Xj W r (.ok (.ret d,ρ) M)=.ok (.ret d,ρ) M:=rfl
@[simp] theorem asi (r:bw) (c:Nat):Xj W r (.err c M)=.err c M:=rfl
noncomputable def ifK {α:Type} (a b:Store->Res α) (x:Res D):Res α:=x.bind λx M1=>match x with | .bl true=>a M1 | .bl false=>b M1 | _=>.bad
@[simp] theorem aoq (c:Ex) (a b:bw):(mj.iff c a b).den W ρ M=ifK (a.den W ρ) (b.den W ρ) (c.den W ρ M):=rfl
@[simp] theorem auk (c a b:Ex):(Ex.ite c a b).den W ρ M=ifK (a.den W ρ) (b.den W ρ) (c.den W ρ M):=rfl
@[simp] theorem aul (a b:Ex):(Ex.and a b).den W ρ M=ifK (b.den W ρ) (.ok (.bl false)) (a.den W ρ M):=rfl
@[simp] theorem a1d (a b:Ex):(Ex.or a b).den W ρ M=ifK (.ok (.bl true)) (b.den W ρ) (a.den W ρ M):=rfl
@[simp] theorem a1e {α:Type} (a b:Store->Res α):ifK a b (.ok (.bl true) M)=a M:=rfl
@[simp] theorem a1f {α:Type} (a b:Store->Res α):ifK a b (.ok (.bl false) M)=b M:=rfl
@[simp] theorem aum {α:Type} (a b:Store->Res α) (c:Nat):ifK a b (.err c M)=.err c M:=rfl
theorem Ls (a b:Ex):(Ex.Iu a b).den W ρ M=(a.den W ρ M).bind λx M1 =>
 match (keysOf M1 x).bind j5 with
 | some xs=>if j6 xs then (b.den W ρ M1).bind λy M2 =>
  match (keysOf M2 y).bind j5 with
  | some ys=>if j6 ys then .ok (.bl !u9 xs ys) M2 else .bad
  | none=>.bad
  else .bad
 | none=>.bad:=rfl
@[simp] theorem aad (t:Tg) (d:D):(Lv.tg t).put W d ρ M=Res.ofOpt (t.put d ρ) M:=rfl
@[simp] theorem aep (o i:Ex) (d:D):(Lv.sub o i).put W d ρ M=(o.den W ρ M).bind λx M1=>(i.den W ρ M1).bind λy M2=>(Res.ofOpt (setOp x y d M2) M2).bind λM3 _=>.ok ρ M3:=rfl
@[simp] theorem aeq (o:Ex) (f:Nat) (d:D):(Lv.fld o f).put W d ρ M=(o.den W ρ M).bind λx M1=>(Res.ofOpt (Ek x f d M1) M1).bind λM2 _=>.ok ρ M2:=rfl
@[simp] theorem ajp (i:Nat) (d:D):(Tg.name i).put d ρ=some (ρ.set i (some d)):=rfl
@[simp] theorem ahj (is:List Nat) (ds:List D) (h:ds.length=is.length):(Tg.names is).put (.tup ds) ρ=some (Dl is ds ρ):=by simp [Tg.put,h]
@[simp] theorem ahk (i:Nat) (is:List Nat) (d:D) (ds:List D):Dl (i :: is) (d :: ds) ρ=Dl is ds (ρ.set i (some d)):=rfl
@[simp] theorem ajq (ds:List D):Dl [] ds ρ=ρ:=by cases ds<;>rfl
@[simp] theorem aor (i j:Int):qp .add (.int i) (.int j) M=.ok (.int (i+j)) M:=rfl
@[simp] theorem aos (i j:Int):qp .sub (.int i) (.int j) M=.ok (.int (i - j)) M:=rfl
theorem Ar (i j:Int) (h:(-(2 ^ 64) < i/\i < 2 ^ 64) \/ (-(2 ^ 64) < j/\j < 2 ^ 64)):qp .mul (.int i) (.int j) M=.ok (.int (i * j)) M:=if_pos h
theorem Lw (i j:Int) (h:0 < j) (h2:j < 1073741824):qp .fdiv (.int i) (.int j) M=.ok (.int (i / j)) M:=if_pos ⟨h,h2⟩
@[simp] theorem aot (i j:Int) (h:0 < j):qp .mod (.int i) (.int j) M=.ok (.int (i % j)) M:=if_pos h
@[simp] theorem ajr:qp .pow (.int 10) (.int 18) M=.ok (.int (10 ^ 18)) M:=by simp [qp,ahi]
theorem Lx (xs ys:List D) (h:xs.length+ys.length <= 100000):qp .add (.vl xs) (.vl ys) M=.ok (.vl (xs ++ ys)) M:=if_pos h
theorem Xk (xs ys:List D) (h:xs.length+ys.length <= 100000):qp .Xd (.vl xs) (.vl ys) M=new (.lst (xs ++ ys)) M:=if_pos h
@[simp] theorem aun (i j:Int):An .lt (.int i) (.int j) M=some (decide (i < j)):=rfl
@[simp] theorem auo (i j:Int):An .le (.int i) (.int j) M=some (decide (i <= j)):=rfl
@[simp] theorem cmp_gt (i j:Int):An .gt (.int i) (.int j) M=some (decide (j < i)):=rfl
@[simp] theorem aup (i j:Int):An .ge (.int i) (.int j) M=some (decide (j <= i)):=rfl
@[simp] theorem auq (a b:D):An .eq a b M=jd M a b:=rfl
@[simp] theorem aur (a b:D):An .ne a b M=(jd M a b).map not:=rfl
@[simp] theorem aus (a b:D):An .inn a b M=Ei M a b:=rfl
@[simp] theorem al2 (a b:D):An .Hc a b M=(Ei M a b).map not:=rfl
theorem aer (n:Nat) (i j:Int):qm M (n+1) (.int i) (.int j)=some (decide (i=j)):=rfl
theorem xm {f:D->D->Option Bool} {a b:D} {as bs:List D} {x y:Bool} (h1:f a b=some x) (h2:Dj f as bs=some y):Dj f (a :: as) (b :: bs)=some (x && y):=by simp [Dj,h1,h2]
@[simp] theorem eq_int (i j:Int):jd M (.int i) (.int j)=some (decide (i=j)):=rfl
@[simp] theorem a1g (i j:Bool):jd M (.bl i) (.bl j)=some (i == j):=rfl
@[simp] theorem Xl (ds:List D):asList M (.vl ds)=some ds:=rfl
@[simp] theorem aou (ds:List D):gr M (.vl ds)=some ds:=rfl
@[simp] theorem al3 (ds:List D):gr M (.tup ds)=some ds:=rfl
theorem cz {n:Nat} {ds:List D} (h:M[n]?=some (.lst ds)):asList M (.ref n)=some ds:=by simp [asList,h]
theorem Jb {d:D} {ds:List D} (h:asList M d=some ds):gr M d=some ds:=by cases d<;>first | exact h | (simp [asList] at h)
theorem len_list {d:D} {ds:List D} (h:asList M d=some ds):dj .len [d] M=.ok (.int ds.length) M:=by
 show Iw M d=_;cases d with
 | vl xs=>simp [asList] at h;subst h;rfl
 | ref n =>
  simp only [asList] at h;split at h<;>simp at h;rename_i xs hx;subst h;simp [Iw,hx]
 | _=>simp [asList] at h
@[simp] theorem aov (d:D) (g:D->Res D):Ci [d] g=g d:=rfl
@[simp] theorem aow (g:D->Res D):Ci [] g=.bad:=rfl
@[simp] theorem al4 (a b:D) (l:List D) (g:D->Res D):Ci (a :: b :: l) g=.bad:=rfl
@[simp] theorem aut (i j:Int) (f:Int->Int->Int) (g:D->Option Int):two [.int i,.int j] f g M=.ok (.int (f i j)) M:=rfl
@[simp] theorem aes (d:D) (f:Int->Int->Int) (g:D->Option Int):two [d] f g M=Res.ofOpt ((g d).map D.int) M:=rfl
@[simp] theorem ajs (ds:List D):Iw M (.tup ds)=.ok (.int ds.length) M:=rfl
@[simp] theorem ahl (n:Nat):Vp M (.ref n)=match M[n]? with
 | some (.dT kvs)=>if T9 kvs then new (.dT kvs) M else .bad
 | some (.dK kvs)=>new (.dK kvs) M|_=>.bad:=rfl
theorem uc {d:D} {ds:List D} {i:Int} {x:D} (h:asList M d=some ds) (h0:0 <= i) (hx:ds[i.toNat]?=some x):jm d (.int i) M=some x:=by
 obtain ⟨hl,hxx⟩:=List.getElem?_eq_some_iff.mp hx;have hi:i < ds.length:=by omega
 cases d with
 | vl xs=>simp [asList] at h;subst h;simp [jm,gr,Iv,h0,hi,hl,hxx]
 | ref n =>
  simp only [asList] at h;cases e:M[n]? with
  | none=>rw [e] at h;simp at h|some o=>rw [e] at h;cases o<;>simp at h<;>subst h<;>simp [jm,asList,e,Iv,h0,hi,hl,hxx]
 | _=>simp [asList] at h
theorem Dg {ds:List D} {i:Int} {x:D} (h0:0 <= i) (hx:ds[i.toNat]?=some x):jm (.tup ds) (.int i) M=some x:=by
 obtain ⟨hl,hxx⟩:=List.getElem?_eq_some_iff.mp hx;have hi:i < ds.length:=by omega
 simp [jm,gr,Iv,h0,hi,hl,hxx]
theorem aox {ds:List D} {i:Int} {x:D} (h0:0 <= i) (hx:ds[i.toNat]?=some x):jm (.fz ds) (.int i) M=some x:=by
 obtain ⟨hl,hxx⟩:=List.getElem?_eq_some_iff.mp hx;have hi:i < ds.length:=by omega
 simp [jm,Iv,h0,hi,hl,hxx]
theorem aae {ds:List D}:dj .len [.fz ds] M=.ok (.int ds.length) M:=rfl
@[simp] theorem asj (x:D) (r:List D):jm (.tup (x :: r)) (.int 0) M=some x:=Dg (by decide) rfl
@[simp] theorem asl (x y:D) (r:List D):jm (.tup (x :: y :: r)) (.int 1) M=some y:=Dg (by decide) rfl
@[simp] theorem asm (x y z:D) (r:List D):jm (.tup (x :: y :: z :: r)) (.int 2) M=some z:=Dg (by decide) rfl
theorem Qw {n:Nat} {kvs:List (List Kx×D)} {b:D} {k:List Kx} (h:M[n]?=some (.dT kvs)) (hk:Gj b=some k):jm (.ref n) b M=jo kvs k:=by simp [jm,h,hk]
theorem aoy {n:Nat} {kvs:List (List Kx×D)} {b:D} {k:List Kx} (h:M[n]?=some (.dT kvs)) (hk:Gj b=some k):Ei M b (.ref n)=some (jo kvs k).isSome:=by simp [Ei,h,hk]
@[simp] theorem Ly (i j:Int):Gj (.tup [.int i,.int j])=some [.inl i,.inl j]:=rfl
@[simp] theorem a1h (i:Int):K7 (.int i)=some (.inl i):=rfl
theorem v7 {M:Store} {n:Nat} {xs:List D} (h:M[n]?=some (.lst xs)):Hy .append (.ref n) M=true:=by simp [Hy,h]
theorem vd {n:Nat} {xs:List D} {d:D} (h:M[n]?=some (.lst xs)) (hl:xs.length < 100000):Dk .append (.ref n) [d] M=.ok .non (M.set n (.lst (xs ++ [d]))):=by simp [Dk,h,hl]
theorem Vu {n:Nat} {xs:List D} {d:D} {i:Int} (h:M[n]?=some (.lst xs)) (h0:0 <= i) (hi:i < xs.length):setOp (.ref n) (.int i) d M=some (M.set n (.lst (xs.set i.toNat d))):=by simp [setOp,h,Iv,h0,hi]
theorem ajt {n:Nat} {kvs:List (List Kx×D)} {d b:D} {k:List Kx} (h:M[n]?=some (.dT kvs)) (hk:Gj b=some k) (hs:kvs.length < 100000):setOp (.ref n) b d M=some (M.set n (.dT (Aa kvs k d))):=by simp [setOp,h,hk,hs]
end
section
variable {M:Store} {a b:Nat} {o p:MO}
theorem il (h:M[a]?=some o):a < M.length:=(List.getElem?_eq_some_iff.mp h).1
theorem dq (h:M[a]?=some p):(M.set a o)[a]?=some o:=by rw [List.getElem?_set_self (il h)]
theorem ir (h:b≠a):(M.set b o)[a]?=M[a]?:=List.getElem?_set_ne h
theorem iu {X:Store} (h:M[a]?=some o):(M ++ X)[a]?=some o:=by rw [List.getElem?_append_left (il h)];exact h
@[simp] theorem asn:(M ++ [o])[M.length]?=some o:=by simp
end
end MW
namespace Sm
open PySem L2
open MW (Ex ji Qc xg mj bw Lv Tg Res Store MO jz Cp Vm Nx Bm Kx)
abbrev Dv:=MW.D
abbrev En:=MW.Env
structure Io where
 l:List Addr
 δ:List Addr
def Io.add (ι:Io) (p:Addr):Io:=⟨ι.l ++ [p],ι.δ⟩
def Io.hide (ι:Io) (p:Addr):Io:=⟨ι.l,p :: ι.δ⟩
def Io.off (ι:Io) (a:Addr):Prop:=a ∉ ι.l/\a ∉ ι.δ
def Ub (K:Fg) (H:Hp) (a:Addr) (vs:List V):Prop :=
 (∃ o,H a=some (.By o (.lst vs))) \/
  ∃ (o:Obj) (its:Array Value) (n:Nat),K.lookup a=some o/\o.cls=.type "list" /\ o.dict=none/\o.data=.seq its n/\its.size <= sizeLine/\Vals vs its.toList
theorem Ub.sq {K:Fg} {H:Hp} {a:Addr} {vs:List V} (h:Ub K H a vs):uh K H a vs:=by
 rcases h with ⟨o,h⟩ | h
 . exact .inl (.inr ⟨o,h⟩)
 . exact .inr h
mutual
inductive Rep (K:Fg) (ι:Io) (H:Hp):Dv->V->Prop
 | non:Rep K ι H .non .non
 | bl (b:Bool):Rep K ι H (.bl b) (.bl b)
 | int (i:Int):Rep K ι H (.int i) (.int i)
 | str (s:Str):Rep K ι H (.str s) (.str s)
 | tup {a:Addr} {ds:List Dv} {vs:List V} (e:H a=some (.tup vs)) (r:bc K ι H ds vs):Rep K ι H (.tup ds) (.ref a)
 | vl {a:Addr} {ds:List Dv} {vs:List V} (e:H a=some (.lst vs)) (n:ι.off a) (r:bc K ι H ds vs):Rep K ι H (.vl ds) (.ref a)
 | fz {a:Addr} {ds:List Dv} {vs:List V} (e:Ub K H a vs) (r:bc K ι H ds vs):Rep K ι H (.fz ds) (.ref a)
 | ref {n:Nat} {a:Addr} (e:ι.l[n]?=some a):Rep K ι H (.ref n) (.ref a)
inductive bc (K:Fg) (ι:Io) (H:Hp):List Dv->List V->Prop
 | nil:bc K ι H [] []
 | cons {d:Dv} {v:V} {ds:List Dv} {vs:List V} (h:Rep K ι H d v) (t:bc K ι H ds vs):bc K ι H (d :: ds) (v :: vs)
end
structure Le (ι:Io) (H:Hp) (ι':Io) (H':Hp):Prop where
 ext:∃ Y,ι'.l=ι.l ++ Y/\∀ a∈Y,H a=none
 del:ι'.δ=ι.δ
 tup:∀ a vs,H a=some (.tup vs)->H' a=some (.tup vs)
 By:∀ a o u,H a=some (.By o u)->H' a=some (.By o u)
 lst:∀ a vs,a ∉ ι.l->H a=some (.lst vs)->H' a=some (.lst vs)
 dom:∀ a,H' a=none->H a=none
theorem Le.refl (ι:Io) (H:Hp):Le ι H ι H:=⟨⟨[],by simp,by simp⟩,rfl,λ_ _ h=>h,λ_ _ _ h=>h,λ_ _ _ h=>h,λ_ h=>h⟩
theorem ud {H H':Hp} (hk:∀ a u,H a=some u->∃ u',H' a=some u') {a:Addr} (h:H' a=none):H a=none:=by
 cases e:H a with
 | none=>rfl|some u=>obtain ⟨u',e'⟩:=hk a u e;rw [h] at e';cases e'
theorem Le.get {ι ι':Io} {H H':Hp} (l:Le ι H ι' H') {n:Nat} {a:Addr} (h:ι.l[n]?=some a):ι'.l[n]?=some a:=by obtain ⟨Y,e,_⟩:=l.ext;rw [e,List.getElem?_append_left (List.getElem?_eq_some_iff.mp h).1];exact h
theorem Le.aju {ι ι':Io} {H H':Hp} (l:Le ι H ι' H') {a:Addr} {o:HO} (h:a ∉ ι.l) (ha:H a=some o):a ∉ ι'.l:=by
 obtain ⟨Y,e,hy⟩:=l.ext;rw [e];intro m;rcases List.mem_append.mp m with q | q
 . exact h q
 . rw [hy a q] at ha;cases ha
theorem Le.out {ι ι':Io} {H H':Hp} (l:Le ι H ι' H') {a:Addr} {o:HO} (h:ι.off a) (ha:H a=some o):ι'.off a:=⟨l.aju h.1 ha,by rw [l.del];exact h.2⟩
theorem Le.trans {ι ι1 ι2:Io} {H H1 H2:Hp} (a:Le ι H ι1 H1) (b:Le ι1 H1 ι2 H2):Le ι H ι2 H2:=by
 obtain ⟨Y,e1,h1⟩:=a.ext;obtain ⟨Z,e2,h2⟩:=b.ext;refine ⟨⟨Y ++ Z,by rw [e2,e1,List.append_assoc],λx m=>?_⟩,b.del.trans a.del,λx vs h=>b.tup x vs (a.tup x vs h),λx o u h=>b.By x o u (a.By x o u h),λx vs n h=>b.lst x vs (a.aju n h) (a.lst x vs n h),λx h=>a.dom x (b.dom x h)⟩;rcases List.mem_append.mp m with q | q
 . exact h1 x q
 . exact a.dom x (h2 x q)
structure Uc (ι:Io) (H:Hp) (ι':Io) (H':Hp):Prop where
 ext:∃ Y,ι'.l=ι.l ++ Y/\∀ a∈Y,H a=none
 del:∀ a∈ι'.δ,a∈ι.δ \/ H a=none
 tup:∀ a vs,H a=some (.tup vs)->H' a=some (.tup vs)
 By:∀ a o u,H a=some (.By o u)->H' a=some (.By o u)
 lst:∀ a vs,a ∉ ι.l->H a=some (.lst vs)->H' a=some (.lst vs)
theorem Le.toX {ι ι':Io} {H H':Hp} (l:Le ι H ι' H'):Uc ι H ι' H':=⟨l.ext,λa h=>.inl (by rw [<- l.del];exact h),l.tup,l.By,l.lst⟩
theorem Uc.get {ι ι':Io} {H H':Hp} (l:Uc ι H ι' H') {n:Nat} {a:Addr} (h:ι.l[n]?=some a):ι'.l[n]?=some a:=by obtain ⟨Y,e,_⟩:=l.ext;rw [e,List.getElem?_append_left (List.getElem?_eq_some_iff.mp h).1];exact h
theorem Uc.out {ι ι':Io} {H H':Hp} (l:Uc ι H ι' H') {a:Addr} {o:HO} (h:ι.off a) (ha:H a=some o):ι'.off a:=by
 obtain ⟨Y,e,hy⟩:=l.ext;refine ⟨λm=>?_,λm=>?_⟩
 . rw [e] at m
   rcases List.mem_append.mp m with q | q
   . exact h.1 q
   . rw [hy a q] at ha;cases ha
 . rcases l.del a m with q | q
   . exact h.2 q
   . rw [q] at ha;cases ha
mutual
theorem Rep.mz {K:Fg} {ι ι':Io} {H H':Hp} (l:Uc ι H ι' H'):∀ {d:Dv} {v:V},Rep K ι H d v->Rep K ι' H' d v
 | _,_,.non=>.non|_,_,.bl b=>.bl b|_,_,.int i=>.int i|_,_,.str s=>.str s|_,_,.tup e r=>.tup (l.tup _ _ e) (bc.mz l r)|_,_,.vl e n r=>.vl (l.lst _ _ n.1 e) (l.out n e) (bc.mz l r)
 | _,_,.fz e r=>.fz (by
  rcases e with ⟨o,e⟩ | e
  . exact .inl ⟨o,l.By _ _ _ e⟩
  . exact .inr e) (bc.mz l r)
 | _,_,.ref e=>.ref (l.get e)
theorem bc.mz {K:Fg} {ι ι':Io} {H H':Hp} (l:Uc ι H ι' H'):∀ {ds:List Dv} {vs:List V},bc K ι H ds vs->bc K ι' H' ds vs
 | _,_,.nil=>.nil|_,_,.cons h t=>.cons (Rep.mz l h) (bc.mz l t)
end
theorem Rep.mono {K:Fg} {ι ι':Io} {H H':Hp} (l:Le ι H ι' H') {d:Dv} {v:V} (r:Rep K ι H d v):Rep K ι' H' d v:=r.mz l.toX
theorem bc.mono {K:Fg} {ι ι':Io} {H H':Hp} (l:Le ι H ι' H') {ds:List Dv} {vs:List V} (r:bc K ι H ds vs):bc K ι' H' ds vs:=r.mz l.toX
theorem bc.length {K:Fg} {ι:Io} {H:Hp}:∀ {ds:List Dv} {vs:List V},bc K ι H ds vs->ds.length=vs.length
 | _,_,.nil=>rfl|_,_,.cons _ t=>by rw [List.length_cons,List.length_cons,bc.length t]
theorem bc.get {K:Fg} {ι:Io} {H:Hp}:∀ {ds:List Dv} {vs:List V} {i:Nat} {d:Dv},bc K ι H ds vs->ds[i]?=some d->∃ v,vs[i]?=some v/\Rep K ι H d v
 | _,_,_,_,.nil,e=>by simp at e|_,_,0,_,.cons h _,e=>by simp at e;subst e;exact ⟨_,rfl,h⟩
 | _,_,i+1,d,.cons _ t,e=>by
  obtain ⟨v,h1,h2⟩:=bc.get (i:=i) t (by simpa using e);exact ⟨v,by simpa using h1,h2⟩
theorem bc.set {K:Fg} {ι:Io} {H:Hp} {d:Dv} {v:V} (r:Rep K ι H d v):∀ {ds:List Dv} {vs:List V} (i:Nat),bc K ι H ds vs->bc K ι H (ds.set i d) (vs.set i v)
 | _,_,_,.nil=>.nil|_,_,0,.cons _ t=>.cons r t|_,_,i+1,.cons h t=>.cons h (bc.set r i t)
theorem bc.append {K:Fg} {ι:Io} {H:Hp}:∀ {ds es:List Dv} {vs us:List V},bc K ι H ds vs->bc K ι H es us->bc K ι H (ds ++ es) (vs ++ us)
 | _,_,_,_,.nil,r=>r|_,_,_,_,.cons h t,r=>.cons h (bc.append t r)
theorem bc.drop {K:Fg} {ι:Io} {H:Hp}:∀ {ds:List Dv} {vs:List V} (n:Nat),bc K ι H ds vs->bc K ι H (ds.drop n) (vs.drop n)
 | _,_,0,r=>r|_,_,_+1,.nil=>.nil|_,_,n+1,.cons _ t=>bc.drop n t
theorem bc.take {K:Fg} {ι:Io} {H:Hp}:∀ {ds:List Dv} {vs:List V} (n:Nat),bc K ι H ds vs->bc K ι H (ds.take n) (vs.take n)
 | _,_,0,_=>.nil|_,_,_+1,.nil=>.nil|_,_,n+1,.cons h t=>.cons h (bc.take n t)
theorem bc.eraseIdx {K:Fg} {ι:Io} {H:Hp}:∀ {ds:List Dv} {vs:List V} (n:Nat),bc K ι H ds vs->bc K ι H (ds.eraseIdx n) (vs.eraseIdx n)
 | _,_,_,.nil=>.nil|_,_,0,.cons _ t=>t|_,_,n+1,.cons h t=>.cons h (bc.eraseIdx n t)
theorem bc.ints {K:Fg} {ι:Io} {H:Hp}:∀ (ns:List Int),bc K ι H (ns.map MW.D.int) (ns.map V.int)
 | []=>.nil|n :: r=>.cons (.int n) (bc.ints r)
structure Nm where
 cls:Nat->Option Addr
 fld:Nat->Str
 inj:∀ i j,fld i=fld j->i=j
inductive bu {κ κ':Type} (K:Fg) (ι:Io) (H:Hp) (f:κ->κ'->Prop):List (κ×Dv)->List (κ'×V)->Prop
 | nil:bu K ι H f [] []
 | cons {k:κ} {k':κ'} {d:Dv} {v:V} {l:List (κ×Dv)} {l':List (κ'×V)} (hk:f k k') (h:Rep K ι H d v) (t:bu K ι H f l l'):bu K ι H f ((k,d) :: l) ((k',v) :: l')
theorem bu.mono {κ κ':Type} {K:Fg} {ι ι':Io} {H H':Hp} {f:κ->κ'->Prop} (le:Le ι H ι' H'):∀ {l:List (κ×Dv)} {l':List (κ'×V)},bu K ι H f l l'->bu K ι' H' f l l'
 | _,_,.nil=>.nil|_,_,.cons k h t=>.cons k (h.mono le) (bu.mono le t)
def qt (nm:Nm) (K:Fg) (ι:Io) (H:Hp) (o:MO) (a:Addr):Prop :=
 match o with
 | .lst ds=>∃ vs,H a=some (.lst vs)/\bc K ι H ds vs|.dT kvs=>∃ l,H a=some (.dT l)/\bu K ι H (λk k'=>k=k') kvs l
 | .dK kvs=>∃ l,H a=some (.dK l)/\bu K ι H (λk k'=>k=k') kvs l
 | .ins c fs=>∃ C dx l,nm.cls c=some C/\H a=some (.ins C dx l)/\bu K ι H (λk k'=>k'=nm.fld k) fs l
structure az (nm:Nm) (K:Fg) (ι:Io) (H:Hp) (M:Store):Prop where
 len:ι.l.length=M.length
 nd:ι.l.Nodup
 del:∀ a∈ι.δ,a ∉ ι.l/\∃ vs,H a=some (.lst vs)
 obj:∀ (n:Nat) (o:MO) (a:Addr),M[n]?=some o->ι.l[n]?=some a->qt nm K ι H o a
theorem qt.some {nm:Nm} {K:Fg} {ι:Io} {H:Hp} {o:MO} {a:Addr} (h:qt nm K ι H o a):∃ u,H a=some u/\Mut (H a):=by
 cases o with
 | lst ds=>obtain ⟨vs,e,_⟩:=h;exact ⟨_,e,by rw [e];trivial⟩
 | dT kvs=>obtain ⟨vs,e,_⟩:=h;exact ⟨_,e,by rw [e];trivial⟩
 | dK kvs=>obtain ⟨vs,e,_⟩:=h;exact ⟨_,e,by rw [e];trivial⟩
 | ins c fs=>obtain ⟨C,dx,l,_,e,_⟩:=h;exact ⟨_,e,by rw [e];trivial⟩
theorem az.addr {nm:Nm} {K:Fg} {ι:Io} {H:Hp} {M:Store} (S:az nm K ι H M) {n:Nat} {o:MO} (h:M[n]?=some o):∃ a,ι.l[n]?=some a/\qt nm K ι H o a:=by
 have hl:n < ι.l.length:=by rw [S.len];exact MW.il h
 exact ⟨ι.l[n],by simp [hl],S.obj n o _ h (by simp [hl])⟩
theorem az.mem {nm:Nm} {K:Fg} {ι:Io} {H:Hp} {M:Store} (S:az nm K ι H M) {a:Addr} (h:a∈ι.l):∃ u,H a=some u/\Mut (H a):=by
 obtain ⟨n,hn,rfl⟩:=List.getElem_of_mem h;have hm:n < M.length:=by rw [<- S.len];exact hn
 exact (S.obj n M[n] ι.l[n] (by simp [hm]) (by simp [hn])).some
theorem az.fresh {nm:Nm} {K:Fg} {ι:Io} {H:Hp} {M:Store} (S:az nm K ι H M) {a:Addr} (h:H a=none):ι.off a:=by
 refine ⟨λm=>?_,λm=>?_⟩
 . obtain ⟨u,e,_⟩:=S.mem m
   rw [h] at e;cases e
 . obtain ⟨_,vs,e⟩:=S.del a m
   rw [h] at e;cases e
theorem qt.move {nm:Nm} {K:Fg} {ι ι':Io} {H H':Hp} {o:MO} {a:Addr} (h:qt nm K ι H o a) (le:Le ι H ι' H') (e:H' a=H a):qt nm K ι' H' o a:=by
 cases o with
 | lst ds=>obtain ⟨vs,q,r⟩:=h;exact ⟨vs,e.trans q,r.mono le⟩
 | dT kvs=>obtain ⟨vs,q,r⟩:=h;exact ⟨vs,e.trans q,r.mono le⟩
 | dK kvs=>obtain ⟨vs,q,r⟩:=h;exact ⟨vs,e.trans q,r.mono le⟩
 | ins c fs=>obtain ⟨C,dx,l,hc,q,r⟩:=h;exact ⟨C,dx,l,hc,e.trans q,r.mono le⟩
theorem az.laid {nm:Nm} {K:Fg} {ι:Io} {H:Hp} {M:Store} (S:az nm K ι H M) {p:Addr} (h:H p=none) (o:HO):az nm K ι (upd H p o) M/\Le ι H ι (upd H p o):=by
 have ne:∀ a u,H a=some u->a≠p:=λa u e=>au e h
 have le:Le ι H ι (upd H p o):=⟨⟨[],by simp,by simp⟩,rfl,λa vs e=>by rw [aq (ne a _ e)];exact e,λa _ u e=>by rw [aq (ne a _ e)];exact e,λa vs _ e=>by rw [aq (ne a _ e)];exact e,
  λa h'=>ud (λb u e=>⟨u,by rw [aq (ne b _ e)];exact e⟩) h'⟩
 refine ⟨⟨S.len,S.nd,λa ha=>?_,λn o' a hn ha=>?_⟩,le⟩
 . obtain ⟨h1,vs,h2⟩:=S.del a ha
   exact ⟨h1,vs,le.lst a vs h1 h2⟩
 . have q:=S.obj n o' a hn ha
   obtain ⟨u,e,_⟩:=q.some;exact q.move le (by rw [aq (ne a u e)])
theorem v8 {α:Type} {l:List α} {x y:α} {n:Nat} (h:(l ++ [x])[n]?=some y):(l[n]?=some y) \/ (n=l.length/\y=x):=by
 rcases Nat.lt_or_ge n l.length with q | q
 . rw [List.getElem?_append_left q] at h;exact .inl h
 . rw [List.getElem?_append_right q] at h
   have:n - l.length=0:=by
    rcases Nat.eq_zero_or_pos (n - l.length) with z | z
    . exact z
    . rw [List.getElem?_eq_none (by simp;omega)] at h;cases h
   rw [this] at h;simp at h;exact .inr ⟨by omega,h.symm⟩
theorem az.new {nm:Nm} {K:Fg} {ι:Io} {H:Hp} {M:Store} (S:az nm K ι H M) {p:Addr} {H':Hp} {o:MO} (h:H p=none) (hk:∀ a u,H a=some u->H' a=some u)
 (ho:Le ι H (ι.add p) H'->qt nm K (ι.add p) H' o p):az nm K (ι.add p) H' (M ++ [o])/\Le ι H (ι.add p) H':=by
 have le:Le ι H (ι.add p) H':=⟨⟨[p],rfl,by simpa using h⟩,rfl,λa vs e=>hk _ _ e,λa _ u e=>hk _ _ e,λa vs _ e=>hk _ _ e,λa h'=>ud (H:=H) (H':=H') (λb u e=>⟨u,hk b u e⟩) h'⟩;refine ⟨⟨by simp [Io.add,S.len],?_,λa ha=>?_,λn o' a hn ha=>?_⟩,le⟩
 . exact List.nodup_append.mpr ⟨S.nd,by simp,by
    intro x hx y hy;have:y=p:=by simpa using hy
    subst this;intro e;subst e;exact (S.fresh h).1 hx⟩
 . obtain ⟨h1,vs,h2⟩:=S.del a ha
   exact ⟨le.aju h1 h2,vs,hk _ _ h2⟩
 . rcases v8 hn with q | ⟨q,rfl⟩
   . rcases v8 ha with r | ⟨r,_⟩
     . have z:=S.obj n o' a q r
       obtain ⟨u,e,_⟩:=z.some;exact z.move le ((hk a u e).trans e.symm)
     . exact absurd (MW.il q) (by rw [r,S.len];exact Nat.lt_irrefl _)
   . rcases v8 ha with r | ⟨_,rfl⟩
     . exact absurd (List.getElem?_eq_some_iff.mp r).1 (by rw [q,S.len];exact Nat.lt_irrefl _)
     . exact ho le
theorem az.put {nm:Nm} {K:Fg} {ι:Io} {H:Hp} {M:Store} (S:az nm K ι H M) {n:Nat} {a:Addr} {u:HO} {o o₀:MO} (hn:M[n]?=some o₀) (ha:ι.l[n]?=some a)
 (ho:Le ι H ι (upd H a u)->qt nm K ι (upd H a u) o a):az nm K ι (upd H a u) (M.set n o)/\Le ι H ι (upd H a u):=by
 obtain ⟨u₀,e₀,m₀⟩:=(S.obj n o₀ a hn ha).some;have hm:a∈ι.l:=List.mem_of_getElem? ha;have le:Le ι H ι (upd H a u):=⟨⟨[],by simp,by simp⟩,rfl,λb vs e=>by rw [aq (λz=>by subst z;rw [e] at m₀;exact m₀)];exact e,
  λb _ _ e=>by rw [aq (λz=>by subst z;rw [e] at m₀;exact m₀)];exact e,λb vs nb e=>by rw [aq (λz=>by subst z;exact nb hm)];exact e,λb h'=>ud (λc w e=>by
   by_cases z:c=a
   . exact ⟨u,by rw [z,dh]⟩
   . exact ⟨w,by rw [aq z];exact e⟩) h'⟩
 refine ⟨⟨by rw [List.length_set];exact S.len,S.nd,λb hb=>?_,λm o' b hm' hb=>?_⟩,le⟩
 . obtain ⟨h1,vs,h2⟩:=S.del b hb
   exact ⟨h1,vs,le.lst b vs h1 h2⟩
 by_cases q:m=n
 . subst q
   rw [MW.dq hn] at hm';cases hm';rw [ha] at hb;cases hb;exact ho le
 . rw [MW.ir (Ne.symm q)] at hm'
   have z:=S.obj m o' b hm' hb;have nb:b≠a:=λe=>by subst e;obtain ⟨l1,e1⟩:=List.getElem?_eq_some_iff.mp hb;obtain ⟨l2,e2⟩:=List.getElem?_eq_some_iff.mp ha;exact q ((List.getElem_inj S.nd).mp (e1.trans e2.symm))
   exact z.move le (by rw [aq nb])
mutual
theorem Rep.hide {K:Fg} {ι:Io} {H:Hp} {D:Addr} {o:HO} (hD:H D=none):∀ {d:Dv} {v:V},Rep K ι H d v->Rep K (ι.hide D) (upd H D o) d v
 | _,_,.non=>.non|_,_,.bl b=>.bl b|_,_,.int i=>.int i|_,_,.str s=>.str s|_,_,.tup e r=>.tup (by rw [aq (au e hD)];exact e) (bc.hide hD r)
 | _,_,.vl e n r=>.vl (by rw [aq (au e hD)];exact e) ⟨n.1,λm=>by
  rcases List.mem_cons.mp m with q | q
  . exact au e hD q
  . exact n.2 q⟩ (bc.hide hD r)
 | _,_,.fz e r=>.fz (by
  rcases e with ⟨q,e⟩ | e
  . exact .inl ⟨q,by rw [aq (au e hD)];exact e⟩
  . exact .inr e) (bc.hide hD r)
 | _,_,.ref e=>.ref e
theorem bc.hide {K:Fg} {ι:Io} {H:Hp} {D:Addr} {o:HO} (hD:H D=none):∀ {ds:List Dv} {vs:List V},bc K ι H ds vs->bc K (ι.hide D) (upd H D o) ds vs
 | _,_,.nil=>.nil|_,_,.cons h t=>.cons (Rep.hide hD h) (bc.hide hD t)
end
mutual
theorem Rep.grow {K:Fg} {ι:Io} {H:Hp} {D:Addr} {vs ws:List V} (hD:H D=some (.lst vs)) (hm:D∈ι.δ):∀ {d:Dv} {v:V},Rep K ι H d v->Rep K ι (upd H D (.lst ws)) d v
 | _,_,.non=>.non|_,_,.bl b=>.bl b|_,_,.int i=>.int i|_,_,.str s=>.str s|_,_,.tup e r=>.tup (by rw [aq (Yy e hD (by intro z;cases z))];exact e) (bc.grow hD hm r)|_,_,.vl e n r=>.vl (by rw [aq (λz=>by subst z;exact n.2 hm)];exact e) n (bc.grow hD hm r)
 | _,_,.fz e r=>.fz (by
  rcases e with ⟨q,e⟩ | e
  . exact .inl ⟨q,by rw [aq (Yy e hD (by intro z;cases z))];exact e⟩
  . exact .inr e) (bc.grow hD hm r)
 | _,_,.ref e=>.ref e
theorem bc.grow {K:Fg} {ι:Io} {H:Hp} {D:Addr} {vs ws:List V} (hD:H D=some (.lst vs)) (hm:D∈ι.δ):∀ {ds:List Dv} {us:List V},bc K ι H ds us->bc K ι (upd H D (.lst ws)) ds us
 | _,_,.nil=>.nil|_,_,.cons h t=>.cons (Rep.grow hD hm h) (bc.grow hD hm t)
end
mutual
theorem Rep.show {K:Fg} {ι:Io} {H:Hp} {D:Addr}:∀ {d:Dv} {v:V},Rep K (ι.hide D) H d v->Rep K ι H d v
 | _,_,.non=>.non|_,_,.bl b=>.bl b|_,_,.int i=>.int i|_,_,.str s=>.str s|_,_,.tup e r=>.tup e (bc.show r)
 | _,_,.vl e n r=>.vl e ⟨n.1,λm=>n.2 (List.mem_cons_of_mem _ m)⟩ (bc.show r)
 | _,_,.fz e r=>.fz e (bc.show r)
 | _,_,.ref e=>.ref e
theorem bc.show {K:Fg} {ι:Io} {H:Hp} {D:Addr}:∀ {ds:List Dv} {vs:List V},bc K (ι.hide D) H ds vs->bc K ι H ds vs
 | _,_,.nil=>.nil|_,_,.cons h t=>.cons (Rep.show h) (bc.show t)
end
theorem bu.map {κ κ':Type} {K:Fg} {ι ι':Io} {H H':Hp} {f:κ->κ'->Prop} (g:∀ d v,Rep K ι H d v->Rep K ι' H' d v):∀ {l:List (κ×Dv)} {l':List (κ'×V)},bu K ι H f l l'->bu K ι' H' f l l'
 | _,_,.nil=>.nil|_,_,.cons k h t=>.cons k (g _ _ h) (bu.map g t)
theorem bc.map {K:Fg} {ι ι':Io} {H H':Hp} (g:∀ d v,Rep K ι H d v->Rep K ι' H' d v):∀ {l:List Dv} {l':List V},bc K ι H l l'->bc K ι' H' l l'
 | _,_,.nil=>.nil|_,_,.cons h t=>.cons (g _ _ h) (bc.map g t)
theorem qt.map {nm:Nm} {K:Fg} {ι ι':Io} {H H':Hp} {o:MO} {a:Addr} (g:∀ d v,Rep K ι H d v->Rep K ι' H' d v) (h:qt nm K ι H o a) (e:H' a=H a):qt nm K ι' H' o a:=by
 cases o with
 | lst ds=>obtain ⟨vs,q,r⟩:=h;exact ⟨vs,e.trans q,r.map g⟩
 | dT kvs=>obtain ⟨vs,q,r⟩:=h;exact ⟨vs,e.trans q,r.map g⟩
 | dK kvs=>obtain ⟨vs,q,r⟩:=h;exact ⟨vs,e.trans q,r.map g⟩
 | ins c fs=>obtain ⟨C,dx,l,hc,q,r⟩:=h;exact ⟨C,dx,l,hc,e.trans q,r.map g⟩
theorem az.hide {nm:Nm} {K:Fg} {ι:Io} {H:Hp} {M:Store} (S:az nm K ι H M) {D:Addr} (hD:H D=none):az nm K (ι.hide D) (upd H D (.lst [])) M:=by
 refine ⟨S.len,S.nd,λa ha=>?_,λn o a hn ha=>?_⟩
 . rcases List.mem_cons.mp ha with q | q
   . subst q;exact ⟨(S.fresh hD).1,[],dh⟩
   . obtain ⟨h1,vs,h2⟩:=S.del a q
     exact ⟨h1,vs,by rw [aq (au h2 hD)];exact h2⟩
 . have z:=S.obj n o a hn ha
   obtain ⟨u,e,_⟩:=z.some;exact z.map (λd v r=>r.hide hD) (by rw [aq (au e hD)])
theorem az.grow {nm:Nm} {K:Fg} {ι:Io} {H:Hp} {M:Store} (S:az nm K ι H M) {D:Addr} {vs ws:List V} (hD:H D=some (.lst vs)) (hm:D∈ι.δ):az nm K ι (upd H D (.lst ws)) M:=by
 refine ⟨S.len,S.nd,λa ha=>?_,λn o a hn ha=>?_⟩
 . obtain ⟨h1,us,h2⟩:=S.del a ha
   by_cases z:a=D
   . subst z;exact ⟨h1,ws,dh⟩
   . exact ⟨h1,us,by rw [aq z];exact h2⟩
 . have z:=S.obj n o a hn ha
   have ne:a≠D:=λe=>by subst e;exact (S.del a hm).1 (List.mem_of_getElem? ha)
   exact z.map (λd v r=>r.grow hD hm) (by rw [aq ne])
theorem az.show {nm:Nm} {K:Fg} {ι:Io} {H:Hp} {M:Store} {D:Addr} (S:az nm K (ι.hide D) H M):az nm K ι H M :=
 ⟨S.len,S.nd,λa ha=>S.del a (List.mem_cons_of_mem _ ha),λn o a hn ha=>(S.obj n o a hn ha).map (λd v r=>r.show) rfl⟩
structure Td (D:Addr) (ι:Io) (H:Hp) (ι':Io) (H':Hp):Prop where
 ext:∃ Y,ι'.l=ι.l ++ Y/\∀ a∈Y,H a=none
 del:ι'.δ=D :: ι.δ
 tup:∀ a vs,H a=some (.tup vs)->H' a=some (.tup vs)
 By:∀ a o u,H a=some (.By o u)->H' a=some (.By o u)
 lst:∀ a vs,a ∉ ι.l->H a=some (.lst vs)->H' a=some (.lst vs)
 dom:∀ a,H' a=none->H a=none
theorem Td.toX {D:Addr} {ι ι':Io} {H H':Hp} (l:Td D ι H ι' H') (hD:H D=none):Uc ι H ι' H':=⟨l.ext,λa h=>by
 rw [l.del] at h;rcases List.mem_cons.mp h with q | q
 . exact .inr (by rw [q];exact hD)
 . exact .inl q,l.tup,l.By,l.lst⟩
theorem Td.start {ι:Io} {H:Hp} {D:Addr} (hD:H D=none) (o:HO):Td D ι H (ι.hide D) (upd H D o) :=
 ⟨⟨[],by simp [Io.hide],by simp⟩,rfl,λa vs e=>by rw [aq (au e hD)];exact e,λa _ _ e=>by rw [aq (au e hD)];exact e,λa vs _ e=>by rw [aq (au e hD)];exact e,
  λa h'=>ud (λb u e=>⟨u,by rw [aq (au e hD)];exact e⟩) h'⟩
theorem Td.go {ι ι1 ι2:Io} {H H1 H2:Hp} {D:Addr} (a:Td D ι H ι1 H1) (b:Le ι1 H1 ι2 H2):Td D ι H ι2 H2:=by
 obtain ⟨Y,e1,h1⟩:=a.ext;obtain ⟨Z,e2,h2⟩:=b.ext;have out:∀ x o,x ∉ ι.l->H x=some o->x ∉ ι1.l:=λx o n h m=>by
  rw [e1] at m;rcases List.mem_append.mp m with q | q
  . exact n q
  . rw [h1 x q] at h;cases h
 refine ⟨⟨Y ++ Z,by rw [e2,e1,List.append_assoc],λx m=>?_⟩,b.del.trans a.del,λx vs h=>b.tup x vs (a.tup x vs h),λx o u h=>b.By x o u (a.By x o u h),λx vs n h=>b.lst x vs (out x _ n h) (a.lst x vs n h),λx h=>a.dom x (b.dom x h)⟩;rcases List.mem_append.mp m with q | q
 . exact h1 x q
 . exact a.dom x (h2 x q)
theorem Td.grow {ι ι1:Io} {H H1:Hp} {D:Addr} {vs ws:List V} (a:Td D ι H ι1 H1) (h0:H D=none) (hD:H1 D=some (.lst vs)):Td D ι H ι1 (upd H1 D (.lst ws)) :=
 ⟨a.ext,a.del,λx us h=>by rw [aq (au h h0)];exact a.tup x us h,λx o u h=>by rw [aq (au h h0)];exact a.By x o u h,λx us n h=>by rw [aq (au h h0)];exact a.lst x us n h,
  λx h=>a.dom x (by
   by_cases z:x=D
   . rw [z,dh] at h;cases h
   . rw [aq z] at h;exact h)⟩
theorem Td.done {ι ι1:Io} {H H1:Hp} {D:Addr} (a:Td D ι H ⟨ι1.l,D :: ι1.δ⟩ H1):Le ι H ι1 H1 :=
 ⟨a.ext,(List.cons.inj a.del).2,a.tup,a.By,a.lst,a.dom⟩
inductive cg (K:Fg) (ι:Io) (H:Hp):En->St->Prop
 | nil:cg K ι H [] []
 | Xm {y:Option V} {ρ:En} {σ:St} (t:cg K ι H ρ σ):cg K ι H (none :: ρ) (y :: σ)
 | has {d:Dv} {v:V} {ρ:En} {σ:St} (h:Rep K ι H d v) (t:cg K ι H ρ σ):cg K ι H (some d :: ρ) (some v :: σ)
theorem cg.mz {K:Fg} {ι ι':Io} {H H':Hp} (le:Uc ι H ι' H'):∀ {ρ:En} {σ:St},cg K ι H ρ σ->cg K ι' H' ρ σ
 | _,_,.nil=>.nil|_,_,.Xm t=>.Xm (cg.mz le t)|_,_,.has h t=>.has (h.mz le) (cg.mz le t)
theorem cg.mono {K:Fg} {ι ι':Io} {H H':Hp} (le:Le ι H ι' H'):∀ {ρ:En} {σ:St},cg K ι H ρ σ->cg K ι' H' ρ σ
 | _,_,.nil=>.nil|_,_,.Xm t=>.Xm (cg.mono le t)|_,_,.has h t=>.has (h.mono le) (cg.mono le t)
theorem cg.get {K:Fg} {ι:Io} {H:Hp}:∀ {ρ:En} {σ:St} {i:Nat} {d:Dv},cg K ι H ρ σ->ρ[i]?=some (some d)->∃ v,σ[i]?=some (some v)/\Rep K ι H d v
 | _,_,_,_,.nil,e=>by simp at e|_,_,0,_,.Xm _,e=>by simp at e|_,_,0,_,.has h _,e=>by simp at e;subst e;exact ⟨_,rfl,h⟩
 | _,_,i+1,d,.Xm t,e=>by
  obtain ⟨v,h1,h2⟩:=cg.get (i:=i) t (by simpa using e);exact ⟨v,by simpa using h1,h2⟩
 | _,_,i+1,d,.has _ t,e=>by
  obtain ⟨v,h1,h2⟩:=cg.get (i:=i) t (by simpa using e);exact ⟨v,by simpa using h1,h2⟩
theorem cg.set {K:Fg} {ι:Io} {H:Hp} {d:Dv} {v:V} (r:Rep K ι H d v):∀ {ρ:En} {σ:St} (i:Nat),cg K ι H ρ σ->cg K ι H (ρ.set i (some d)) (σ.set i (some v))
 | _,_,_,.nil=>.nil|_,_,0,.Xm t=>.has r t|_,_,0,.has _ t=>.has r t|_,_,i+1,.Xm t=>.Xm (cg.set r i t)|_,_,i+1,.has h t=>.has h (cg.set r i t)
theorem cg.length {K:Fg} {ι:Io} {H:Hp}:∀ {ρ:En} {σ:St},cg K ι H ρ σ->ρ.length=σ.length
 | _,_,.nil=>rfl|_,_,.Xm t=>by rw [List.length_cons,List.length_cons,cg.length t]|_,_,.has _ t=>by rw [List.length_cons,List.length_cons,cg.length t]
theorem cg.append {K:Fg} {ι:Io} {H:Hp}:∀ {ρ ρ':En} {σ σ':St},cg K ι H ρ σ->cg K ι H ρ' σ'->cg K ι H (ρ ++ ρ') (σ ++ σ')
 | _,_,_,_,.nil,r=>r|_,_,_,_,.Xm t,r=>.Xm (cg.append t r)|_,_,_,_,.has h t,r=>.has h (cg.append t r)
theorem cg.nones {K:Fg} {ι:Io} {H:Hp}:∀ (k:Nat) {σ:St},σ.length=k->cg K ι H (List.replicate k none) σ
 | 0,[],_=>.nil|k+1,_ :: r,h=>.Xm (cg.nones k (by simpa using h))
theorem cg.aaf {K:Fg} {ι:Io} {H:Hp}:∀ {ds:List Dv} {vs:List V},bc K ι H ds vs->cg K ι H (ds.map some) (vs.map some)
 | _,_,.nil=>.nil|_,_,.cons h t=>.has h (cg.aaf t)
theorem aa {α β:Type} {r:Res α} {f:α->Store->Res β} {b:β} {M:Store} (h:r.bind f=.ok b M):∃ a M1,r=.ok a M1/\f a M1=.ok b M:=by
 cases r with
 | ok a M1=>exact ⟨a,M1,rfl,h⟩|err c M1=>cases h|bad=>cases h
theorem cu {α:Type} {o:Option α} {a:α} {M M':Store} (h:Res.ofOpt o M=.ok a M'):o=some a/\M'=M:=by
 cases o with
 | none=>cases h|some x=>cases h;exact ⟨rfl,rfl⟩
theorem PE.weak {X:Cx} {e:Expr} {t t':TE} (h:PE X e t) (w:∀ σ H Q,t' σ H Q->t σ H Q):PE X e t':=λpins s σ H Q I q=>h pins s σ H Q I (w σ H Q q)
theorem PT.weak {X:Cx} {e:Expr} {t t':TT} (h:PT X e t) (w:∀ σ H Q,t' σ H Q->t σ H Q):PT X e t':=λpins s σ H Q I q=>h pins s σ H Q I (w σ H Q q)
theorem PA.weak {X:Cx} {es:List Expr} {t t':TA} (h:PA X es t) (w:∀ σ H Q,t' σ H Q->t σ H Q):PA X es t':=λpos pins s σ H Q I q=>h pos pins s σ H Q I (w σ H Q q)
theorem PS.weak {X:Cx} {e:Stmt} {t t':TS} (h:PS X e t) (w:∀ D σ H,t' D σ H->t D σ H):PS X e t':=λpins s σ H D I q=>h pins s σ H D I (w D σ H q)
theorem Ec.weak {X:Cx} {e:List Stmt} {t t':TS} (h:Ec X e t) (w:∀ D σ H,t' D σ H->t D σ H):Ec X e t':=λpins s σ H D I q=>h pins s σ H D I (w D σ H q)
theorem jt.weak {X:Cx} {f:Value->Value->Sem Value} {r r':R2} (h:jt X f r) (w:∀ x y H Q,r' x y H Q->r x y H Q):jt X f r':=λpins s σ H x y v u Q I rx ry q=>h pins s σ H x y v u Q I rx ry (w x y H Q q)
section
variable (nm:Nm) (W:jz) (K:Fg)
def tE (e:Ex):TE:=fun σ H Q=>∃ ι ρ M d M',az nm K ι H M/\cg K ι H ρ σ/\e.den W ρ M=.ok d M'/\∀ ι' H' v,Le ι H ι' H'->az nm K ι' H' M'->Rep K ι' H' d v->Q v H'
def tQ (e:Ex):TT:=fun σ H Q=>∃ ι ρ M b M',az nm K ι H M/\cg K ι H ρ σ/\e.den W ρ M=.ok (.bl b) M'/\∀ ι' H',Le ι H ι' H'->az nm K ι' H' M'->Q b H'
def Lz (es:ji):TA:=fun σ H Q=>∃ ι ρ M ds M',az nm K ι H M/\cg K ι H ρ σ/\es.den W ρ M=.ok ds M'/\∀ ι' H' vs,Le ι H ι' H'->az nm K ι' H' M'->bc K ι' H' ds vs->Q vs H'
def Jc (D:Ends) (ι:Io) (H:Hp) (fl:MW.Flow) (ρ:En) (M:Store):Prop :=
 ∀ ι' H' σ',Le ι H ι' H'->az nm K ι' H' M->cg K ι' H' ρ σ' ->
  match fl with
  | .next=>D.nx σ' H'|.brk=>D.bk σ' H'|.cont=>D.ct σ' H'|.ret d=>∀ v,Rep K ι' H' d v->D.rt v H'
def tS (st:mj):TS:=λD σ H=>∃ ι ρ M fl ρ' M',az nm K ι H M/\cg K ι H ρ σ/\st.den W ρ M=.ok (fl,ρ') M'/\Jc nm K D ι H fl ρ' M'
def tSs (st:bw):TS:=λD σ H=>∃ ι ρ M fl ρ' M',az nm K ι H M/\cg K ι H ρ σ/\st.den W ρ M=.ok (fl,ρ') M'/\Jc nm K D ι H fl ρ' M'
end
section
variable {nm:Nm} {W:jz} {X:Cx} {a:Expr}
theorem PE.of {e':Ex} {t:TE} (h:PE X a t) (w:∀ σ H Q ι ρ M d M',az nm X.K ι H M->cg X.K ι H ρ σ->e'.den W ρ M=.ok d M'->(∀ ι' H' v,Le ι H ι' H'->az nm X.K ι' H' M'->Rep X.K ι' H' d v->Q v H')->t σ H Q):PE X a (tE nm W X.K e'):=PE.weak h fun σ H Q ⟨ι,ρ,M,d,M',S,R,e,q⟩=>w σ H Q ι ρ M d M' S R e q
theorem PT.of {e':Ex} {t:TT} (h:PT X a t) (w:∀ σ H Q ι ρ M b M',az nm X.K ι H M->cg X.K ι H ρ σ->e'.den W ρ M=.ok (.bl b) M'->(∀ ι' H',Le ι H ι' H'->az nm X.K ι' H' M'->Q b H')->t σ H Q):PT X a (tQ nm W X.K e'):=PT.weak h fun σ H Q ⟨ι,ρ,M,d,M',S,R,e,q⟩=>w σ H Q ι ρ M d M' S R e q
theorem PA.of {es:List Expr} {es':ji} {t:TA} (h:PA X es t) (w:∀ σ H Q ι ρ M ds M',az nm X.K ι H M->cg X.K ι H ρ σ->es'.den W ρ M=.ok ds M'->(∀ ι' H' vs,Le ι H ι' H'->az nm X.K ι' H' M'->bc X.K ι' H' ds vs->Q vs H')->t σ H Q):PA X es (Lz nm W X.K es'):=PA.weak h fun σ H Q ⟨ι,ρ,M,d,M',S,R,e,q⟩=>w σ H Q ι ρ M d M' S R e q
theorem PS.of {st:Stmt} {s':mj} {t:TS} (h:PS X st t) (w:∀ D σ H ι ρ M fl ρ' M',az nm X.K ι H M->cg X.K ι H ρ σ->s'.den W ρ M=.ok (fl,ρ') M'->Jc nm X.K D ι H fl ρ' M'->t D σ H):PS X st (tS nm W X.K s'):=PS.weak h λD σ H ⟨ι,ρ,M,fl,ρ',M',S,R,e,q⟩=>w D σ H ι ρ M fl ρ' M' S R e q
theorem Ec.of {st:List Stmt} {s':bw} {t:TS} (h:Ec X st t) (w:∀ D σ H ι ρ M fl ρ' M',az nm X.K ι H M->cg X.K ι H ρ σ->s'.den W ρ M=.ok (fl,ρ') M'->Jc nm X.K D ι H fl ρ' M'->t D σ H):Ec X st (tSs nm W X.K s'):=Ec.weak h λD σ H ⟨ι,ρ,M,fl,ρ',M',S,R,e,q⟩=>w D σ H ι ρ M fl ρ' M' S R e q
end
section
variable {nm:Nm} {W:jz} {X:Cx} {a b c:Expr} {a' b' c':Ex} {pos:Pos} {ι:Io} {H:Hp} {σ:St} {ρ:En} {M M1 M2:Store} {x y:Dv}
theorem one {G:V->Hp->Prop} (S:az nm X.K ι H M) (R:cg X.K ι H ρ σ) (ha:a'.den W ρ M=.ok x M1)
 (h:∀ ι1 H1 v,Le ι H ι1 H1->az nm X.K ι1 H1 M1->cg X.K ι1 H1 ρ σ->Rep X.K ι1 H1 x v->G v H1):tE nm W X.K a' σ H G :=
 ⟨ι,ρ,M,x,M1,S,R,ha,fun ι' H' v le S' r=>h ι' H' v le S' (R.mono le) r⟩
theorem two {G:V->V->Hp->Prop} (S:az nm X.K ι H M) (R:cg X.K ι H ρ σ) (ha:a'.den W ρ M=.ok x M1) (hb:b'.den W ρ M1=.ok y M2)
 (h:∀ ι2 H2 v u,Le ι H ι2 H2->az nm X.K ι2 H2 M2->cg X.K ι2 H2 ρ σ->Rep X.K ι2 H2 x v->Rep X.K ι2 H2 y u->G v u H2) :
 tE nm W X.K a' σ H λv H1=>tE nm W X.K b' σ H1 λu H2=>G v u H2 :=
 one S R ha fun ι1 H1 v le1 S1 R1 r1=>one S1 R1 hb fun ι2 H2 u le2 S2 R2 r2=>h ι2 H2 v u (le1.trans le2) S2 R2 (r1.mono le2) r2
theorem aoz {i:Nat} {n:Str} (hN:X.N[i]?=some n) (hv:Vis X.env.scope n) (hd:(n == ("__debug__" : Str))=false) (hcd:(n == ("__classdict__" : Str))=false):PE X (.Name n pos) (tE nm W X.K (.var i)) :=
 PE.of (aib hN hv hd hcd) fun σ H Q ι ρ M d M' S R e q=>by
  rw [MW.Vq] at e;split at e
  . rename_i d' hd
    cases e;obtain ⟨v,h1,h2⟩:=R.get hd;exact ⟨v,h1,q ι H v (Le.refl _ _) S h2⟩
  . cases e
theorem ao0 {i:Int} {j:Nat}:PE X (.Constant (.int i) j pos) (tE nm W X.K (.cst (.int i))) :=
 PE.of aic fun σ H Q ι ρ M d M' S R e q=>by rw [MW.El] at e;cases e;exact q ι H _ (Le.refl _ _) S (.int i)
theorem auu {i:Bool} {j:Nat}:PE X (.Constant (.bool i) j pos) (tE nm W X.K (.cst (.bl i))) :=
 PE.of amw fun σ H Q ι ρ M d M' S R e q=>by rw [MW.El] at e;cases e;exact q ι H _ (Le.refl _ _) S (.bl i)
theorem ao1 {j:Nat}:PE X (.Constant .none j pos) (tE nm W X.K (.cst .non)) :=
 PE.of aid fun σ H Q ι ρ M d M' S R e q=>by rw [MW.El] at e;cases e;exact q ι H _ (Le.refl _ _) S .non
theorem ao2 {i:Str} {j:Nat}:PE X (.Constant (.str i) j pos) (tE nm W X.K (.cst (.str i))) :=
 PE.of aie fun σ H Q ι ρ M d M' S R e q=>by rw [MW.El] at e;cases e;exact q ι H _ (Le.refl _ _) S (.str i)
theorem ajv {n:Str} {i:Int} {t:Tok} (hg:Gl X n) (hm:X.mg n=some (.int i t)) (hd:(n == ("__debug__" : Str))=false):PE X (.Name n pos) (tE nm W X.K (.cst (.int i))) :=
 PE.of (adi (v:=.int i) hg hm ⟨t,rfl⟩ hd) fun σ H Q ι ρ M d M' S R e q=>by rw [MW.El] at e;cases e;exact q ι H _ (Le.refl _ _) S (.int i)
def rOp (nm:Nm) (K:Fg) (f:Dv->Dv->Store->Res Dv):R2:=λv u H Q=>∃ ι M x y d M',az nm K ι H M/\Rep K ι H x v/\Rep K ι H y u/\f x y M=.ok d M' /\
 ∀ ι' H' w,Le ι H ι' H'->az nm K ι' H' M'->Rep K ι' H' d w->Q w H'
theorem jt.of {f:Value->Value->Sem Value} {g:Dv->Dv->Store->Res Dv} {r:R2} (h:jt X f r) (w:∀ v u H Q ι M x y d M',az nm X.K ι H M->Rep X.K ι H x v->Rep X.K ι H y u->g x y M=.ok d M'->(∀ ι' H' w,Le ι H ι' H'->az nm X.K ι' H' M'->Rep X.K ι' H' d w->Q w H')->r v u H Q):jt X f (rOp nm X.K g) :=
 jt.weak h λv u H Q ⟨ι,M,x,y,d,M',S,rv,ru,e,q⟩=>w v u H Q ι M x y d M' S rv ru e q
theorem ao3 {op:Operator} {op':Vm} (ho:jt X (binaryOp op) (rOp nm X.K (MW.qp op'))) (ha:PE X a (tE nm W X.K a')) (hb:PE X b (tE nm W X.K b')):PE X (.BinOp a op b pos) (tE nm W X.K (.bin op' a' b')) :=
 PE.of (anb ho ha hb) fun σ H Q ι ρ M d M' S R e q=>by rw [MW.aee] at e;obtain ⟨x,M1,e1,e⟩:=aa e;obtain ⟨y,M2,e2,e⟩:=aa e;exact two S R e1 e2 fun ι2 H2 v u le S2 _ rv ru=>⟨ι2,M2,x,y,d,M',S2,rv,ru,e,fun ι' H' w Kw S' r=>q ι' H' w (le.trans Kw) S' r⟩
theorem ao4:jt X (binaryOp .Sub) (rOp nm X.K (MW.qp .sub)) :=
 jt.of ai0 λv u H Q ι M x y d M' S rv ru e q=>by obtain ⟨i,j,rfl,rfl,e2⟩:=MW.T8 e (by intro z;cases z);cases rv;cases ru;cases e2;exact ⟨_,_,rfl,rfl,q ι H _ (Le.refl _ _) S (.int _)⟩
theorem aeu {op:Operator} {op':Vm} {g:Int->Int->Int} {P:Int->Int->Prop} [∀ i j,Decidable (P i j)] {r:R2} (h:jt X (binaryOp op) r) (hb:∀ x y M,MW.qp op' x y M=MW.ii x y (λi j=>if P i j then .ok (.int (g i j)) M else .bad) .bad)
 (w:∀ i j H Q,P i j->Q (.int (g i j)) H->r (.int i) (.int j) H Q):jt X (binaryOp op) (rOp nm X.K (MW.qp op')) :=
 jt.of h λv u H Q ι M x y d M' S rv ru e q=>by
  rw [hb] at e;obtain ⟨i,j,rfl,rfl,e2⟩:=MW.T8 e (by intro z;cases z)
  by_cases hp:P i j
  . rw [if_pos hp] at e2
    cases rv;cases ru;cases e2;exact w i j H Q hp (q ι H _ (Le.refl _ _) S (.int _))
  . rw [if_neg hp] at e2;cases e2
theorem ao5:jt X (binaryOp .Mult) (rOp nm X.K (MW.qp .mul)):=aeu ai1 (λ_ _ _=>rfl) λi j H Q h q=>⟨_,_,rfl,rfl,h,q⟩
theorem ao6:jt X (binaryOp .Mod) (rOp nm X.K (MW.qp .mod)):=aeu ai2 (λ_ _ _=>rfl) λi j H Q h q=>⟨_,_,rfl,rfl,h,q⟩
theorem ajw:jt X (binaryOp .FloorDiv) (rOp nm X.K (MW.qp .fdiv)):=aeu adt (λ_ _ _=>rfl) λi j H Q h q=>⟨_,_,rfl,rfl,h,q⟩
theorem ao7:jt X (binaryOp .Pow) (rOp nm X.K (MW.qp .pow)):=aeu ai3 (λ_ _ _=>rfl) λi j H Q h q=>⟨_,_,rfl,rfl,⟨h.1,by omega,h.2.2⟩,q⟩
theorem dg {d:Dv} {ds:List Dv} {v:V} (S:az nm X.K ι H M) (r:Rep X.K ι H d v) (h:MW.asList M d=some ds):∃ p vs,v=.ref p/\H p=some (.lst vs)/\bc X.K ι H ds vs:=by
 cases r with
 | vl e n r=>simp [MW.asList] at h;subst h;exact ⟨_,_,rfl,e,r⟩
 | ref e =>
  rename_i n p;simp only [MW.asList] at h;split at h<;>simp at h;rename_i ds' hn;subst h;obtain ⟨vs,h1,h2⟩:=S.obj n _ p hn e;exact ⟨p,vs,rfl,h1,h2⟩
 | _=>simp [MW.asList] at h
theorem xq {d:Dv} {ds:List Dv} {v:V} (S:az nm X.K ι H M) (r:Rep X.K ι H d v) (h:MW.gr M d=some ds):∃ p vs,v=.ref p/\(H p=some (.lst vs) \/ H p=some (.tup vs))/\bc X.K ι H ds vs:=by
 cases r with
 | tup e r=>simp [MW.gr] at h;subst h;exact ⟨_,_,rfl,.inr e,r⟩
 | vl e n r =>
  obtain ⟨p,vs,h1,h2,h3⟩:=dg S (.vl e n r) (show MW.asList M _=_ from h);exact ⟨p,vs,h1,.inl h2,h3⟩
 | ref e =>
  obtain ⟨p,vs,h1,h2,h3⟩:=dg S (.ref e) (show MW.asList M _=_ from h);exact ⟨p,vs,h1,.inl h2,h3⟩
 | _=>simp [MW.gr,MW.asList] at h
theorem Ud {ds:List Dv} {vs:List V} {p:Addr} (S:az nm X.K ι H M) (hp:H p=none) (r:bc X.K ι H ds vs):az nm X.K ι (upd H p (.lst vs)) M/\Le ι H ι (upd H p (.lst vs))/\Rep X.K ι (upd H p (.lst vs)) (.vl ds) (.ref p):=by obtain ⟨S1,le⟩:=S.laid hp (.lst vs);exact ⟨S1,le,.vl dh (S.fresh hp) (r.mono le)⟩
theorem za {ds:List Dv} {vs:List V} {p:Addr} (S:az nm X.K ι H M) (hp:H p=none) (r:bc X.K ι H ds vs):az nm X.K ι (upd H p (.tup vs)) M/\Le ι H ι (upd H p (.tup vs))/\Rep X.K ι (upd H p (.tup vs)) (.tup ds) (.ref p):=by obtain ⟨S1,le⟩:=S.laid hp (.tup vs);exact ⟨S1,le,.tup dh (r.mono le)⟩
theorem Vv {ds:List Dv} {vs:List V} {p:Addr} (S:az nm X.K ι H M) (hp:H p=none) (r:bc X.K ι H ds vs):az nm X.K (ι.add p) (upd H p (.lst vs)) (M ++ [.lst ds])/\Le ι H (ι.add p) (upd H p (.lst vs))/\Rep X.K (ι.add p) (upd H p (.lst vs)) (.ref M.length) (.ref p):=by
 obtain ⟨S1,le⟩:=S.new (H':=upd H p (.lst vs)) (o:=.lst ds) hp (λa u e=>by rw [aq (au e hp)];exact e) λle=>⟨vs,dh,r.mono le⟩
 exact ⟨S1,le,.ref (by show (ι.l ++ [p])[M.length]?=some p;rw [<- S.len];simp)⟩
theorem Eo:(100000:Nat) <= sizeLine:=by decide
theorem aev {d:Dv} {M':Store} (h:MW.qp .add x y M=.ok d M'):(∃ i j,x=.int i/\y=.int j/\d=.int (i+j)/\M'=M) \/
 (∃ xs ys,x=.tup xs/\y=.tup ys/\xs.length+ys.length <= 100000/\xs.isEmpty=false/\d=.tup (xs ++ ys)/\M'=M) \/
 ∃ xs ys,MW.asList M x=some xs/\MW.asList M y=some ys/\xs.length+ys.length <= 100000/\d=.vl (xs ++ ys)/\M'=M:=by
 have h:MW.Z4 x y M=.ok d M':=h;unfold MW.Z4 at h;split at h<;>try cases h
 . exact .inl ⟨_,_,rfl,rfl,rfl,rfl⟩
 . split at h<;>cases h
   rename_i hc;exact .inr (.inl ⟨_,_,rfl,rfl,hc.1,hc.2,rfl,rfl⟩)
 . split at h
   . split at h<;>cases h
     rename_i h1 h2 hl;exact .inr (.inr ⟨_,_,h1,h2,hl,rfl,rfl⟩)
   . cases h
theorem ao8:jt X (binaryOp .Add) (rOp nm X.K (MW.qp .add)) :=
 jt.of (aiz.or (Zr.or ad7)) λv u H Q ι M x y d M' S rv ru e q=>by
  have lists:∀ xs ys,MW.asList M x=some xs->MW.asList M y=some ys->xs.length+ys.length <= 100000->d=.vl (xs ++ ys)->M'=M->aoc v u H Q:=λxs ys h1 h2 hl hd hm=>by
   subst hd hm;obtain ⟨p,vs,rfl,e1,r1⟩:=dg S rv h1;obtain ⟨p2,vs2,rfl,e2,r2⟩:=dg S ru h2;refine ⟨p,p2,vs,vs2,rfl,rfl,e1,e2,?_,λp3 h3=>?_⟩
   . rw [<- r1.length,<- r2.length];exact Nat.le_trans hl Eo
   . obtain ⟨a,b,c⟩:=Ud S h3 (r1.append r2)
     exact q ι _ _ b a c
  rcases aev e with ⟨i,j,rfl,rfl,rfl,rfl⟩ | ⟨xs,ys,rfl,rfl,hl,h2,rfl,rfl⟩ | ⟨xs,ys,h1,h2,hl,h3,h4⟩
  . cases rv;cases ru
    exact .inl ⟨_,_,rfl,rfl,q ι H _ (Le.refl _ _) S (.int _)⟩
  . cases rv with
    | tup e1 r1 =>
     cases ru with
     | tup e2 r2 =>
      refine .inr (.inr ⟨_,_,_,_,rfl,rfl,yt.of e1,yt.of e2,?_,?_,λhn=>?_,λ_ p hp=>?_⟩)
      . intro z
        have:=r1.length;rw [z] at this;rw [List.length_eq_zero_iff.mp this] at h2;cases h2
      . rw [<- r1.length,<- r2.length];exact Nat.le_trans hl Eo
      . have:=r2.length
        rw [hn] at this;rw [List.length_eq_zero_iff.mp this,List.append_nil] at q;exact q ι H _ (Le.refl _ _) S (.tup e1 r1)
      . obtain ⟨a,b,c⟩:=za S hp (r1.append r2)
        exact q ι _ _ b a c
  . exact .inr (.inl (lists _ _ h1 h2 hl h3 h4))
end
end Sm
namespace L2
open PySem PySem.Spec PyProof.Rows
def vf (cells:List (Str×Addr)):List (Str×NameKind)->List (Str×Addr)->List (Str×Addr)
 | [],cs=>cs|(n,k) :: r,cs=>vf cells r (if k == .free then (n,(cells.lookup n).getD 0) :: cs else cs)
theorem Hf {α β:Type} {f:α->β->Sem (ForInStep β)} {g:α->β->β}:∀ {l:List α} (c:β),(∀ x∈l,∀ c,f x c=pure (.yield (g x c)))->forIn l c f=pure (l.foldl (λc x=>g x c) c)
 | [],c,_=>rfl
 | x :: l,c,h=>by
  rw [List.forIn_cons,h x List.mem_cons_self,pure_bind];exact Hf (g x c) λy hy=>h y (List.mem_cons_of_mem _ hy)
theorem Hg (cells:List (Str×Addr)):∀ (l:List (Str×NameKind)) (cs:List (Str×Addr)),vf cells l cs=l.foldl (λc x=>if x.2 == .free then (x.1,(cells.lookup x.1).getD 0) :: c else c) cs
 | [],_=>rfl|(n,k) :: r,cs=>Hg cells r _
theorem Jd {scope:Scope} {env:Env} (h:∀ y∈scope.names,y.2=.free->∃ c,env.cells.lookup y.1=some c):closureFor scope env=pure (vf env.cells scope.names []):=by
 simp only [closureFor];rw [Hf (g:=λx c=>if x.2 == .free then (x.1,(env.cells.lookup x.1).getD 0) :: c else c) [] (λx hx c=>by
  obtain ⟨n,k⟩:=x
  by_cases hk:k=.free
  . subst hk
    obtain ⟨c',hc⟩:=h (n,.free) hx rfl;have hc:env.cells.lookup n=some c':=hc;simp [cellOf,hc]
  . have hb:(k == NameKind.free)=false:=by simpa using hk
    simp [hb]),Hg]
 rfl
theorem Qx (cells:List (Str×Addr)):∀ (l:List (Str×NameKind)) (cs:List (Str×Addr)) (x:Str) (c:Addr),(∀ y∈l,y.2=.free->∃ c,cells.lookup y.1=some c)->(vf cells l cs).lookup x=some c ->
 cs.lookup x=some c \/ cells.lookup x=some c
 | [],cs,x,c,_,h=>.inl h
 | (n,k) :: r,cs,x,c,hy,h=>by
  rcases Qx cells r _ x c (λz hz=>hy z (List.mem_cons_of_mem _ hz)) h with q | q
  . by_cases hk:k=.free
    . subst hk
      simp only [beq_self_eq_true,if_true,List.lookup_cons] at q;cases e:x == n with
      | true =>
       rw [e] at q;obtain ⟨c',hc⟩:=hy (n,.free) List.mem_cons_self rfl;have hc:cells.lookup n=some c':=hc;simp only [hc,Option.getD_some,Option.some.injEq] at q;subst q;rw [eq_of_beq e];exact .inr hc
      | false=>rw [e] at q;exact .inl q
    . have hb:(k == NameKind.free)=false:=by simpa using hk
      simp only [hb,Bool.false_eq_true,if_false] at q;exact .inl q
  . exact .inr q
theorem Je (cells:List (Str×Addr)):∀ (l:List (Str×NameKind)) (cs:List (Str×Addr)) (x:Str),(∃ c,cs.lookup x=some c)->∃ c,(vf cells l cs).lookup x=some c
 | [],cs,x,h=>h
 | (n,k) :: r,cs,x,h=>by
  refine Je cells r _ x ?_
  by_cases hk:(k == NameKind.free)=true
  . rw [if_pos hk,List.lookup_cons]
    cases e:x == n with
    | true=>exact ⟨_,rfl⟩|false=>exact h
  . rw [if_neg hk];exact h
theorem Gn (cells:List (Str×Addr)):∀ (l:List (Str×NameKind)) (cs:List (Str×Addr)) (x:Str),(x,NameKind.free)∈l->∃ c,(vf cells l cs).lookup x=some c
 | (n,k) :: r,cs,x,h=>by
  rcases List.mem_cons.mp h with q | q
  . obtain ⟨rfl,rfl⟩:=Prod.mk.inj q
    refine Je cells r _ x ⟨(cells.lookup x).getD 0,?_⟩;rw [if_pos (by simp),List.lookup_cons,beq_self_eq_true]
  . exact Gn cells r _ x q
theorem Av {env:Env}:∀ {names:List (Str×NameKind)} {x:Str},
 (names.map λ(y:Str×NameKind)=>if (y.2 == NameKind.free && env.scope.kind == .function && env.kindOf y.1 == some .cell) then (y.1,NameKind.cell) else (y.1,y.2)).lookup x
  = (names.lookup x).map λk=>if (k == NameKind.free && env.scope.kind == .function && env.kindOf x == some .cell) then NameKind.cell else k
 | [],_=>rfl
 | (n,k) :: r,x=>by
  have ih:=@Av env r x;rw [List.map_cons];cases hx:x == n with
  | true =>
   have e:=eq_of_beq hx;subst e;clear hx
   by_cases hc:(k == NameKind.free && env.scope.kind == .function && env.kindOf x == some .cell)=true
   . simp only [hc,if_true,List.lookup_cons,beq_self_eq_true,Option.map_some]
   . have hb:(k == NameKind.free && env.scope.kind == .function && env.kindOf x == some .cell)=false:=by simpa using hc
     simp only [hb,Bool.false_eq_true,if_false,List.lookup_cons,beq_self_eq_true,Option.map_some]
  | false =>
   by_cases hc:(k == NameKind.free && env.scope.kind == .function && env.kindOf n == some .cell)=true
   . simp only [hc,if_true,List.lookup_cons,hx];exact ih
   . simp only [hc,List.lookup_cons,hx];simpa [List.lookup_cons,hx] using ih
theorem mem_of_lookup {α β:Type} [BEq α] [LawfulBEq α]:∀ {l:List (α×β)} {x:α} {y:β},l.lookup x=some y->(x,y)∈l
 | (a,b) :: r,x,y,h=>by
  rw [List.lookup_cons] at h;cases e:x == a with
  | true=>rw [e] at h;cases h;rw [eq_of_beq e];exact List.mem_cons_self|false=>rw [e] at h;exact List.mem_cons_of_mem _ (mem_of_lookup h)
def blk (X:Cx) (N:List Str) (scope:Scope) (C:Addr) (fp:List Addr) (s:Shared) (H:Hp):Cx where
 prog:=X.prog
 w:=X.w
 K:=X.K
 mg:=X.mg
 base:=X.base
 A:=X.A
 N:=N
 s₀:=s
 H₀:=H
 env:=compEnvC scope (vf X.env.cells scope.names []) C X.env
 outer:=X.stack
 stack:=X.stack
 ex:=fp
 fn:=λ_=>false
 calm:=X.calm
 pn:=[]
 xe:=λ_ _=>False
structure su (X:Cx) (N:List Str) (scope:Scope):Prop where
 kind:scope.kind=.function
 aah:∀ y∈scope.names,y.2≠.cell
 locs:∀ y∈scope.names,y.2=.local->scope.names.lookup y.1=some .local
 frees:∀ y∈scope.names,y.2=.free->X.env.kindOf y.1=some .cell \/ X.env.kindOf y.1=some .free
 uniq:∀ x k,(x,k)∈scope.names->scope.names.lookup x=some k
 long:X.N.length <= N.length
 vis:∀ i x,i < X.N.length->N[i]?=some x->Vis (relabel scope X.env) x->X.N[i]?=some x/\scope.names.lookup x=some .free
section
variable {X:Cx} {N:List Str} {scope:Scope} {pins:List (Addr×Obj)} {σ:St} {H:Hp} {s:Shared} {fp:List Addr}
theorem su.cells (B:su X N scope) (ok:X.Ok):∀ y∈scope.names,y.2=.free->∃ c,X.env.cells.lookup y.1=some c:=λy hy hk=>ok.has y.1 (B.frees y hy hk)
theorem su.clos (B:su X N scope) (ok:X.Ok):closureFor scope X.env=pure (vf X.env.cells scope.names []):=Jd (B.cells ok)
theorem su.inCells (B:su X N scope) (ok:X.Ok) {x:Str} {c:Addr} (h:(vf X.env.cells scope.names []).lookup x=some c):X.env.cells.lookup x=some c:=by
 rcases Qx _ _ _ _ _ (B.cells ok) h with q | q
 . simp at q
 . exact q
theorem Qy (x:Str) {C:Addr}:(compEnvC scope (vf X.env.cells scope.names []) C X.env).kindOf x=(scope.names.lookup x).map λk=>if (k == NameKind.free && X.env.scope.kind == .function && X.env.kindOf x == some .cell) then NameKind.cell else k:=by show (relabel scope X.env).names.lookup x=_;exact Av
theorem Xn {h₁:Heap} {t:Nat} (B:su X N scope) (I:Inv X pins σ H s) (hf:∀ b∈fp,Hw X pins H b) (hfo:∀ b∈fp,∃ o,s.heap.get? b=some o)
 (hns:h₁.Ns (s.heap.objs.size+1) λ_=>none)
 (hk:∀ b o,s.heap.get? b=some o->h₁.get? b=some o) (hacc:h₁.get? s.heap.objs.size=some { cls:=.type "list",data:=.seq ([]:List Value).toArray }) :
 Inv (blk X N scope (s.heap.objs.size+1) fp s H) [] (σ ++ List.replicate (N.length - X.N.length) none) (upd H s.heap.objs.size (.lst [])) { s with heap:=h₁,toks:=t }:=by
 have ok:=I.ok;have hD:H s.heap.objs.size=none:=I.hok.fresh (Nat.le_refl _);have hC:H (s.heap.objs.size+1)=none:=I.hok.fresh (Nat.le_succ _);have hCD:s.heap.objs.size+1≠s.heap.objs.size:=Nat.succ_ne_self _;have lt:∀ b∈fp,b < s.heap.objs.size:=λb hb=>by obtain ⟨o,e⟩:=hfo b hb;exact Heap.lt_size e
 have clt:∀ x c,X.env.cells.lookup x=some c->c < s.heap.objs.size:=λx c e=>by obtain ⟨v,o,ho,_⟩:=I.cell x c e;exact Heap.lt_size ho
 refine ⟨⟨ok.mod,B.kind,ok.glob,ok.blt,Nat.le_succ _,?_,?_,?_,ok.hd,ok.frames,.inl rfl,?_,λb o e=>I.bs b o e,Nat.le_trans ok.bsz I.sz,?_,?_,I.stack,I.U9⟩,rfl,I.bare,?_,?_,?_,?_,?_,?_,?_,?_⟩
 . intro x y c hx hy
   exact ok.inj x y c (B.inCells ok hx) (B.inCells ok hy)
 . intro x hx
   rw [show (blk X N scope (s.heap.objs.size+1) fp s H).env.kindOf x=_ from Qy x] at hx;cases e:scope.names.lookup x with
   | none=>rw [e] at hx;rcases hx with q | q<;>simp at q
   | some k =>
    have hfree:k=.free:=by
     rw [e] at hx;cases k with
     | free=>rfl|cell=>exact absurd rfl (B.aah _ (mem_of_lookup e))|«local»=>rcases hx with q | q<;>simp at q
     | globalExplicit=>rcases hx with q | q<;>simp at q
     | globalImplicit=>rcases hx with q | q<;>simp at q
    subst hfree;exact Gn _ _ _ _ (mem_of_lookup e)
 . intro x c h;cases h
 . intro b hb
   refine ⟨λe=>?_,λx c hc e=>?_⟩
   . have q:=lt b hb
     have e:b=s.heap.objs.size+1:=e;rw [e] at q;exact absurd q (Nat.not_lt.mpr (Nat.le_succ _))
   . obtain ⟨_,_,_,_,f4,_⟩:=hf b hb
     exact f4 x c (B.inCells ok hc) e
 . intro b o e hb
   obtain ⟨_,_,_,f3,_⟩:=hf b hb;rcases f3 with q | q
   . exact ok.Y0 b o e q
   . exact Nat.lt_irrefl _ (Nat.lt_of_lt_of_le (Heap.lt_size e) (Nat.le_trans ok.bsz q))
 . intro b hb q
   obtain ⟨_,f1,f2,_⟩:=hf b hb;rcases List.mem_cons.mp (I.Nh b q) with z | z
   . exact f1 z
   . exact f2 z
 . exact Un.laid hk (Nat.le_refl _) hD
 . refine ⟨_,hns,λi x v hN hσ hv=>?_⟩
   have hi:i < X.N.length:=by
    rcases Nat.lt_or_ge i σ.length with q | q
    . rw [I.len] at q;exact q
    . rw [List.getElem?_append_right q] at hσ
      rw [List.getElem?_replicate] at hσ;split at hσ<;>simp at hσ
   rw [List.getElem?_append_left (by rw [I.len];exact hi)] at hσ;obtain ⟨hx,hfree⟩:=B.vis i x hi hN hv;obtain ⟨m,_,hl⟩:=I.loc;have hkx:=B.frees _ (mem_of_lookup hfree) rfl;have hvx:Vis X.env.scope x:=by
    rcases hkx with q | q
    . exact .inr (.inl q)
    . exact .inr (.inr q)
   obtain ⟨u,ru,lu⟩:=hl i x v hx hσ hvx;refine ⟨u,ru,.inr ⟨?_,?_⟩⟩
   . rw [show (blk X N scope (s.heap.objs.size+1) fp s H).env.kindOf x=_ from Qy x,hfree]
     simp only [Option.map_some];split
     . exact .inl rfl
     . exact .inr rfl
   . rcases lu with ⟨q,_⟩ | ⟨_,c,hc,ic⟩
     . rcases hkx with z | z<;>rw [q] at z<;>cases z
     . obtain ⟨c',hc'⟩:=Gn X.env.cells scope.names [] x (mem_of_lookup hfree)
       have:=B.inCells ok hc';rw [hc] at this;cases this;exact ⟨c,hc',ic.keeps hk⟩
 . intro x c hc
   obtain ⟨v,iv⟩:=I.cell x c (B.inCells ok hc);exact ⟨v,iv.keeps hk⟩
 . show upd H s.heap.objs.size (.lst []) (s.heap.objs.size+1)=none
   rw [aq hCD];exact hC
 . intro x c hc
   have hc':=B.inCells ok hc;rw [aq (Nat.ne_of_lt (clt x c hc'))];exact I.Aj x c hc'
 . intro p hp;simp [blk] at hp
 . exact Cm.laid I.hok hk (Nat.le_refl _) ⟨Nat.zero_le _,[],0,.nil,hacc⟩
 . show (σ ++ List.replicate (N.length - X.N.length) none).length=N.length
   rw [List.length_append,List.length_replicate,I.len];have:=B.long;omega
end
section
variable {prog:Program} {w:World} {A:Around} {R:Result->Shared->Prop} {s:Shared}
theorem Aw {elt target iter:Expr} {ifs:List Expr} {scope:Scope} {pos:Pos} {it acc:Value} {env:Env} (I:Nat->Shared->Prop)
 (turn:∀ n s,I n s->wpAny (model prog w) A (pyNext it) (λr s₁=>match r with
  | none=>R (.ok .next) s₁
  | some v=>wpAny (model prog w) A (letOwnedTupleGo target it v) (λ_ s₁'=>wpAny (model prog w) A (assign target env v) (λ_ s₂ =>
   wpAny (model prog w) A (forIn ifs true λc r=>if r=true then do let ok <- isTrue c env (eval c env);pure (ForInStep.yield ok) else pure (ForInStep.yield r)) (λok s₃ =>
    if ok=true then wpAny (model prog w) A (eval elt env) (λx s₄ =>
     wpAny (model prog w) A (call (.builtin "list.append") [acc,x]) (λ_ s₅=>∃ m,m < n/\I m s₅) (λ_ _=>False) s₄) (λ_ _=>False) s₃
    else ∃ m,m < n/\I m s₃) (λ_ _=>False) s₂) (λ_ _=>False) s₁') (λ_ _=>False) s₁) (λ_ _=>False) s)
 (n:Nat) (h:I n s) :
 codeAny (model prog w) A (.compLoop (.ListComp elt [⟨target,iter,ifs,0⟩] scope pos) 0 it acc env) R s:=by
 have nv:∀ {α:Type} {t:Sem α} {Q:α->Shared->Prop} {E:Value->Shared->Prop} {s:Shared},wpAny (model prog w) A t Q (λ_ _=>False) s->wpAny (model prog w) A t Q E s:=λh=>wpAny_mono h (λ_ _ q=>q) λ_ _ f=>f.elim
 refine codeAny_loop rfl I (λn s hI=>?_) n h;show wpAny _ A ((compTurn (.ListComp elt [⟨target,iter,ifs,0⟩] scope pos) 0 it acc env).onRaise (λx=>do noteFrame x env;theTreesLotGoes x)) _ _ s;refine wpAny_noted ?_;rw [compTurn_list];refine wpAny_bind (wpAny_standAt (wpAny_bind (wpAny_mono (turn n s hI) (λr s₁ h₁=>?_) λ_ _ h'=>h'.elim)));cases r with
 | none=>exact wpAny_pure h₁
 | some v =>
  refine wpAny_bind (wpAny_mono h₁ (λ_ s₁' h₁'=>?_) λ_ _ h'=>h'.elim);refine wpAny_bind (wpAny_mono h₁' (λ_ s₂ h₂=>wpAny_bind (wpAny_mono h₂ (λok s₃ h₃=>?_) λ_ _ h'=>h'.elim)) λ_ _ h'=>h'.elim);cases ok with
  | false=>exact wpAny_pure ⟨rfl,h₃⟩
  | true =>
   exact wpAny_bind (wpAny_bind (wpAny_mono h₃ (λx s₄ h₄=>wpAny_bind (wpAny_mono h₄ (λ_ s₅ h₅=>wpAny_pure (wpAny_pure ⟨rfl,h₅⟩)) λ_ _ h'=>h'.elim)) λ_ _ h'=>h'.elim))
end
def Qz (k:Nat) (wi:TI) (g:TG) (tc:TT) (te:TE):TE:=fun σ H Q=>wi σ H λJ H1=>∀ D,H1 D=none->∃ W:Nat->Nat->Hp->Prop,(∃ m,W 0 m (upd H1 D (.lst [])))/\∀ i m H,W i m H ->
 (J.stop i H/\Q (.ref D) H) \/ (J.go i H/\∀ x H',J.yld i H x H'->g x (σ ++ List.replicate k none) H' fun σ2 H2=>σ2.length=(σ ++ List.replicate k none).length /\
  (∀ (j:Nat) v,(σ ++ List.replicate k none)[j]?=some (some v)->σ2[j]?=some (some v))/\tc σ2 H2 λb H3 =>
   if b=true then te σ2 H3 λv H4=>∃ xs m',H4 D=some (.lst xs)/\xs.length < sizeLine/\m' < m/\W (i+1) m' (upd H4 D (.lst (xs ++ [v]))) else ∃ m',m' < m/\W (i+1) m' H3)
def PTs (X:Cx) (ifs:List Expr) (tc:TT):Prop:=(ifs=[]/\tc=λ_ H Q=>Q true H) \/ ∃ c,ifs=[c]/\PT X c tc
section
variable {X:Cx} {N:List Str} {scope:Scope} {pins:List (Addr×Obj)} {σ:St} {H H3:Hp} {s s3:Shared} {fp:List Addr} {elt tg iter:Expr} {ifs:List Expr} {pos:Pos} {wi:TI} {g:TG} {tc:TT} {te:TE}
theorem Ma {σ3:St} (I:Inv X pins σ H s) (hf:∀ b∈fp,Hw X pins H b) (J:Inv (blk X N scope (s.heap.objs.size+1) fp s H) [] σ3 H3 s3):Inv X pins σ H3 s3/\∃ m,s3.heap.Ns (s.heap.objs.size+1) m:=by
 refine ⟨I.call' J.os J.base J.hok J.bare λb hb=>?_,?_⟩
 . obtain ⟨_,f1,_,f3,f4,f5⟩:=hf b hb
   exact ⟨f3,f1,f4,f5⟩
 . obtain ⟨m,hn,_⟩:=J.loc
   exact ⟨m,hn⟩
theorem Xo {h':Heap} (I:Inv X pins σ H s) (I3:Inv X pins σ H3 s3) (hC:H3 (s.heap.objs.size+1)=none) (hs:Heap.SameBut (s.heap.objs.size+1) s3.heap h'):Inv X pins σ H3 { s3 with heap:=h' }:=by
 have big:∀ b o,s.heap.get? b=some o->b≠s.heap.objs.size+1:=λb o e z=>by have:=Heap.lt_size e;rw [z] at this;exact absurd this (Nat.not_lt.mpr (Nat.le_succ _))
 refine I3.turned (t':=s3.toks) (λb o hb e=>hs.extBut b o hb e) hC ?_ (.inr (Nat.le_trans I.sz (Nat.le_succ _))) ?_ ?_
 . intro e
   obtain ⟨m,⟨o,_,_,ho,_⟩,_⟩:=I.loc;exact big _ o ho e.symm
 . intro x c hc
   obtain ⟨v,o,ho,_⟩:=I.cell x c hc;exact big c o ho
 . intro p hp
   exact big p.1 p.2 (I.pin p hp).1
theorem Jf {E:Value->Shared->Prop} {it:Addr} {tn:Nat->Heap->Prop} {J:It} {RR:Value->Addr->Result->Shared->Prop} (B:su X N scope) (hcalm:X.calm=true) (I:Inv X pins σ H s) (hf:∀ b∈fp,Hw X pins H b)
 (T:Turn X.prog X.w X.K tg J fp it tn) (h0:tn 0 s.heap)
 (hg:∀ C s H,PG (blk X N scope C fp s H) tg g) (hc:∀ C s H,PTs (blk X N scope C fp s H) ifs tc) (he:∀ C s H,PE (blk X N scope C fp s H) elt te) {Q:VK}
 (W:Nat->Nat->Hp->Prop) {m0:Nat} (w0:W 0 m0 (upd H s.heap.objs.size (.lst [])))
 (turn:∀ i m H,W i m H->(J.stop i H/\Q (.ref s.heap.objs.size) H) \/ (J.go i H/\∀ x H',J.yld i H x H'->g x (σ ++ List.replicate (N.length - X.N.length) none) H' fun σ2 H2=>σ2.length=(σ ++ List.replicate (N.length - X.N.length) none).length /\
  (∀ (j:Nat) v,(σ ++ List.replicate (N.length - X.N.length) none)[j]?=some (some v)->σ2[j]?=some (some v))/\tc σ2 H2 λb H3 =>
   if b=true then te σ2 H3 λv H4=>∃ xs m',H4 s.heap.objs.size=some (.lst xs)/\xs.length < sizeLine/\m' < m/\W (i+1) m' (upd H4 s.heap.objs.size (.lst (xs ++ [v]))) else ∃ m',m' < m/\W (i+1) m' H3))
 (hRR:∀ σ3 H3 s3,Inv (blk X N scope (s.heap.objs.size+1) fp s H) [] σ3 H3 s3->Q (.ref s.heap.objs.size) H3->RR (.ref s.heap.objs.size) (s.heap.objs.size+1) (.ok .next) s3) :
 wpAny (model X.prog X.w) X.A (newList []) (λacc s₃=>wpAny (model X.prog X.w) X.A (newFunctionEnv scope X.env.globals (vf X.env.cells scope.names []) [] X.env.qual none .none (some X.env)) (λcenv s₄ =>
  codeAny (model X.prog X.w) X.A (.compStart (.ListComp elt [⟨tg,iter,ifs,0⟩] scope pos) 0 (.ref it) acc { cenv with scope:=relabel scope X.env }) (RR acc cenv.locals) s₄) E s₃) E s:=by
 refine wpAny_newObj_type (wpAny_newFunctionEnv B.aah (by intro y hy;simp at hy) (λh₁ hns₁ hsb₁=>?_) B.kind);dsimp only at hns₁ hsb₁ ⊢;have hsz:(s.heap.push { cls:=.type "list",dict:=none,data:=.seq ([]:List Value).toArray }).objs.size=s.heap.objs.size+1:=Heap.size_push _ _;rw [hsz] at hns₁ hsb₁;have old:∀ b o,s.heap.get? b=some o->h₁.get? b=some o:=λb o e=>hsb₁.extBut b o (λz=>absurd (Heap.lt_size e) (by rw [z];exact Nat.not_lt.mpr (Nat.le_succ _))) (Heap.get?_push_of_some _ (Heap.get?_push_of_some _ e))
 have hacc:h₁.get? s.heap.objs.size=some { cls:=.type "list",data:=.seq ([]:List Value).toArray }:=hsb₁.extBut _ _ (Nat.ne_of_lt (Nat.lt_succ_self _)) (Heap.get?_push_of_some _ (Heap.get?_push_size _ rfl));have hfo:∀ b∈fp,∃ o,s.heap.get? b=some o:=λb hb=>let ⟨o,e,_⟩:=T.obj 0 _ h0 b hb;⟨o,e⟩
 have I0:=Xn (t:=s.toks+([]:List (Str×Value)).length) B I hf hfo hns₁ old hacc;have stat:∀ {H':Hp},(∀ b∈fp,H' b=none)->∀ b∈fp,Hw (blk X N scope (s.heap.objs.size+1) fp s H) [] H' b:=λhn b hb=>by
  obtain ⟨f0,f1,f2,f3,f4,f5⟩:=hf b hb;refine ⟨hn b hb,?_,?_,.inl hb,?_,λp hp=>(by simp [blk] at hp)⟩
  . intro z
    obtain ⟨o,e⟩:=hfo b hb;have:=Heap.lt_size e;rw [show b=s.heap.objs.size+1 from z] at this;exact absurd this (Nat.not_lt.mpr (Nat.le_succ _))
  . intro q
    rcases List.mem_cons.mp (I.Nh b q) with z | z
    . exact f1 z
    . exact f2 z
  . intro x c hc
    exact f4 x c (B.inCells I.ok hc)
 have fr0:∀ b∈fp,upd H s.heap.objs.size (.lst []) b=none:=λb hb=>by obtain ⟨o,e⟩:=hfo b hb;rw [aq (Nat.ne_of_lt (Heap.lt_size e))];exact (hf b hb).1
 have loop:∀ s':Shared,s'={ s with heap:=h₁,toks:=s.toks+([]:List (Str×Value)).length }->codeAny (model X.prog X.w) X.A (.compLoop (.ListComp elt [⟨tg,iter,ifs,0⟩] scope pos) 0 (.ref it) (.ref s.heap.objs.size) (compEnvC scope (vf X.env.cells scope.names []) (s.heap.objs.size+1) X.env))
  (RR (.ref s.heap.objs.size) (s.heap.objs.size+1)) s':=by
  rintro s' rfl;refine Aw (λn s'=>∃ i σ' H',Inv (blk X N scope (s.heap.objs.size+1) fp s H) [] σ' H' s'/\(∀ (j:Nat) v,(σ ++ List.replicate (N.length - X.N.length) none)[j]?=some (some v)->σ'[j]?=some (some v))/\tn i s'.heap/\(∀ b∈fp,H' b=none)/\W i n H') ?_ m0
   ⟨0,_,_,I0,λ_ _ z=>z,T.keep 0 _ _ h0 (λb _ o e=>old b o e),fr0,w0⟩
  rintro n s3 ⟨i,σ3,H3,I3,k3,st3,fr3,w3⟩;have I3':=I3.weak (σ':=σ ++ List.replicate (N.length - X.N.length) none) (by rw [I3.len];exact I0.len) k3;rcases turn i n H3 w3 with ⟨stop,qn⟩ | ⟨go,step⟩
  . refine jb (T.done (blk X N scope (s.heap.objs.size+1) fp s H) rfl rfl rfl hcalm i [] s3 _ H3 (λ_ _=>False) I3' (stat fr3) st3 stop) λr s4 ⟨hr,I4⟩=>?_
    subst hr;exact hRR _ _ _ I4 qn
  . refine jb (T.item (blk X N scope (s.heap.objs.size+1) fp s H) rfl rfl rfl hcalm i [] s3 _ H3 (λ_ _=>False) I3' (stat fr3) st3 go) λr s4 ⟨u,hr,h4⟩=>?_
    subst hr;refine jb h4 λ_ s5 ⟨x,H5,I5,r5,y5,st5,fr5⟩=>?_
    have I5':=I5.pinned (stat fr5) (T.obj _ _ st5);refine jb (hg _ _ _ _ s5 _ H5 x u _ I5' r5 (step x H5 y5)) λ_ s6 ⟨σ6,H6,I6,l6,k6,q6⟩=>?_
    have again:∀ {Qh:List (Addr×Obj)} {H7:Hp} {s7:Shared} {m:Nat},Inv (blk X N scope (s.heap.objs.size+1) fp s H) ([] ++ Gf fp s5.heap) σ6 H7 s7->m < n->W (i+1) m H7 ->
     ∃ m,m < n/\∃ i σ' H',Inv (blk X N scope (s.heap.objs.size+1) fp s H) [] σ' H' s7/\(∀ (j:Nat) v,(σ ++ List.replicate (N.length - X.N.length) none)[j]?=some (some v)->σ'[j]?=some (some v))/\tn i s7.heap/\(∀ b∈fp,H' b=none)/\W i m H':=fun {_ H7 s7 m} I7 hm w7=>by
     refine ⟨m,hm,i+1,σ6,H7,I7.Al,k6,T.keep _ _ _ st5 λb hb o e=>(I7.pin (b,o) (List.mem_append_right _ (List.mem_append_right _ (yu hb e)))).1,λb hb=>?_,w7⟩;obtain ⟨o,e,d⟩:=T.obj _ _ st5 b hb;exact (I7.pin (b,o) (List.mem_append_right _ (List.mem_append_right _ (yu hb e)))).2.1
    have tests:wpAny (model X.prog X.w) X.A (forIn ifs true λc r=>if r=true then do let ok <- isTrue c (compEnvC scope (vf X.env.cells scope.names []) (s.heap.objs.size+1) X.env) (eval c (compEnvC scope (vf X.env.cells scope.names []) (s.heap.objs.size+1) X.env));pure (ForInStep.yield ok) else pure (ForInStep.yield r))
     (TP (blk X N scope (s.heap.objs.size+1) fp s H) ([] ++ Gf fp s5.heap) σ6 λb H3 =>
      if b=true then te σ6 H3 λv H4=>∃ xs m',H4 s.heap.objs.size=some (.lst xs)/\xs.length < sizeLine/\m' < n/\W (i+1) m' (upd H4 s.heap.objs.size (.lst (xs ++ [v]))) else ∃ m',m' < n/\W (i+1) m' H3) (λ_ _=>False) s6:=by
     rcases hc (s.heap.objs.size+1) s H with ⟨rfl,rfl⟩ | ⟨c,rfl,hpt⟩
     . exact wpAny_tests_nil ⟨H6,I6,q6⟩
     . exact wpAny_tests_one (hpt _ s6 σ6 H6 _ I6 q6)
    refine jb tests λok s7 ⟨H7,I7,q7⟩=>?_
    cases ok with
    | false =>
     obtain ⟨m',hm,w7⟩:=(show ∃ m',m' < n/\W (i+1) m' H7 from q7);exact again (Qh:=[]) I7 hm w7
    | true =>
     show wpAny _ _ _ _ _ _;refine jb (he _ _ _ _ s7 σ6 H7 _ I7 q7) λx s8 ⟨v,H8,I8,r8,xs,m',hD,hl,hm,w8⟩=>?_
     refine jb (Lh _ s8 σ6 H8 (.ref s.heap.objs.size) [v] (.ref s.heap.objs.size) [x] (λ_ H'=>W (i+1) m' H') I8 rfl (.cons r8 .nil) ⟨_,xs,v,rfl,rfl,hD,hl,w8⟩) λ_ s9 ⟨_,H9,I9,_,w9⟩=>?_
     exact again (Qh:=[]) I9 hm w9
 rw [hsz];exact codeAny_compStart_list (loop _ rfl) (T.self _ 0 _ _ _ (T.keep 0 _ _ h0 (λb _ o e=>old b o e)) (loop _ rfl))
end
section
variable {X:Cx} {N:List Str} {scope:Scope} {elt tg iter:Expr} {ifs:List Expr} {pos spos:Pos} {wi:TI} {g:TG} {tc:TT} {te:TE}
theorem Vw (B:su X N scope) (hcalm:X.calm=true) (hi:PI X tg iter wi) (hg:∀ C fp s H,PG (blk X N scope C fp s H) tg g) (hc:∀ C fp s H,PTs (blk X N scope C fp s H) ifs tc) (he:∀ C fp s H,PE (blk X N scope C fp s H) elt te)
 (hs:∀ x,foldedSetIterable iter X.env x=pure x):PE X (.ListComp elt [⟨tg,iter,ifs,0⟩] scope pos) (Qz (N.length - X.N.length) wi g tc te):=by
 intro pins s σ H Q I h;rw [eval_ListComp];refine wpAny_comprehension_free (use:=none) rfl hs (B.clos I.ok) B.kind B.locs (jb (hi pins s σ H _ I h) λv s1 h1=>jb h1 λitv s2 h2=>?_);obtain ⟨it,fp,tn,J,H2,rfl,I2,T,st2,f2,q2⟩:=h2;obtain ⟨W,⟨m0,w0⟩,turn⟩:=q2 s2.heap.objs.size (I2.hok.fresh (Nat.le_refl _));refine Jf (RR:=λacc C=>compPost (model X.prog X.w) X.A X.xe none (EP X pins σ Q) acc C) B hcalm I2 f2 T st2 (λC s H=>hg C fp s H) (λC s H=>hc C fp s H) (λC s H=>he C fp s H) W w0 turn ?_;intro σ3 H3 s3 I3 q3;obtain ⟨J3,m,hn⟩:=Ma I2 f2 I3;exact ⟨m,hn,λh' hs'=>⟨.ref s2.heap.objs.size,H3,Xo I2 J3 I3.free hs',rfl,q3⟩⟩
theorem Vx {i:Nat} {y:Str} {py:Pos} (B:su X N scope) (hcalm:X.calm=true) (hi:PI X tg iter wi) (hg:∀ C fp s H,PG (blk X N scope C fp s H) tg g) (hc:∀ C fp s H,PTs (blk X N scope C fp s H) ifs tc) (he:∀ C fp s H,PE (blk X N scope C fp s H) elt te)
 (hs:∀ x,foldedSetIterable iter X.env x=pure x) (hN:X.N.Nodup) (hy:X.N[i]?=some y) (hl:X.env.scope.names.lookup y=some .local)
 (hsw:swapsWith (.ListComp elt [⟨tg,iter,ifs,0⟩] scope pos) (some (.Name y py)) spos.line X.env=pure true) :
 PS X (.Assign [.Name y py] (.ListComp elt [⟨tg,iter,ifs,0⟩] scope pos) spos) (ait (Qz (N.length - X.N.length) wi g tc te) (Va i)):=by
 intro pins s σ H D I h;rw [exec_Assign_Name_used _ _ _ _ hsw];refine wpAny_bind (wpAny_standAt (wpAny_bind ?_));show wpAny _ _ (do let _ <- comprehension (.ListComp elt [⟨tg,iter,ifs,0⟩] scope pos) scope X.env _ (newList []) false (eval iter X.env) (some (assign (.Name y py) X.env))) _ _ s;refine wpAny_bind (wpAny_mono (wpAny_comprehension_free (use:=some (assign (.Name y py) X.env)) (Q:=λ_ s'=>SP X pins D .next s') rfl hs (B.clos I.ok) B.kind B.locs
  (jb (hi pins s σ H _ I h) λv s1 h1=>jb h1 λitv s2 h2=>?_)) (λ_ s' hq=>wpAny_pure (wpAny_pure hq)) λ_ _ e=>e)
 obtain ⟨it,fp,tn,J,H2,rfl,I2,T,st2,f2,q2⟩:=h2;obtain ⟨W,⟨m0,w0⟩,turn⟩:=q2 s2.heap.objs.size (I2.hok.fresh (Nat.le_refl _));refine Jf (RR:=λacc C=>compPost (model X.prog X.w) X.A X.xe (some (assign (.Name y py) X.env)) (λ_ s'=>SP X pins D .next s') acc C) (Q:=λx H1=>Va i x σ H1 D.nx) B hcalm I2 f2 T st2 (λC s H=>hg C fp s H) (λC s H=>hc C fp s H) (λC s H=>he C fp s H) W w0 turn ?_;intro σ3 H3 s3 I3 q3;obtain ⟨J3,m,hn⟩:=Ma I2 f2 I3;have hC3:=I3.free;obtain ⟨oC,_,_,hoC,hdC,_⟩:=id hn;have big:∀ b o,s2.heap.get? b=some o->b≠s2.heap.objs.size+1:=λb o e z=>by have:=Heap.lt_size e;rw [z] at this;exact absurd this (Nat.not_lt.mpr (Nat.le_succ _))
 have neL:s2.heap.objs.size+1≠X.env.locals:=λe=>by obtain ⟨m,⟨o,_,_,ho,_⟩,_⟩:=I2.loc;exact big _ o ho e.symm
 have J4:Inv X (pins ++ [(s2.heap.objs.size+1,oC)]) σ H3 s3:=J3.Eb λp hp=>by
  rcases List.mem_append.mp hp with q | q
  . exact J3.pin p (List.mem_append_right _ q)
  . have e:p=(s2.heap.objs.size+1,oC):=by simpa using q
    subst e;refine ⟨hoC,hC3,neL,λhb=>?_,λv z=>by rw [hdC] at z;cases z⟩;exact I2.ah9 (Nat.le_succ _) hb
 show wpAny (model X.prog X.w) X.A (assign (.Name y py) X.env (.ref s2.heap.objs.size)) _ _ s3;refine jb (Nj (pos:=py) hN hy (.inl hl) (.inr hl) (pins ++ [(s2.heap.objs.size+1,oC)]) s3 σ H3 (.ref s2.heap.objs.size) (.ref s2.heap.objs.size) D.nx J4 rfl q3) λ_ s4 ⟨σ4,H4,I4,q4⟩=>?_
 have pC:=I4.pin (s2.heap.objs.size+1,oC) (List.mem_append_right _ (List.mem_append_right _ (by simp)));refine ⟨m,hn.at' λo e=>by rw [hoC] at e;cases e;exact pC.1,λh' hs'=>⟨σ4,H4,?_,q4⟩⟩;refine (I4.Al).turned (t':=s4.toks) (λb o hb e=>hs'.extBut b o hb e) pC.2.1 neL (.inr (Nat.le_trans I2.sz (Nat.le_succ _))) ?_ ?_
 . intro x c hc
   obtain ⟨v,o,ho,_⟩:=I2.cell x c hc;exact big c o ho
 . intro p hp
   exact big p.1 p.2 (I2.pin p hp).1
end
end L2
namespace Sm
open PySem L2
open MW (Ex ji Qc xg mj bw Lv Tg Res Store MO jz Cp Vm Nx Bm Kx)
section
variable {nm:Nm} {W:jz} {X:Cx} {a b c:Expr} {a' b' c':Ex} {pos:Pos} {ι:Io} {H:Hp} {σ:St} {ρ:En} {M M1 M2:Store} {x y:Dv} {es:List Expr} {es':ji}
theorem aex {t:TE} (h:PT X a (fun σ H Q=>t σ H λx H1=>∃ c,x=.bl c/\Q c H1)) (w:∀ σ H Q,tE nm W X.K a' σ H Q->t σ H Q):PT X a (tQ nm W X.K a') :=
 PT.of h fun σ H Q ι ρ M b M' S R e q=>w σ H _ ⟨ι,ρ,M,_,M',S,R,e,fun ι' H' v le S' r=>by cases r;exact ⟨b,rfl,q ι' H' le S'⟩⟩
theorem ao9 (h:PE X a (tE nm W X.K a')) (he:∀ whole,isTrue a X.env whole=(do let v <- whole;standAt a.pos;holding [v] (truthy v))):PT X a (tQ nm W X.K a') :=
 aex (aii h he) λ_ _ _ q=>q
def Ky (nm:Nm) (K:Fg) (op:Cp):R2:=λv u H Q=>∃ ι M x y b,az nm K ι H M/\Rep K ι H x v/\Rep K ι H y u/\MW.An op x y M=some b/\Q (.bl b) H
theorem Q0 {op':Cp}:∀ σ H Q,tE nm W X.K (.cmp op' a' b') σ H Q->tOp (Ky nm X.K op') (tE nm W X.K a') (tE nm W X.K b') σ H Q:=fun σ H Q hh=>by obtain ⟨ι,ρ,M,d,M',S,R,e,q⟩:=hh;rw [MW.Vr] at e;obtain ⟨x,M1,e1,e⟩:=aa e;obtain ⟨y,M2,e2,e⟩:=aa e;obtain ⟨e,rfl⟩:=cu e;obtain ⟨b,e3,rfl⟩:=Option.map_eq_some_iff.mp e;exact two S R e1 e2 fun ι2 H2 v u le S2 _ rv ru=>⟨ι2,M',x,y,b,S2,rv,ru,e3,q ι2 H2 _ le S2 (.bl b)⟩
theorem apa {op:CmpOp} {op':Cp} (ho:jt X (compareOp op) (Ky nm X.K op')) (ha:PE X a (tE nm W X.K a')) (hb:PE X b (tE nm W X.K b')) (hm:behindInMarks op b=false):PE X (.Compare a [op] [b] pos) (tE nm W X.K (.cmp op' a' b')) :=
 PE.weak (adu ho ha hb hm) Q0
theorem apb {op:CmpOp} {op':Cp} (ho:jt X (compareOp op) (Ky nm X.K op')) (ha:PE X a (tE nm W X.K a')) (hb:PE X b (tE nm W X.K b')) (hm:behindInMarks op b=false):PT X (.Compare a [op] [b] pos) (tQ nm W X.K (.cmp op' a' b')) :=
 aex (t:=tOp (Ky nm X.K op') (tE nm W X.K a') (tE nm W X.K b')) (adw ho ha hb hm) Q0
theorem Jg {op1 op2:Cp}:∀ σ H Q,tE nm W X.K (.chain op1 op2 a' b' c') σ H Q->Nk (Ky nm X.K op1) (Ky nm X.K op2) (tE nm W X.K a') (tE nm W X.K b') (tE nm W X.K c') σ H Q:=fun σ H Q hh=>by
 obtain ⟨ι,ρ,M,d,M',S,R,e,q⟩:=hh;rw [MW.Xg] at e;obtain ⟨x,M1,e1,e⟩:=aa e;obtain ⟨y,M2,e2,e⟩:=aa e;obtain ⟨k,M2',e3,e⟩:=aa e;obtain ⟨e3,rfl⟩:=cu e3;refine two S R e1 e2 fun ι2 H2 v u le S2 R2 rv ru=>⟨ι2,M2',x,y,k,S2,rv,ru,e3,k,rfl,?_⟩
 cases k with
 | false =>
  have e:Res.ok (MW.D.bl false) M2'=.ok d M':=e;cases e;exact q ι2 H2 _ le S2 (.bl false)
 | true =>
  have e:((c'.den W ρ M2').bind λz M3=>Res.ofOpt ((MW.An op2 y z M3).map MW.D.bl) M3)=.ok d M':=e;obtain ⟨z,M3,e4,e⟩:=aa e;obtain ⟨e,rfl⟩:=cu e;obtain ⟨b,e5,rfl⟩:=Option.map_eq_some_iff.mp e;show tE nm W X.K c' σ H2 _;exact one S2 R2 e4 fun ι3 H3 w Mf S3 _ rw=>⟨ι3,M',y,z,b,S3,ru.mono Mf,rw,e5,q ι3 H3 _ (le.trans Mf) S3 (.bl b)⟩
theorem aez {o1 o2:CmpOp} {op1 op2:Cp} (h1:jt X (compareOp o1) (Ky nm X.K op1)) (h2:jt X (compareOp o2) (Ky nm X.K op2)) (ha:PE X a (tE nm W X.K a')) (hb:PE X b (tE nm W X.K b')) (hc:PE X c (tE nm W X.K c')) (hm:lastMarks [o1,o2] [b,c]=false) :
 PE X (.Compare a [o1,o2] [b,c] pos) (tE nm W X.K (.chain op1 op2 a' b' c')):=PE.weak (Zf h1 h2 ha hb hc hm) Jg
theorem ae0 {o1 o2:CmpOp} {op1 op2:Cp} (h1:jt X (compareOp o1) (Ky nm X.K op1)) (h2:jt X (compareOp o2) (Ky nm X.K op2)) (ha:PE X a (tE nm W X.K a')) (hb:PE X b (tE nm W X.K b')) (hc:PE X c (tE nm W X.K c')) (hm:lastMarks [o1,o2] [b,c]=false) :
 PT X (.Compare a [o1,o2] [b,c] pos) (tQ nm W X.K (.chain op1 op2 a' b' c')):=aex (t:=Nk (Ky nm X.K op1) (Ky nm X.K op2) (tE nm W X.K a') (tE nm W X.K b') (tE nm W X.K c')) (Zg h1 h2 ha hb hc hm) Jg
theorem Oa {op:CmpOp} {op':Cp} {f:Int->Int->Bool} (h:jt X (compareOp op) (rI0 λi j=>.bl (f i j))) (e:∀ x y M,MW.An op' x y M=MW.Qv f x y):jt X (compareOp op) (Ky nm X.K op') :=
 jt.weak h λv u H Q hh=>by obtain ⟨ι,M,x,y,b,S,rv,ru,e',q⟩:=hh;rw [e] at e';obtain ⟨i,j,rfl,rfl,e2⟩:=MW.T8 e' (by intro z;cases z);cases rv;cases ru;cases e2;exact ⟨_,_,rfl,rfl,q⟩
theorem auy:jt X (compareOp .Lt) (Ky nm X.K .lt):=Oa anh λ_ _ _=>rfl
theorem auz:jt X (compareOp .LtE) (Ky nm X.K .le):=Oa ani λ_ _ _=>rfl
theorem au0:jt X (compareOp .Gt) (Ky nm X.K .gt):=Oa anj λ_ _ _=>rfl
theorem au1:jt X (compareOp .GtE) (Ky nm X.K .ge):=Oa ank λ_ _ _=>rfl
theorem ahm {rest:List Expr} (ha:PE X a (tE nm W X.K a')) (hb:PE X (.BoolOp .And (b :: rest) pos) (tE nm W X.K b')):PE X (.BoolOp .And (a :: b :: rest) pos) (tE nm W X.K (.and a' b')) :=
 PE.of (aim ha hb) fun σ H Q ι ρ M d M' S R e q=>by
  rw [MW.Vs] at e;obtain ⟨x,M1,e1,e⟩:=aa e;refine one S R e1 fun ι1 H1 v le S1 R1 r=>?_
  cases r<;>try cases e
  rename_i k;refine ⟨k,rfl,?_⟩;cases k with
  | false=>cases e;exact q ι1 H1 _ le S1 (.bl false)|true=>exact one S1 R1 e fun ι2 H2 w le2 S2 _ r2=>q ι2 H2 w (le.trans le2) S2 r2
theorem apc {rest:List Expr} (ha:PE X a (tE nm W X.K a')) (hb:PE X (.BoolOp .Or (b :: rest) pos) (tE nm W X.K b')):PE X (.BoolOp .Or (a :: b :: rest) pos) (tE nm W X.K (.or a' b')) :=
 PE.of (am0 ha hb) fun σ H Q ι ρ M d M' S R e q=>by
  rw [MW.Z5] at e;obtain ⟨x,M1,e1,e⟩:=aa e;refine one S R e1 fun ι1 H1 v le S1 R1 r=>?_
  cases r<;>try cases e
  rename_i k;refine ⟨k,rfl,?_⟩;cases k with
  | true=>cases e;exact q ι1 H1 _ le S1 (.bl true)|false=>exact one S1 R1 e fun ι2 H2 w le2 S2 _ r2=>q ι2 H2 w (le.trans le2) S2 r2
theorem apd (ha:PE X a (tE nm W X.K a')):PE X (.UnaryOp .Not a pos) (tE nm W X.K (.not a')) :=
 PE.of (ain ha) fun σ H Q ι ρ M d M' S R e q=>by
  rw [MW.Vt] at e;obtain ⟨x,M1,e1,e⟩:=aa e;refine one S R e1 fun ι1 H1 v le S1 R1 r=>?_
  cases r<;>try cases e
  exact ⟨_,rfl,q ι1 H1 _ le S1 (.bl _)⟩
theorem K8 {G:Bool->Hp->Prop} {k:Bool} (S:az nm X.K ι H M) (R:cg X.K ι H ρ σ) (ha:a'.den W ρ M=.ok (.bl k) M1)
 (h:∀ ι1 H1,Le ι H ι1 H1->az nm X.K ι1 H1 M1->cg X.K ι1 H1 ρ σ->G k H1):tQ nm W X.K a' σ H G :=
 ⟨ι,ρ,M,k,M1,S,R,ha,fun ι' H' le S'=>h ι' H' le S' (R.mono le)⟩
theorem ahn {rest:List Expr} (ha:PT X a (tQ nm W X.K a')) (hb:PW X (.BoolOp .And (b :: rest) pos) (tQ nm W X.K b')):PW X (.BoolOp .And (a :: b :: rest) pos) (tQ nm W X.K (.and a' b')) :=
 λwhole pins s σ H Q I ⟨ι,ρ,M,d,M',S,R,e,q⟩=>aik ha hb whole pins s σ H Q I (by
  rw [MW.Vs] at e;obtain ⟨x,M1,e1,e⟩:=aa e;cases x<;>try cases e
  rename_i k;refine K8 S R e1 fun ι1 H1 le S1 R1=>?_
  cases k with
  | false=>cases e;exact q ι1 H1 le S1|true=>exact K8 S1 R1 e fun ι2 H2 le2 S2 _=>q ι2 H2 (le.trans le2) S2)
theorem ape {rest:List Expr} (ha:PT X a (tQ nm W X.K a')) (hb:PW X (.BoolOp .Or (b :: rest) pos) (tQ nm W X.K b')):PW X (.BoolOp .Or (a :: b :: rest) pos) (tQ nm W X.K (.or a' b')) :=
 λwhole pins s σ H Q I ⟨ι,ρ,M,d,M',S,R,e,q⟩=>amx ha hb whole pins s σ H Q I (by
  rw [MW.Z5] at e;obtain ⟨x,M1,e1,e⟩:=aa e;cases x<;>try cases e
  rename_i k;refine K8 S R e1 fun ι1 H1 le S1 R1=>?_
  cases k with
  | true=>cases e;exact q ι1 H1 le S1|false=>exact K8 S1 R1 e fun ι2 H2 le2 S2 _=>q ι2 H2 (le.trans le2) S2)
theorem apf (ha:PT X a (tQ nm W X.K a')):PT X (.UnaryOp .Not a pos) (tQ nm W X.K (.not a')) :=
 PT.of (ail ha) fun σ H Q ι ρ M d M' S R e q=>by
  rw [MW.Vt] at e;obtain ⟨x,M1,e1,e⟩:=aa e;cases x<;>try cases e
  exact K8 S R e1 fun ι1 H1 le S1 R1=>q ι1 H1 le S1
theorem apg (hc:PT X c (tQ nm W X.K c')) (ha:PE X a (tE nm W X.K a')) (hb:PE X b (tE nm W X.K b')):PE X (.IfExp c a b pos) (tE nm W X.K (.ite c' a' b')) :=
 PE.of (Y6 hc ha hb) fun σ H Q ι ρ M d M' S R e q=>by
  rw [MW.aeg] at e;obtain ⟨x,M1,e1,e⟩:=aa e;cases x<;>try cases e
  rename_i k;refine K8 S R e1 fun ι1 H1 le S1 R1=>?_
  cases k with
  | true=>exact one S1 R1 e fun ι2 H2 w le2 S2 _ r2=>q ι2 H2 w (le.trans le2) S2 r2
  | false=>exact one S1 R1 e fun ι2 H2 w le2 S2 _ r2=>q ι2 H2 w (le.trans le2) S2 r2
theorem Jh:PA X [] (Lz nm W X.K .nil):=PA.of ai8 fun σ H Q ι ρ M ds M' S R e q=>by rw [MW.Aq] at e;cases e;exact q ι H _ (Le.refl _ _) S .nil
theorem Ji {G:List V->Hp->Prop} {ds:List Dv} (S:az nm X.K ι H M) (R:cg X.K ι H ρ σ) (ha:es'.den W ρ M=.ok ds M1)
 (h:∀ ι1 H1 vs,Le ι H ι1 H1->az nm X.K ι1 H1 M1->cg X.K ι1 H1 ρ σ->bc X.K ι1 H1 ds vs->G vs H1):Lz nm W X.K es' σ H G :=
 ⟨ι,ρ,M,ds,M1,S,R,ha,fun ι' H' v le S' r=>h ι' H' v le S' (R.mono le) r⟩
theorem Ax (ha:PE X a (tE nm W X.K a')) (hr:PA X es (Lz nm W X.K es')) (hs:starEach (a :: es) X.env=(false,eval a X.env) :: starEach es X.env):PA X (a :: es) (Lz nm W X.K (.cons a' es')) :=
 PA.of (adz ha hr hs) fun σ H Q ι ρ M ds M' S R e q=>by rw [MW.m6] at e;obtain ⟨x,M1,e1,e⟩:=aa e;obtain ⟨xs,M2,e2,e⟩:=aa e;cases e;exact one S R e1 fun ι1 H1 v le S1 R1 r1=>Ji S1 R1 e2 fun ι2 H2 vs le2 S2 R2 r2=>q ι2 H2 _ (le.trans le2) S2 (.cons (r1.mono le2) r2)
def ji.len:ji->Nat
 | .nil=>0|.cons _ r=>ji.len r+1
theorem um:∀ {es':ji} {ρ:En} {M M1:Store} {ds:List Dv},es'.den W ρ M=.ok ds M1->ds.length=ji.len es'
 | .nil,_,_,_,_,e=>by rw [MW.Aq] at e;cases e;rfl
 | .cons _ r,_,_,_,_,e=>by
  rw [MW.m6] at e;obtain ⟨x,M1,e1,e⟩:=aa e;obtain ⟨xs,M2,e2,e⟩:=aa e;cases e;rw [List.length_cons,um e2];rfl
theorem aph {k:Nat} (h:PA X es (Lz nm W X.K es')) (hl:ji.len es' <= 1000):PE X (.Tuple es k pos) (tE nm W X.K (.tup es')) :=
 PE.of (ai9 h) fun σ H Q ι ρ M d M' S R e q=>by
  rw [MW.aeh] at e;obtain ⟨ds,M1,e1,e⟩:=aa e;cases e;refine Ji S R e1 fun ι1 H1 vs le S1 R1 r=>⟨?_,λp hp=>?_⟩
  . rw [<- r.length,um e1];exact Nat.le_trans hl (by decide)
  . obtain ⟨S2,le2,r2⟩:=za S1 hp r
    exact q ι1 _ _ (le.trans le2) S2 r2
theorem ajx (h:PA X es (Lz nm W X.K es')) (hl:ji.len es' <= 1000):PE X (.List es pos) (tE nm W X.K (.xj es')) :=
 PE.of (Zj h) fun σ H Q ι ρ M d M' S R e q=>by
  rw [MW.Z6] at e;obtain ⟨ds,M1,e1,e⟩:=aa e;cases e;refine Ji S R e1 fun ι1 H1 vs le S1 R1 r=>⟨?_,λp hp=>?_⟩
  . rw [<- r.length,um e1];exact Nat.le_trans hl (by decide)
  . obtain ⟨S2,le2,r2⟩:=Ud S1 hp r
    exact q ι1 _ _ (le.trans le2) S2 r2
theorem api (h:PA X es (Lz nm W X.K es')) (hl:ji.len es' <= 1000):PE X (.List es pos) (tE nm W X.K (.lst es')) :=
 PE.of (Zj h) fun σ H Q ι ρ M d M' S R e q=>by
  rw [MW.aei] at e;obtain ⟨ds,M1,e1,e⟩:=aa e;cases e;refine Ji S R e1 fun ι1 H1 vs le S1 R1 r=>⟨?_,λp hp=>?_⟩
  . rw [<- r.length,um e1];exact Nat.le_trans hl (by decide)
  . obtain ⟨S2,le2,r2⟩:=Vv S1 hp r
    exact q _ _ _ (le.trans le2) S2 r2
theorem apj (ha:PE X a (tE nm W X.K a')):PE X (.UnaryOp .USub a pos) (tE nm W X.K (.neg a')) :=
 PE.of (anc ai4 ha) fun σ H Q ι ρ M d M' S R e q=>by
  rw [MW.aef] at e;obtain ⟨x,M1,e1,e⟩:=aa e;refine one S R e1 fun ι1 H1 v le S1 R1 r=>?_
  cases r<;>try cases e
  exact ⟨_,rfl,q ι1 H1 _ le S1 (.int _)⟩
end
open PyProof.Rows (subscriptTail)
section
variable {κ:Type} [DecidableEq κ] {K:Fg} {ι:Io} {H:Hp}
theorem bu.length {κ κ':Type} {f:κ->κ'->Prop}:∀ {l:List (κ×Dv)} {l':List (κ'×V)},bu K ι H f l l'->l.length=l'.length
 | _,_,.nil=>rfl|_,_,.cons _ _ t=>by rw [List.length_cons,List.length_cons,bu.length t]
theorem bu.look {k:κ}:∀ {kvs:List (κ×Dv)} {l:List (κ×V)},bu K ι H (λk k'=>k=k') kvs l->(∀ d,MW.jo kvs k=some d->∃ v,Ef l k=some v/\Rep K ι H d v)/\(MW.jo kvs k=none->Ef l k=none)
 | _,_,.nil=>⟨λd h=>by simp [MW.jo] at h,λ_=>rfl⟩
 | _,_,.cons (k:=q) (k':=q') hk h t=>by
  subst hk;obtain ⟨a,b⟩:=bu.look (k:=k) t
  by_cases e:q=k
  . refine ⟨λd hd=>?_,λhd=>?_⟩
    . simp [MW.jo,List.find?_cons,e] at hd
      subst hd;exact ⟨_,Eg e,h⟩
    . simp [MW.jo,List.find?_cons,e] at hd
  . have z:∀ (d:Dv) r,MW.jo ((q,d) :: r) k=MW.jo r k:=λd r=>by simp [MW.jo,List.find?_cons,e]
    rw [z,Eh (by exact e)];exact ⟨a,b⟩
theorem bu.any {k:κ}:∀ {kvs:List (κ×Dv)} {l:List (κ×V)},bu K ι H (λk k'=>k=k') kvs l->(kvs.any λkv=>decide (kv.1=k))=(l.any λkv=>decide (kv.1=k))
 | _,_,.nil=>rfl|_,_,.cons hk h t=>by subst hk;simp only [List.any_cons,bu.any t]
theorem bu.repl {k:κ} {d:Dv} {v:V} (r:Rep K ι H d v):∀ {kvs:List (κ×Dv)} {l:List (κ×V)},bu K ι H (λk k'=>k=k') kvs l ->
 bu K ι H (λk k'=>k=k') (kvs.map λkv=>if kv.1=k then (kv.1,d) else kv) (l.map λkv=>if kv.1=k then (kv.1,v) else kv)
 | _,_,.nil=>.nil
 | _,_,.cons (k:=q) hk h t=>by
  subst hk;simp only [List.map_cons]
  by_cases e:q=k
  . simp only [e,if_true];exact .cons rfl r (bu.repl r t)
  . simp only [e,if_false];exact .cons rfl h (bu.repl r t)
theorem bu.snoc {κ κ':Type} {f:κ->κ'->Prop} {k:κ} {k':κ'} {d:Dv} {v:V} (hk:f k k') (r:Rep K ι H d v):∀ {l:List (κ×Dv)} {l':List (κ'×V)},bu K ι H f l l'->bu K ι H f (l ++ [(k,d)]) (l' ++ [(k',v)])
 | _,_,.nil=>.cons hk r .nil|_,_,.cons q h t=>.cons q h (bu.snoc hk r t)
theorem bu.put {k:κ} {d:Dv} {v:V} (r:Rep K ι H d v) {kvs:List (κ×Dv)} {l:List (κ×V)} (t:bu K ι H (λk k'=>k=k') kvs l):bu K ι H (λk k'=>k=k') (MW.Aa kvs k d) (putK l k v):=by
 unfold MW.Aa putK;rw [t.any (k:=k)]
 by_cases e:(l.any λkv=>decide (kv.1=k))=true
 . rw [if_pos e,if_pos e];exact t.repl r
 . rw [if_neg e,if_neg e];exact t.snoc rfl r
theorem bu.fld {nm:Nm} {f:Nat}:∀ {fs:List (Nat×Dv)} {l:List (Str×V)},bu K ι H (λk k'=>k'=nm.fld k) fs l->(∀ d,fs.lookup f=some d->∃ v,l.lookup (nm.fld f)=some v/\Rep K ι H d v)/\(fs.lookup f=none->l.lookup (nm.fld f)=none)
 | _,_,.nil=>⟨λd h=>by simp at h,λ_=>rfl⟩
 | _,_,.cons (k:=q) (k':=q') hk h t=>by
  subst hk;obtain ⟨a,b⟩:=bu.fld (nm:=nm) (f:=f) t;rw [List.lookup_cons,List.lookup_cons]
  by_cases e:f=q
  . subst e
    simp only [beq_self_eq_true];exact ⟨λd hd=>by cases hd;exact ⟨_,rfl,h⟩,λhd=>by cases hd⟩
  . have e1:(f == q)=false:=by simpa using e
    have e2:(nm.fld f == nm.fld q)=false:=by
     cases z:nm.fld f == nm.fld q with
     | false=>rfl|true=>exact absurd (nm.inj _ _ (eq_of_beq z)) e
    rw [e1,e2];exact ⟨a,b⟩
theorem bu.u5 {nm:Nm} {f:Nat} {d:Dv} {v:V} (r:Rep K ι H d v):∀ {fs:List (Nat×Dv)} {l:List (Str×V)},bu K ι H (λk k'=>k'=nm.fld k) fs l->bu K ι H (λk k'=>k'=nm.fld k) (MW.Hd f d fs) (L2.u5 (nm.fld f) v l)
 | _,_,.nil=>.cons rfl r .nil
 | _,_,.cons (k:=q) (k':=q') hk h t=>by
  subst hk;unfold MW.Hd L2.u5
  by_cases e:q=f
  . subst e
    simp only [if_true];exact .cons rfl r t
  . have e2:¬ nm.fld q=nm.fld f:=λz=>e (nm.inj _ _ z)
    rw [if_neg e,if_neg e2];exact .cons rfl h (bu.u5 r t)
theorem Jj {d:Dv} {v:V} {k:Kx} (r:Rep K ι H d v) (h:MW.K7 d=some k):v=kV k:=by cases r<;>simp [MW.K7] at h<;>subst h<;>rfl
theorem aai:∀ {ds:List Dv} {vs:List V} {ks:List Kx},bc K ι H ds vs->MW.Ny ds=some ks->vs=ks.map kV
 | _,_,_,.nil,h=>by simp [MW.Ny] at h;subst h;rfl
 | _,_,_,.cons r t,h=>by
  simp only [MW.Ny] at h;split at h
  . rename_i k ks' h1 h2
    cases h;rw [Jj r h1,aai t h2];rfl
  . cases h
theorem Jk {d:Dv} {v:V} {ks:List Kx} (r:Rep K ι H d v) (h:MW.Gj d=some ks):∃ b,v=.ref b/\H b=some (.tup (ks.map kV)):=by
 cases r with
 | tup e r=>exact ⟨_,rfl,by rw [<- aai r h];exact e⟩|_=>simp [MW.Gj] at h
end
section
variable {nm:Nm} {W:jz} {X:Cx} {a b c:Expr} {a' b' c':Ex} {pos:Pos} {ι:Io} {H:Hp} {σ:St} {ρ:En} {M M1 M2:Store} {x y:Dv} {es:List Expr} {es':ji}
def au2 (nm:Nm) (K:Fg):R2:=λv u H Q=>∃ ι M x y d,az nm K ι H M/\Rep K ι H x v/\Rep K ι H y u/\MW.jm x y M=some d/\∀ w,Rep K ι H d w->Q w H
theorem aaj (hu:X.A.units+1 < cLine):IxR X (λx y H Q=>∃ a v,x=.ref a/\Di H a y (some v)/\Q v H):=by intro value slice pins s σ H x y v u Q I rx ry h hs;obtain ⟨p,z,rfl,g,q⟩:=h;cases rx;exact PyProof.Rows.tail_any (Qs I g) PySem.F.slot_dict_getitem.lookup (Xa hu I g ry λw' s' I' r=>⟨z,H,I',r,q⟩) hs
theorem ajy (hu:X.A.units+1 < cLine):IxR X (au2 nm X.K):=by
 intro value slice pins s σ H v u v' u' Q I rv ru ⟨ι,M,x,y,d,S,rx,ry,e,q⟩ hs;have seq:∀ (p:Addr) (vs:List V) (ds:List Dv),v=.ref p->(uh X.K H p vs \/ yt X.K H p vs)->bc X.K ι H ds vs->(match y with | .int i=>(MW.Iv ds.length i).bind λj=>ds[j]? | _=>none)=some d ->
  wpAny (model X.prog X.w) X.A (subscriptTail value slice v' u') (EP X pins σ Q) X.xe s:=λp vs ds hv hq r e=>by
  subst hv;obtain ⟨i,hyi⟩:∃ i,y=.int i:=by cases y<;>first | exact ⟨_,rfl⟩ | cases e
  subst hyi;cases ry;obtain ⟨j,e1,e2⟩:=Option.bind_eq_some_iff.mp e;obtain ⟨z,h1,h2⟩:=r.get e2;have hat:atI vs i=some z:=by unfold atI;rw [show ixN vs.length i=some j from by rw [<- r.length];exact e1];exact h1
  rcases hq with hq | hq
  . exact L2.uc value slice pins s σ H _ _ v' u' Q I rv ru ⟨p,vs,i,z,rfl,rfl,hq,hat,q z h2⟩ hs
  . exact L2.Dg value slice pins s σ H _ _ v' u' Q I rv ru ⟨p,vs,i,z,rfl,rfl,hq,hat,q z h2⟩ hs
 cases rx with
 | tup e1 r1=>exact seq _ _ _ rfl (.inr (yt.of e1)) r1 (by cases ry<;>first | exact e | (simp [MW.jm,MW.gr] at e))
 | vl e1 n1 r1=>exact seq _ _ _ rfl (.inl (uh.of e1)) r1 (by cases ry<;>first | exact e | (simp [MW.jm,MW.gr,MW.asList] at e))
 | fz e1 r1=>exact seq _ _ _ rfl (.inl e1.sq) r1 (by cases ry<;>first | exact e | (simp [MW.jm] at e))
 | ref e1 =>
  rename_i n p;simp only [MW.jm] at e;split at e
  . rename_i kvs hn
    obtain ⟨l,h1,h2⟩:=S.obj n _ p hn e1;obtain ⟨k,e2,e3⟩:=Option.bind_eq_some_iff.mp e;obtain ⟨z,h3,h4⟩:=(h2.look (k:=k)).1 d e3;obtain ⟨b,rfl,hb⟩:=Jk ry e2;exact aaj hu value slice pins s σ H _ _ v' u' Q I rv ru ⟨p,z,rfl,by rw [<- h3];exact Di.t h1 hb,q z h4⟩ hs
  . rename_i kvs hn
    obtain ⟨l,h1,h2⟩:=S.obj n _ p hn e1;obtain ⟨k,e2,e3⟩:=Option.bind_eq_some_iff.mp e;obtain ⟨z,h3,h4⟩:=(h2.look (k:=k)).1 d e3;have hy:=Jj ry e2;subst hy;exact aaj hu value slice pins s σ H _ _ v' u' Q I rv ru ⟨p,z,rfl,by rw [<- h3];exact Di.k h1,q z h4⟩ hs
  . cases hl:MW.asList M (.ref n) with
    | none=>rw [hl] at e;cases e
    | some ds =>
     obtain ⟨p',vs,hp,h1,h2⟩:=dg S (.ref e1) hl;cases hp;rw [hl] at e;exact seq _ _ _ rfl (.inl (uh.of h1)) h2 (by cases ry<;>first | exact e | cases e)
 | _=>simp [MW.jm,MW.gr,MW.asList] at e
theorem au3 (hu:X.A.units+1 < cLine) (ha:PE X a (tE nm W X.K a')) (hb:PE X b (tE nm W X.K b')) (hs:Nr b):PE X (.Subscript a b pos) (tE nm W X.K (.ix a' b')) :=
 PE.of (anw (ajy (nm:=nm) hu) ha hb hs) fun σ H Q ι ρ M d M' S R e q=>by rw [MW.ajk] at e;obtain ⟨x,M1,e1,e⟩:=aa e;obtain ⟨y,M2,e2,e⟩:=aa e;obtain ⟨e,rfl⟩:=cu e;exact two S R e1 e2 fun ι2 H2 v u le S2 _ rv ru=>⟨ι2,M',x,y,d,S2,rv,ru,e,λw r=>q ι2 H2 w le S2 r⟩
theorem apk {f:Nat} {n:Str} (hn:n=nm.fld f) (hcl:∀ c C,nm.cls c=some C->Qa X.K C/\ql X.K C n) (ha:PE X a (tE nm W X.K a')) (hb:attributeBase a n X.env (eval a X.env)=eval a X.env):PE X (.Attribute a n pos) (tE nm W X.K (.fld a' f)) :=
 PE.of (ai6 ha hb) fun σ H Q ι ρ M d M' S R e q=>by
  rw [MW.aek] at e;obtain ⟨x,M1,e1,e⟩:=aa e;obtain ⟨e,rfl⟩:=cu e;refine one S R e1 fun ι1 H1 v le S1 R1 r=>?_
  obtain ⟨m,hxm⟩:∃ m,x=.ref m:=by cases x<;>first | exact ⟨_,rfl⟩ | cases e
  subst hxm;obtain ⟨p,rfl,hp⟩:∃ p,v=.ref p/\ι1.l[m]?=some p:=by cases r with | ref z=>exact ⟨_,rfl,z⟩
  simp only [MW.Ej] at e;split at e
  . rename_i c fs hm
    obtain ⟨C,dx,l,h1,h2,h3⟩:=S1.obj m _ p hm hp;obtain ⟨z,h4,h5⟩:=(h3.fld (nm:=nm) (f:=f)).1 d e;subst hn;obtain ⟨g1,g2⟩:=hcl c C h1;exact ⟨p,C,dx,l,z,rfl,h2,g1,g2,h4,q ι1 H1 z le S1 h5⟩
  . cases e
end
open MW (Ex ji Qc xg mj bw Lv Tg Res Store MO jz Cp Vm Nx Bm Kx Src)
def zb:Expr->Bool
 | .ListComp ..=>false|.SetComp ..=>false|.DictComp ..=>false|_=>true
theorem Ay {e:Expr} (h:zb e=true) (t:Option Expr) (l:Nat) (env:Env):swapsWith e t l env=pure false:=by cases e<;>first | rfl | (simp [zb] at h)
def qg:Expr->Bool
 | .Set ..=>false|_=>true
theorem j7 {e:Expr} (h:qg e=true) (env:Env) (x:Value):foldedSetIterable e env x=pure x:=by cases e<;>first | rfl | (simp [qg] at h)
theorem Hh {e:Expr} (h:qg e=true) (op:CmpOp):behindInMarks op e=false:=by cases e<;>first | rfl | (simp [qg] at h)
def aho:Expr->Bool
 | .Tuple ..=>false|_=>true
def noStar:Expr->Bool
 | .Starred ..=>false|_=>true
theorem bh {e:Expr} (h:noStar e=true) (es:List Expr) (env:Env):starEach (e :: es) env=(false,eval e env) :: starEach es env:=by cases e<;>first | rfl | (simp [noStar] at h)
def Ig:Expr->Bool
 | .Slice ..=>false|_=>true
theorem aak {e:Expr} (h:Ig e=true):Nr e:=by intro o i;cases e<;>first | rfl | (simp [Ig] at h)
section
variable {nm:Nm} {W:jz} {X:Cx} {a b c:Expr} {a' b' c':Ex} {pos pos':Pos} {ι:Io} {H:Hp} {σ:St} {ρ:En} {M M1 M2:Store} {x y:Dv} {es:List Expr} {es':ji}
def jc:Tg->List Nat
 | .name i=>[i]|.names is=>is
def Vy (nm:Nm) (K:Fg) (t:Tg):TG:=λv σ H Q=>∃ ι ρ M d ρ',az nm K ι H M/\cg K ι H ρ σ/\Rep K ι H d v/\t.put d ρ=some ρ'/\∀ σ',cg K ι H ρ' σ'->σ'.length=σ.length->(∀ j,j ∉ jc t->σ'[j]?=σ[j]?)->Q σ' H
theorem PG.weak {tg:Expr} {t t':TG} (h:PG X tg t) (w:∀ v σ H Q,t' v σ H Q->t v σ H Q):PG X tg t':=λpins s σ H v u Q I r q=>h pins s σ H v u Q I r (w v σ H Q q)
theorem PG.of {tg:Expr} {tt:Tg} {t:TG} (h:PG X tg t) (w:∀ v σ H Q ι ρ M d ρ',az nm X.K ι H M->cg X.K ι H ρ σ->Rep X.K ι H d v->tt.put d ρ=some ρ'->(∀ σ',cg X.K ι H ρ' σ'->σ'.length=σ.length->(∀ j,j ∉ jc tt->σ'[j]?=σ[j]?)->Q σ' H)->t v σ H Q):PG X tg (Vy nm X.K tt) :=
 PG.weak h λv σ H Q ⟨ι,ρ,M,d,ρ',S,R,r,e,q⟩=>w v σ H Q ι ρ M d ρ' S R r e q
theorem aj0 {i:Nat} {n:Str} (hN:X.N.Nodup) (hi:X.N[i]?=some n) (hx:Loc X.env.scope n) (hf:X.fn n=true \/ X.env.scope.names.lookup n=some .local):PG X (.Name n pos) (Vy nm X.K (.name i)) :=
 PG.of (Nj hN hi hx hf) λv σ H Q ι ρ M d ρ' S R r e q=>by cases e;exact q _ (R.set r i) (by simp) λj hj=>List.getElem?_set_ne (λz=>hj (by simp [jc,z]))
def zc:List Nat->List V->St->St
 | i :: is,v :: vs,σ=>zc is vs (σ.set i (some v))|_,_,σ=>σ
theorem Jl {K:Fg}:∀ {is:List Nat} {ds:List Dv} {vs:List V} {ρ:En} {σ:St},cg K ι H ρ σ->bc K ι H ds vs->cg K ι H (MW.Dl is ds ρ) (zc is vs σ)
 | [],_,_,_,_,R,r=>by cases r<;>exact R|_ :: _,_,_,_,_,R,.nil=>R|i :: is,_,_,_,_,R,.cons h t=>Jl (is:=is) (R.set h i) t
theorem Ep:∀ {is:List Nat} {vs:List V} {σ:St} {j:Nat},j ∉ is->(zc is vs σ)[j]?=σ[j]?
 | [],vs,σ,j,_=>by cases vs<;>rfl|i :: is,[],σ,j,_=>rfl
 | i :: is,v :: vs,σ,j,h=>by
  show (zc is vs (σ.set i (some v)))[j]?=_;rw [Ep (λz=>h (List.mem_cons_of_mem _ z)),List.getElem?_set_ne (λz=>h (by rw [z];exact List.mem_cons_self))]
theorem Hi:∀ {is:List Nat} {vs:List V} {σ:St},(zc is vs σ).length=σ.length
 | [],vs,σ=>by cases vs<;>rfl|_ :: _,[],σ=>rfl|i :: is,v :: vs,σ=>by show (zc is vs (σ.set i (some v))).length=_;rw [Hi,List.length_set]
inductive zf (X:Cx):List Expr->List Nat->Prop
 | nil:zf X [] []
 | cons {n:Str} {p:Pos} {i:Nat} {ts:List Expr} {is:List Nat} (hi:X.N[i]?=some n) (hx:Loc X.env.scope n) (hf:X.fn n=true \/ X.env.scope.names.lookup n=some .local) (t:zf X ts is):zf X (.Name n p :: ts) (i :: is)
theorem Q3 (hN:X.N.Nodup):∀ {ts:List Expr} {is:List Nat},zf X ts is->PGs X ts (λvs σ H Q=>vs.length=is.length/\Q (zc is vs σ) H)
 | _,_,.nil=>λpins s σ H vs us Q I r q=>by
  obtain ⟨h1,h2⟩:=q;have hv:vs=[]:=List.length_eq_zero_iff.mp h1;subst hv;exact ado pins s σ H [] us Q I r ⟨rfl,h2⟩
 | _,_,.cons hi hx hf t=>λpins s σ H vs us Q I r q=>by
  obtain ⟨h1,h2⟩:=q;cases vs with
  | nil=>simp at h1|cons v vs=>exact Y8 (Nj hN hi hx hf) (Q3 hN t) (by rfl) pins s σ H (v :: vs) us Q I r ⟨v,vs,rfl,by simpa using h1,h2⟩
theorem m7 {env:Env}:∀ {ts:List Expr} {is:List Nat},zf X ts is->(assignEach ts env).length=is.length/\(assignEach ts env).findIdx? (·.1)=none
 | _,_,.nil=>⟨rfl,rfl⟩
 | _,_,.cons hi hx hf t=>by
  obtain ⟨g1,g2⟩:=m7 (env:=env) t;refine ⟨by simp [assignEach,g1],?_⟩;simp [assignEach,List.findIdx?_cons];simpa using g2
theorem ae1 {ts:List Expr} {is:List Nat} {k:Nat} (hc:X.calm=true) (hN:X.N.Nodup) (h:zf X ts is):PG X (.Tuple ts k pos) (Vy nm X.K (.names is)) :=
 PG.of (air hc (Q3 hN h) (m7 h).1 (m7 h).2) λv σ H Q ι ρ M d ρ' S R r e q=>by
  cases r with
  | tup e1 r1 =>
   simp only [Tg.put] at e;split at e<;>cases e;rename_i hl;exact ⟨_,_,rfl,yt.of e1,by rw [<- r1.length];exact hl,by rw [<- r1.length];exact hl,q _ (Jl R r1) Hi λj hj=>Ep hj⟩
  | _=>simp [Tg.put] at e
theorem aal {tg:Expr} {t:Tg} (he:PE X a (tE nm W X.K a')) (hg:PG X tg (Vy nm X.K t)) (hs:swapsWithSole [tg] a pos.line X.env=pure false) (hw:swappedStores [tg] a X.env=pure none) (h1:(assignEach [tg] X.env).map (·.2)=[assign tg X.env]) :
 PS X (.Assign [tg] a pos) (tS nm W X.K (.asg (.tg t) a')) :=
 PS.of (Y9 he hg hs hw h1) λD σ H ι ρ M fl ρ' M' S R e q=>by rw [MW.N8] at e;obtain ⟨x,M1,e1,e⟩:=aa e;obtain ⟨ρ2,M2,e2,e⟩:=aa e;cases e;rw [MW.aad] at e2;obtain ⟨e3,e4⟩:=cu e2;subst e4;exact one S R e1 fun ι1 H1 v le S1 R1 r=>⟨ι1,ρ,_,x,ρ',S1,R1,r,e3,fun σ' R' _ _=>q ι1 H1 σ' le S1 R'⟩
theorem aj1 (he:PE X a (tE nm W X.K a')) (hs:swapsWith a none pos.line X.env=pure false):PS X (.Expr a pos) (tS nm W X.K (.expr a')) :=
 PS.of (adm he hs) λD σ H ι ρ M fl ρ' M' S R e q=>by rw [MW.aem] at e;obtain ⟨x,M1,e1,e⟩:=aa e;cases e;exact one S R e1 fun ι1 H1 v le S1 R1 r=>q ι1 H1 σ le S1 R1
theorem apl (he:PE X a (tE nm W X.K a')):PS X (.Return (some a) pos) (tS nm W X.K (.ret a')) :=
 PS.of (aio he) λD σ H ι ρ M fl ρ' M' S R e q=>by rw [MW.ajn] at e;obtain ⟨x,M1,e1,e⟩:=aa e;cases e;exact one S R e1 fun ι1 H1 v le S1 R1 r=>q ι1 H1 σ le S1 R1 v r
theorem aj2:PS X (.Continue pos) (tS nm W X.K .cont) :=
 PS.of Ql λD σ H ι ρ M fl ρ' M' S R e q=>by rw [MW.aen] at e;cases e;exact q ι H σ (Le.refl _ _) S R
theorem Jc.mono {D:Ends} {ι':Io} {H':Hp} {fl:MW.Flow} (le:Le ι H ι' H') (q:Jc nm X.K D ι H fl ρ M):Jc nm X.K D ι' H' fl ρ M:=fun ι2 H2 σ2 le2 S2 R2=>q ι2 H2 σ2 (le.trans le2) S2 R2
theorem apm {ts fs:List Stmt} {ts' fs':bw} (hc:PT X c (tQ nm W X.K c')) (ht:Ec X ts (tSs nm W X.K ts')) (hf:Ec X fs (tSs nm W X.K fs')):PS X (.If c ts fs pos) (tS nm W X.K (.iff c' ts' fs')) :=
 PS.of (am5 hc ht hf) λD σ H ι ρ M fl ρ' M' S R e q=>by
  rw [MW.ajm] at e;obtain ⟨x,M1,e1,e⟩:=aa e;cases x<;>try cases e
  rename_i k;refine K8 S R e1 fun ι1 H1 le S1 R1=>?_
  cases k with
  | true=>exact ⟨ι1,ρ,M1,fl,ρ',M',S1,R1,e,q.mono le⟩|false=>exact ⟨ι1,ρ,M1,fl,ρ',M',S1,R1,e,q.mono le⟩
theorem aj3:Ec X [] (tSs nm W X.K .nil):=Ec.of adl λD σ H ι ρ M fl ρ' M' S R e q=>by rw [MW.aeo] at e;cases e;exact q ι H σ (Le.refl _ _) S R
theorem ae2 {st:Stmt} {rest:List Stmt} {st':mj} {rest':bw} (h1:PS X st (tS nm W X.K st')) (h2:Ec X rest (tSs nm W X.K rest')):Ec X (st :: rest) (tSs nm W X.K (.cons st' rest')) :=
 Ec.of (Y7 h1 h2) λD σ H ι ρ M fl ρ' M' S R e q=>by
  rw [MW.aac] at e;obtain ⟨⟨fl1,ρ1⟩,M1,e1,e⟩:=aa e;refine ⟨ι,ρ,M,fl1,ρ1,M1,S,R,e1,fun ι1 H1 σ1 le S1 R1=>?_⟩;cases fl1 with
  | next=>exact ⟨ι1,ρ1,M1,fl,ρ',M',S1,R1,e,q.mono le⟩|brk=>cases e;exact q ι1 H1 σ1 le S1 R1|cont=>cases e;exact q ι1 H1 σ1 le S1 R1|ret d=>cases e;exact q ι1 H1 σ1 le S1 R1
theorem apn {body:List Stmt} {Er:bw} (hp:PassesOwn (model X.prog X.w) X.A X.env X.xe) (hc:PT X c (tQ nm W X.K c')) (hb:Ec X body (tSs nm W X.K Er)):PS X (.While c body [] pos) (tS nm W X.K (.whl c' Er)) :=
 PS.of (Za hp hc hb) λD σ H ι ρ M fl ρ' M' S R e q=>by
  rw [MW.Ua] at e;refine ⟨λm σ1 H1=>∃ ι1 ρ1 M1,Le ι H ι1 H1/\az nm X.K ι1 H1 M1/\cg X.K ι1 H1 ρ1 σ1/\MW.qb (c'.den W) (Er.den W) m ρ1 M1=.ok (fl,ρ') M',⟨MW.Xf,ι,ρ,M,Le.refl _ _,S,R,e⟩,?_⟩;rintro m σ1 H1 ⟨ι1,ρ1,M1,le1,S1,R1,e1⟩;cases m with
  | zero=>cases e1
  | succ m =>
   simp only [MW.qb] at e1;obtain ⟨x,M2,e2,e1⟩:=aa e1;cases x<;>try cases e1
   rename_i k;refine K8 S1 R1 e2 fun ι2 H2 le2 S2 R2=>?_
   cases k with
   | false=>cases e1;exact q ι2 H2 σ1 (le1.trans le2) S2 R2
   | true =>
    obtain ⟨⟨fl3,ρ3⟩,M3,e3,e1⟩:=aa e1;refine ⟨fun σ4 H4=>∃ ι4 ρ4 M4,Le ι H ι4 H4/\az nm X.K ι4 H4 M4/\cg X.K ι4 H4 ρ4 σ4/\MW.qb (c'.den W) (Er.den W) m ρ4 M4=.ok (fl,ρ') M',fun σ4 H4 h4=>⟨m,Nat.lt_succ_self _,h4⟩,ι2,ρ1,M2,fl3,ρ3,M3,S2,R2,e3,fun ι4 H4 σ4 le4 S4 R4=>?_⟩;cases fl3 with
    | next=>exact ⟨ι4,ρ3,M3,(le1.trans le2).trans le4,S4,R4,e1⟩|cont=>exact ⟨ι4,ρ3,M3,(le1.trans le2).trans le4,S4,R4,e1⟩|brk=>cases e1;exact q ι4 H4 σ4 ((le1.trans le2).trans le4) S4 R4|ret d=>cases e1;exact q ι4 H4 σ4 ((le1.trans le2).trans le4) S4 R4
def aam (nm:Nm) (K:Fg) (ι:Io) (H:Hp) (s:Src) (J:It):Prop:=∀ ι1 H1 M1,Uc ι H ι1 H1->az nm K ι1 H1 M1 ->
 (∀ i d,i < s.len->s.item i M1=some d->J.go i H1/\∀ v H2,J.yld i H1 v H2->Le ι1 H1 ι1 H2/\az nm K ι1 H2 M1/\Rep K ι1 H2 d v)/\(s.fin M1=true->J.stop s.len H1)
def tI (nm:Nm) (W:jz) (K:Fg) (it:xg):TI:=fun σ H R=>∃ ι ρ M s M',az nm K ι H M/\cg K ι H ρ σ/\it.den W ρ M=.ok s M'/\∀ ι' H' J,Le ι H ι' H'->az nm K ι' H' M'->aam nm K ι' H' s J->R J H'
theorem apq {tg iter:Expr} {body:List Stmt} {t:Tg} {it:xg} {Er:bw} (hp:PassesOwn (model X.prog X.w) X.A X.env X.xe) (hc:X.calm=true) (hi:PI X tg iter (tI nm W X.K it)) (hg:PG X tg (Vy nm X.K t)) (hb:Ec X body (tSs nm W X.K Er))
 (hs:qg iter=true):PS X (.For tg iter body [] pos) (tS nm W X.K (.for_ t it Er)) :=
 PS.of (aiv hp hc hi hg hb (j7 hs X.env)) λD σ H ι ρ M fl ρ' M' S R e q=>by
  rw [MW.Gm] at e;obtain ⟨s,M1,e1,e⟩:=aa e;refine ⟨ι,ρ,M,s,M1,S,R,e1,fun ι1 H1 J le1 S1 sj=>?_⟩;refine ⟨λi m σ2 H2=>m=s.len - i/\i <= s.len/\∃ ι2 ρ2 M2,Le ι1 H1 ι2 H2/\az nm X.K ι2 H2 M2/\cg X.K ι2 H2 ρ2 σ2/\MW.my s.fin s.item (λd ρ M=>match t.put d ρ with | some ρ'=>Er.den W ρ' M | none=>.bad) m i ρ2 M2=.ok (fl,ρ') M',
   ⟨s.len,rfl,Nat.zero_le _,ι1,ρ,M1,Le.refl _ _,S1,R.mono le1,e⟩,?_⟩
  rintro i m σ2 H2 ⟨hm,hil,ι2,ρ2,M2,le2,S2,R2,e2⟩;obtain ⟨go,stop⟩:=sj ι2 H2 M2 le2.toX S2;cases m with
  | zero =>
   simp only [MW.my] at e2;split at e2<;>cases e2;rename_i hfin;have hi:i=s.len:=by omega
   subst hi;exact .inl ⟨stop hfin,q ι2 H2 σ2 (le1.trans le2) S2 R2⟩
  | succ m =>
   simp only [MW.my] at e2;split at e2
   . cases e2
   . rename_i d hd
     obtain ⟨⟨fl3,ρ3⟩,M3,e3,e2⟩:=aa e2;obtain ⟨g1,g2⟩:=go i d (by omega) hd;refine .inr ⟨g1,fun σ4 H4=>∃ ι4 ρ4 M4,Le ι1 H1 ι4 H4/\az nm X.K ι4 H4 M4/\cg X.K ι4 H4 ρ4 σ4/\MW.my s.fin s.item (λd ρ M=>match t.put d ρ with | some ρ'=>Er.den W ρ' M | none=>.bad) m (i+1) ρ4 M4=.ok (fl,ρ') M',
      fun σ4 H4 ⟨ι4,ρ4,M4,h4⟩=>⟨m,Nat.lt_succ_self _,by omega,by omega,ι4,ρ4,M4,h4⟩,λv H3 yv=>?_⟩
     obtain ⟨Mf,S3,r3⟩:=g2 v H3 yv;split at e3
     . rename_i ρ5 Ue
       refine ⟨ι2,ρ2,M2,d,ρ5,S3,R2.mono Mf,r3,Ue,fun σ5 R5 _ _=>⟨ι2,ρ5,M2,fl3,ρ3,M3,S3,R5,e3,fun ι4 H4 σ4 le4 S4 R4=>?_⟩⟩;have leA:=(le2.trans Mf).trans le4;cases fl3 with
       | next=>exact ⟨ι4,ρ3,M3,leA,S4,R4,e2⟩|cont=>exact ⟨ι4,ρ3,M3,leA,S4,R4,e2⟩|brk=>cases e2;exact q ι4 H4 σ4 (le1.trans leA) S4 R4|ret d=>cases e2;exact q ι4 H4 σ4 (le1.trans leA) S4 R4
     . cases e3
end
section
variable {nm:Nm} {W:jz} {X:Cx} {a b c:Expr} {a' b' c':Ex} {pos pos':Pos} {ι:Io} {H:Hp} {σ:St} {ρ:En} {M M1 M2:Store} {x y:Dv} {es:List Expr} {es':ji} {tg iter elt:Expr}
theorem PI.weak {wi wi':TI} (h:PI X tg iter wi) (w:∀ σ H R,wi' σ H R->wi σ H R):PI X tg iter wi':=λpins s σ H R I q=>h pins s σ H R I (w σ H R q)
theorem PI.of {it:xg} {wi:TI} (h:PI X tg iter wi) (w:∀ σ H R' ι ρ M s M',az nm X.K ι H M->cg X.K ι H ρ σ->it.den W ρ M=.ok s M'->(∀ ι' H' J,Le ι H ι' H'->az nm X.K ι' H' M'->aam nm X.K ι' H' s J->R' J H')->wi σ H R'):PI X tg iter (tI nm W X.K it) :=
 PI.weak h fun σ H R' ⟨ι,ρ,M,s,M',S,R,e,q⟩=>w σ H R' ι ρ M s M' S R e q
theorem aj4 {l:Expr} {tl:TE} (hl:PE X l tl):PI X tg l (fun σ H R=>tl σ H λx H1=>∃ a,x=.ref a/\((∃ xs,uh X.K H1 a xs)/\R (Itl X.K a) H1 \/ (∃ xs,yt X.K H1 a xs)/\R (Itt X.K a) H1)):=by
 intro pins s σ H R I h;refine jb (hl pins s σ H _ I h) λv s1 ⟨x,H1,I1,r1,q1⟩=>?_
 obtain ⟨a,e,⟨⟨xs,hq⟩,q⟩ | ⟨⟨xs,hq⟩,q⟩⟩:=q1
 . subst e
   cases r1;obtain ⟨its,rv,p,hz⟩:=I1.list hq;refine wpAny_pyIter_list p.isList ?_;refine ⟨s1.heap.objs.size,[s1.heap.objs.size],_,_,H1,rfl,I1.kept (t':=s1.toks) λb o e=>Heap.get?_push_of_some _ e,W0 a _,⟨_,Heap.get?_push_size _ rfl,rfl,rfl⟩,λb hb=>?_,q⟩;have e:b=s1.heap.objs.size:=by simpa using hb
   subst e;exact I1.Zb (Nat.le_refl _) (I1.hok.fresh (Nat.le_refl _))
 . subst e
   cases r1;obtain ⟨its,rv,p,hz⟩:=I1.tuple hq;refine wpAny_pyIter_tuple (show s1.heap.IsTuple a its.toArray from p) ?_;refine ⟨s1.heap.objs.size,[s1.heap.objs.size],_,_,H1,rfl,I1.kept (t':=s1.toks) λb o e=>Heap.get?_push_of_some _ e,Th a _,⟨_,Heap.get?_push_size _ rfl,rfl,rfl⟩,λb hb=>?_,q⟩;have e:b=s1.heap.objs.size:=by simpa using hb
   subst e;exact I1.Zb (Nat.le_refl _) (I1.hok.fresh (Nat.le_refl _))
theorem Mg {p:Addr} {ds:List Dv} {s:Src} (hs:∀ ι1 H1 M1,Uc ι H ι1 H1->az nm X.K ι1 H1 M1->(∀ i d,s.item i M1=some d->∃ vs v,H1 p=some (.lst vs)/\vs[i]?=some v/\Rep X.K ι1 H1 d v)/\(s.fin M1=true->∃ vs,H1 p=some (.lst vs)/\vs.length <= s.len)) :
 aam nm X.K ι H s (Itl X.K p):=fun ι1 H1 M1 le S1=>by
 obtain ⟨a,b⟩:=hs ι1 H1 M1 le S1;refine ⟨λi d hi hd=>?_,λhf=>?_⟩
 . obtain ⟨vs,v,h1,h2,h3⟩:=a i d hd
   refine ⟨⟨vs,v,uh.of h1,h2⟩,λu H2 ⟨e,y⟩=>?_⟩;subst e;have:=y vs (uh.of h1);rw [h2] at this;cases this;exact ⟨Le.refl _ _,S1,h3⟩
 . obtain ⟨vs,h1,h2⟩:=b hf
   exact ⟨vs,uh.of h1,h2⟩
theorem apr (ha:PE X a (tE nm W X.K a')):PI X tg a (tI nm W X.K (.val a')) :=
 PI.of (aj4 ha) fun σ H R' ι ρ M s M' S R e q=>by
  rw [MW.yz] at e;obtain ⟨x,M1,e1,e⟩:=aa e;obtain ⟨e,rfl⟩:=cu e;refine one S R e1 fun ι1 H1 v le S1 R1 r=>?_
  cases r with
  | @tup p ds vs h1 r1 =>
   simp only [MW.srcOf] at e;cases e;refine ⟨p,rfl,.inr ⟨⟨vs,yt.of h1⟩,q ι1 H1 _ le S1 fun ι2 H2 M2 le2 S2=>⟨λi d hi hd=>?_,λ_=>⟨vs,yt.of (le2.tup _ _ h1),by rw [<- r1.length];exact Nat.le_refl _⟩⟩⟩⟩;have hd:ds[i]?=some d:=hd;obtain ⟨v,g1,g2⟩:=(r1.mz le2).get hd;refine ⟨⟨vs,v,yt.of (le2.tup _ _ h1),g1⟩,λu H3 ⟨ee,yy⟩=>?_⟩;subst ee;have:=yy vs (yt.of (le2.tup _ _ h1));rw [g1] at this;cases this;exact ⟨Le.refl _ _,S2,g2⟩
  | @vl p ds vs h1 n1 r1 =>
   simp only [MW.srcOf] at e;cases e;refine ⟨p,rfl,.inl ⟨⟨vs,uh.of h1⟩,q ι1 H1 _ le S1 (Mg (ds:=ds) fun ι2 H2 M2 le2 S2=>⟨λi d hd=>?_,λ_=>⟨vs,le2.lst _ _ n1.1 h1,by rw [<- r1.length];exact Nat.le_refl _⟩⟩)⟩⟩;have hd:ds[i]?=some d:=hd;obtain ⟨v,g1,g2⟩:=(r1.mz le2).get hd;exact ⟨vs,v,le2.lst _ _ n1.1 h1,g1,g2⟩
  | @ref n p h1 =>
   simp only [MW.srcOf] at e;obtain ⟨ds,hn,rfl⟩:∃ ds,M'[n]?=some (.lst ds)/\s=.live n ds.length:=by
    split at e
    . rename_i ds hn;cases e;exact ⟨ds,hn,rfl⟩
    . cases e
   obtain ⟨vs,g1,g2⟩:=S1.obj n _ p hn h1;refine ⟨p,rfl,.inl ⟨⟨vs,uh.of g1⟩,q ι1 H1 _ le S1 (Mg (ds:=ds) fun ι2 H2 M2 le2 S2=>⟨λi d hd=>?_,λhf=>?_⟩)⟩⟩
   . simp only [Src.item] at hd
     split at hd
     . rename_i ds2 hn2
       split at hd
       . obtain ⟨vs2,k1,k2⟩:=S2.obj n _ p hn2 (le2.get h1)
         obtain ⟨v,k3,k4⟩:=k2.get hd;exact ⟨vs2,v,k1,k3,k4⟩
       . cases hd
     . cases hd
   . simp only [Src.fin] at hf
     split at hf
     . rename_i ds2 hn2
       obtain ⟨vs2,k1,k2⟩:=S2.obj n _ p hn2 (le2.get h1);refine ⟨vs2,k1,?_⟩;rw [<- k2.length];have:ds2.length=ds.length:=by simpa using hf
       rw [this];exact Nat.le_refl _
     . cases hf
  | _=>simp [MW.srcOf] at e
theorem aps {pr:Pos} (hg:Gl X "range") (hm:X.mg "range" = none) (ha:PE X a (tE nm W X.K a')) (hst:noStar a=true):PI X tg (.Call (.Name "range" pr) [a] [] pos) (tI nm W X.K (.Ib a')) :=
 PI.of (W2 hg hm (Ax ha Jh (bh hst _ _)) (bh hst _ _)) fun σ H R' ι ρ M s M' S R e q=>by
  rw [MW.N6] at e;obtain ⟨x,M1,e1,e⟩:=aa e;refine Ji (es':=.cons a' .nil) (ds:=[x]) (M1:=M1) S R (by rw [MW.m6,e1];simp) fun ι1 H1 vs le S1 R1 r=>?_
  obtain ⟨i,hx⟩:∃ i,x=.int i:=by cases x<;>first | exact ⟨_,rfl⟩ | cases e
  subst hx;have e:(if i.natAbs <= 100000 then Res.ok (Src.con ((List.range i.toNat).map λ(k:Nat)=>MW.D.int (k:Int))) M1 else .bad)=.ok s M':=e;split at e<;>cases e;rename_i hi;cases r with
  | cons r1 r2 =>
   cases r1;cases r2;refine ⟨i,rfl,by omega,by omega,q ι1 H1 _ le S1 fun ι2 H2 M2 le2 S2=>⟨λj d hj hd=>?_,λ_=>?_⟩⟩
   . have hl:j < i.toNat:=by simpa [Src.len] using hj
     have hd:((List.range i.toNat).map λ(k:Nat)=>MW.D.int (k:Int))[j]?=some d:=hd;rw [List.getElem?_map,List.getElem?_range hl] at hd;have hd:MW.D.int (j:Int)=d:=by simpa using hd
     subst hd;refine ⟨hl,λu H3 ⟨ee,yy⟩=>?_⟩;subst ee yy;exact ⟨Le.refl _ _,S2,by rw [Int.zero_add];exact .int _⟩
   . show i.toNat <= _
     simp [Src.len]
theorem Xp {K:Fg} {k:Nat} (R:cg K ι H ρ σ):cg K ι H (ρ ++ List.replicate k none) (σ ++ List.replicate k none):=R.append (cg.nones k (by simp))
theorem aan {n k:Nat} {t:Tg} {σ2:St} (hn:σ.length=n) (ho:∀ i∈jc t,n <= i) (h:∀ j,j ∉ jc t->σ2[j]?=(σ ++ List.replicate k none)[j]?):∀ (j:Nat) v,(σ ++ List.replicate k none)[j]?=some (some v)->σ2[j]?=some (some v):=λj v e=>by
 by_cases hj:j∈jc t
 . have:=ho j hj
   rw [List.getElem?_append_right (by omega),List.getElem?_replicate] at e;split at e<;>simp at e
 . rw [h j hj];exact e
def ahp (o:Option Dv):List Dv:=match o with | some x=>[x] | none=>[]
theorem Q4 {fin:Store->Bool} {item:Nat->Store->Option Dv} {body:Dv->Store->Res (Option Dv)} {k i:Nat} {ds:List Dv} {M M':Store} (h:MW.jw fin item body (k+1) i M=.ok ds M') :
 ∃ d o M1 rest,item i M=some d/\body d M=.ok o M1/\MW.jw fin item body k (i+1) M1=.ok rest M'/\ds=ahp o ++ rest:=by
 simp only [MW.jw] at h;split at h
 . cases h
 . rename_i d hd
   obtain ⟨o,M1,e1,h⟩:=aa h;obtain ⟨rest,M2,e2,h⟩:=aa h;cases h;exact ⟨d,o,M1,rest,hd,e1,e2,by cases o<;>rfl⟩
theorem bc.snoc {K:Fg} {ds:List Dv} {vs:List V} {d:Dv} {v:V} (r:bc K ι H ds vs) (h:Rep K ι H d v):bc K ι H (ds ++ [d]) (vs ++ [v]):=r.append (.cons h .nil)
theorem Xq {v:Bool} {k:Nat} {t:Tg} {it:xg} {e':Ex} {d:Dv} {M':Store} (h:(Ex.comp v k t it e').den W ρ M=.ok d M') (hv:v=true):∃ s M1 ds,it.den W ρ M=.ok s M1/\s.len <= 100000 /\
 MW.jw s.fin s.item (λd M=>match t.put d (ρ ++ List.replicate k none) with | some ρ'=>(e'.den W ρ' M).bind λx M'=>.ok (some x) M' | none=>.bad) s.len 0 M1=.ok ds M'/\d=.vl ds:=by
 subst hv;rw [MW.Ao] at h;obtain ⟨s,M1,e1,h⟩:=aa h;obtain ⟨ds,M2,e2,h⟩:=aa h;rw [if_pos rfl] at h;cases h;unfold MW.gf at e2;split at e2
 . rename_i hl
   exact ⟨s,M1,ds,e1,hl,e2,rfl⟩
 . cases e2
def BodyOk (nm:Nm) (K:Fg) (σ2:St) (tc:TT) (te:TE) (ρ2:En) (M:Store) (o:Option Dv) (M':Store):Prop:=∀ ι H (G1:V->Hp->Prop) (G0:Hp->Prop),az nm K ι H M->cg K ι H ρ2 σ2 ->
 (∀ ι' H' v,Le ι H ι' H'->az nm K ι' H' M'->(match o with | some x=>Rep K ι' H' x v->G1 v H' | none=>G0 H'))->tc σ2 H λb H3=>if b=true then te σ2 H3 λv H4=>G1 v H4 else G0 H3
theorem Mh {N:List Str} {k:Nat} {t:Tg} {it:xg} {tc:TT} {te:TE} {body:Dv->Store->Res (Option Dv)} {Q:VK} {s:Src} {ds:List Dv} {M':Store} (hk:N.length - X.N.length=k) (ho:∀ i∈jc t,X.N.length <= i) (hσ:σ.length=X.N.length)
 (S:az nm X.K ι H M) (R:cg X.K ι H ρ σ) (e1:it.den W ρ M=.ok s M1) (hlen:s.len <= 100000) (e2:MW.jw s.fin s.item body s.len 0 M1=.ok ds M')
 (q:∀ ι' H' v,Le ι H ι' H'->az nm X.K ι' H' M'->Rep X.K ι' H' (.vl ds) v->Q v H')
 (hb:∀ d M2 o M3,body d M2=.ok o M3->∃ ρ5,t.put d (ρ ++ List.replicate k none)=some ρ5/\∀ σ5,BodyOk nm X.K σ5 tc te ρ5 M2 o M3):Qz (N.length - X.N.length) (tI nm W X.K it) (Vy nm X.K t) tc te σ H Q:=by
 refine ⟨ι,ρ,M,s,M1,S,R,e1,fun ι1 H1 J le1 S1 sj D hD=>?_⟩;rw [hk];refine ⟨λi m H2=>m=s.len - i/\i <= s.len/\∃ ι2 M2 acc vs rest,Td D ι1 H1 (Io.hide ι2 D) H2/\az nm X.K (Io.hide ι2 D) H2 M2/\H2 D=some (.lst vs)/\bc X.K (Io.hide ι2 D) H2 acc vs/\acc.length <= i /\
  MW.jw s.fin s.item body m i M2=.ok rest M'/\ds=acc ++ rest,?_,?_⟩
 . exact ⟨s.len,rfl,Nat.zero_le _,ι1,M1,[],[],ds,Td.start hD _,S1.hide hD,dh,.nil,Nat.le_refl _,e2,rfl⟩
 . rintro i m H2 ⟨hm,hil,ι2,M2,acc,vs,rest,le2,S2,hd2,aj5,hacc,e3,hds⟩
   have leP:Le ι1 H1 ι2 H2:=Td.done le2;have au5:ι2.δ=ι1.δ:=leP.del;have hoff:ι2.off D:=⟨(S2.del D List.mem_cons_self).1,λz=>by rw [au5] at z;exact (S1.fresh hD).2 z⟩;obtain ⟨go,stop⟩:=sj (Io.hide ι2 D) H2 M2 (le2.toX hD) S2;cases m with
   | zero =>
    simp only [MW.jw] at e3;split at e3<;>cases e3;rename_i hfin;have hi:i=s.len:=by omega
    subst hi;rw [List.append_nil] at hds;subst hds;exact .inl ⟨stop hfin,q ι2 H2 _ (le1.trans leP) S2.show (.vl hd2 hoff aj5.show)⟩
   | succ m =>
    obtain ⟨d,o,M3,rest',h1,h2,h3,h4⟩:=Q4 e3;obtain ⟨g1,g2⟩:=go i d (by omega) h1;refine .inr ⟨g1,λv H3 yv=>?_⟩;obtain ⟨Mf,S3,r3⟩:=g2 v H3 yv;obtain ⟨ρ5,Ue,bok⟩:=hb d M2 o M3 h2;have R3:cg X.K (Io.hide ι2 D) H3 ρ σ:=((R.mono le1).mz (le2.toX hD)).mono Mf;refine ⟨Io.hide ι2 D,ρ ++ List.replicate k none,M2,d,ρ5,S3,Xp R3,r3,Ue,fun σ5 R5 l5 k5=>⟨l5,aan hσ ho k5,?_⟩⟩;have hd3:=Mf.lst D vs (S2.del D List.mem_cons_self).1 hd2;refine bok σ5 (Io.hide ι2 D) H3 _ _ S3 R5 (fun ι6 H6 u le6 S6=>by
     have hd6:=le6.lst D vs (S2.del D List.mem_cons_self).1 hd3;have aj6:Td D ι1 H1 ι6 H6:=(le2.go Mf).go le6;have ei:ι6=Io.hide ⟨ι6.l,ι2.δ⟩ D:=by have:=le6.del;obtain ⟨l6,δ6⟩:=ι6;simp only [Io.hide] at this ⊢;rw [this]
     rw [ei] at aj6 S6;have ahq:bc X.K (Io.hide ⟨ι6.l,ι2.δ⟩ D) H6 acc vs:=by rw [<- ei];exact (aj5.mono Mf).mono le6
     cases o with
     | none =>
      refine ⟨m,Nat.lt_succ_self _,by omega,by omega,⟨ι6.l,ι2.δ⟩,M3,acc,vs,rest',aj6,S6,hd6,ahq,by omega,h3,?_⟩;rw [hds,h4];rfl
     | some x =>
      intro r6;rw [ei] at r6;have hmem:D∈(Io.hide ⟨ι6.l,ι2.δ⟩ D).δ:=List.mem_cons_self;refine ⟨vs,m,hd6,?_,Nat.lt_succ_self _,by omega,by omega,⟨ι6.l,ι2.δ⟩,M3,acc ++ [x],vs ++ [u],rest',aj6.grow hD hd6,S6.grow hd6 hmem,dh,(ahq.snoc r6).grow hd6 hmem,by simp;omega,h3,?_⟩
      . rw [<- aj5.length]
        exact Nat.lt_of_le_of_lt (Nat.le_trans hacc (Nat.le_trans hil hlen)) (by decide)
      . rw [hds,h4];simp [ahp])
theorem Mi {N:List Str} {k:Nat} {t:Tg} {it:xg} {e':Ex} (hk:N.length - X.N.length=k) (ho:∀ i∈jc t,X.N.length <= i):∀ σ H Q,σ.length=X.N.length->tE nm W X.K (.comp true k t it e') σ H Q ->
 Qz (N.length - X.N.length) (tI nm W X.K it) (Vy nm X.K t) (λ_ H Q=>Q true H) (tE nm W X.K e') σ H Q:=fun σ H Q hσ hh=>by
 obtain ⟨ι,ρ,M,d,M',S,R,e,q⟩:=hh;obtain ⟨s,M1,ds,e1,hlen,e2,rfl⟩:=Xq e rfl;refine Mh hk ho hσ S R e1 hlen e2 q λd M2 o M3 hb=>?_
 split at hb
 . rename_i ρ5 Ue
   obtain ⟨x,M4,e5,hb⟩:=aa hb;cases hb;refine ⟨ρ5,Ue,fun σ5 ι5 H5 G1 G0 S5 R5 g=>?_⟩;show if true=true then _ else _
   rw [if_pos rfl];exact one (X:=X) S5 R5 e5 fun ι6 H6 u le6 S6 R6 r6=>g ι6 H6 u le6 S6 r6
 . cases hb
theorem Q5 {k:Nat} {t:Tg} {it:xg} {c' e':Ex} {d:Dv} {M':Store} (h:(Ex.jh true k t it c' e').den W ρ M=.ok d M'):∃ s M1 ds,it.den W ρ M=.ok s M1/\s.len <= 100000 /\
 MW.jw s.fin s.item (λd M=>match t.put d (ρ ++ List.replicate k none) with | some ρ'=>(c'.den W ρ' M).bind λb M'=>(match b with | .bl true=>(e'.den W ρ' M').bind λx M''=>.ok (some x) M'' | .bl false=>.ok none M' | _=>.bad) | none=>.bad) s.len 0 M1=.ok ds M'/\d=.vl ds:=by
 rw [MW.Ja] at h;obtain ⟨s,M1,e1,h⟩:=aa h;obtain ⟨ds,M2,e2,h⟩:=aa h;rw [if_pos rfl] at h;cases h;unfold MW.gf at e2;split at e2
 . rename_i hl
   exact ⟨s,M1,ds,e1,hl,e2,rfl⟩
 . cases e2
theorem Hj {N:List Str} {k:Nat} {t:Tg} {it:xg} {c' e':Ex} (hk:N.length - X.N.length=k) (ho:∀ i∈jc t,X.N.length <= i):∀ σ H Q,σ.length=X.N.length->tE nm W X.K (.jh true k t it c' e') σ H Q ->
 Qz (N.length - X.N.length) (tI nm W X.K it) (Vy nm X.K t) (tQ nm W X.K c') (tE nm W X.K e') σ H Q:=fun σ H Q hσ hh=>by
 obtain ⟨ι,ρ,M,d,M',S,R,e,q⟩:=hh;obtain ⟨s,M1,ds,e1,hlen,e2,rfl⟩:=Q5 e;refine Mh hk ho hσ S R e1 hlen e2 q λd M2 o M3 hb=>?_
 split at hb
 . rename_i ρ5 Ue
   obtain ⟨x,M4,e5,hb⟩:=aa hb;refine ⟨ρ5,Ue,fun σ5 ι5 H5 G1 G0 S5 R5 g=>?_⟩;split at hb
   . obtain ⟨y,M6,e6,hb⟩:=aa hb
     cases hb;refine K8 (X:=X) S5 R5 e5 fun ι6 H6 le6 S6 R6=>?_
     rw [if_pos rfl];exact one (X:=X) S6 R6 e6 fun ι7 H7 u le7 S7 R7 r7=>g ι7 H7 u (le6.trans le7) S7 r7
   . cases hb
     refine K8 (X:=X) S5 R5 e5 fun ι6 H6 le6 S6 R6=>?_
     rw [if_neg (by simp)];exact g ι6 H6 .non le6 S6
   . cases hb
 . cases hb
theorem PE.Q6 {e:Expr} {t t':TE} (h:PE X e t) (w:∀ σ H Q,σ.length=X.N.length->t' σ H Q->t σ H Q):PE X e t':=λpins s σ H Q I q=>h pins s σ H Q I (w σ H Q I.len q)
theorem PS.Q6 {st:Stmt} {t t':TS} (h:PS X st t) (w:∀ D σ H,σ.length=X.N.length->t' D σ H->t D σ H):PS X st t':=λpins s σ H D I q=>h pins s σ H D I (w D σ H I.len q)
theorem aj7 {N:List Str} {scope:Scope} {k:Nat} {t:Tg} {it:xg} {e':Ex} (B:su X N scope) (hcalm:X.calm=true) (hi:PI X tg iter (tI nm W X.K it)) (hg:∀ C fp s H,PG (blk X N scope C fp s H) tg (Vy nm X.K t))
 (he:∀ C fp s H,PE (blk X N scope C fp s H) elt (tE nm W X.K e')) (hs:qg iter=true) (hk:N.length - X.N.length=k) (ho:∀ i∈jc t,X.N.length <= i):PE X (.ListComp elt [⟨tg,iter,[],0⟩] scope pos) (tE nm W X.K (.comp true k t it e')) :=
 PE.Q6 (Vw B hcalm hi hg (λ_ _ _ _=>.inl ⟨rfl,rfl⟩) he (j7 hs X.env)) (Mi hk ho)
theorem aao {N:List Str} {scope:Scope} {k:Nat} {t:Tg} {it:xg} {c' e':Ex} (B:su X N scope) (hcalm:X.calm=true) (hi:PI X tg iter (tI nm W X.K it)) (hg:∀ C fp s H,PG (blk X N scope C fp s H) tg (Vy nm X.K t))
 (hc:∀ C fp s H,PT (blk X N scope C fp s H) c (tQ nm W X.K c')) (he:∀ C fp s H,PE (blk X N scope C fp s H) elt (tE nm W X.K e')) (hs:qg iter=true) (hk:N.length - X.N.length=k) (ho:∀ i∈jc t,X.N.length <= i):PE X (.ListComp elt [⟨tg,iter,[c],0⟩] scope pos) (tE nm W X.K (.jh true k t it c' e')) :=
 PE.Q6 (Vw B hcalm hi hg (λ_ _ _ _=>.inr ⟨c,rfl,hc _ _ _ _⟩) he (j7 hs X.env)) (Hj hk ho)
theorem Q7 {i:Nat} {tt:TE} {e':Ex} (h:∀ σ H Q,σ.length=X.N.length->tE nm W X.K e' σ H Q->tt σ H Q):∀ D σ H,σ.length=X.N.length->tS nm W X.K (.asg (.tg (.name i)) e') D σ H->ait tt (Va i) D σ H:=λD σ H hσ hh=>by obtain ⟨ι,ρ,M,fl,ρ',M',S,R,e,q⟩:=hh;rw [MW.N8] at e;obtain ⟨x,M1,e1,e⟩:=aa e;obtain ⟨ρ2,M2,e2,e⟩:=aa e;cases e;rw [MW.aad] at e2;obtain ⟨e3,e4⟩:=cu e2;subst e4;cases e3;exact h σ H _ hσ (one S R e1 fun ι1 H1 v le S1 R1 r=>q ι1 H1 _ le S1 (R1.set r i))
theorem Xr {N:List Str} {scope:Scope} {k i:Nat} {y:Str} {py spos:Pos} {t:Tg} {it:xg} {e':Ex} (B:su X N scope) (hcalm:X.calm=true) (hi:PI X tg iter (tI nm W X.K it)) (hg:∀ C fp s H,PG (blk X N scope C fp s H) tg (Vy nm X.K t))
 (he:∀ C fp s H,PE (blk X N scope C fp s H) elt (tE nm W X.K e')) (hs:qg iter=true) (hk:N.length - X.N.length=k) (ho:∀ i∈jc t,X.N.length <= i) (hN:X.N.Nodup) (hy:X.N[i]?=some y) (hl:X.env.scope.names.lookup y=some .local)
 (hsw:swapsWith (.ListComp elt [⟨tg,iter,[],0⟩] scope pos) (some (.Name y py)) spos.line X.env=pure true):PS X (.Assign [.Name y py] (.ListComp elt [⟨tg,iter,[],0⟩] scope pos) spos) (tS nm W X.K (.asg (.tg (.name i)) (.comp true k t it e'))) :=
 PS.Q6 (Vx B hcalm hi hg (λ_ _ _ _=>.inl ⟨rfl,rfl⟩) he (j7 hs X.env) hN hy hl hsw) (Q7 (Mi hk ho))
theorem Q8 {N:List Str} {scope:Scope} {k i:Nat} {y:Str} {py spos:Pos} {t:Tg} {it:xg} {c' e':Ex} (B:su X N scope) (hcalm:X.calm=true) (hi:PI X tg iter (tI nm W X.K it)) (hg:∀ C fp s H,PG (blk X N scope C fp s H) tg (Vy nm X.K t))
 (hc:∀ C fp s H,PT (blk X N scope C fp s H) c (tQ nm W X.K c')) (he:∀ C fp s H,PE (blk X N scope C fp s H) elt (tE nm W X.K e')) (hs:qg iter=true) (hk:N.length - X.N.length=k) (ho:∀ i∈jc t,X.N.length <= i) (hN:X.N.Nodup) (hy:X.N[i]?=some y) (hl:X.env.scope.names.lookup y=some .local)
 (hsw:swapsWith (.ListComp elt [⟨tg,iter,[c],0⟩] scope pos) (some (.Name y py)) spos.line X.env=pure true):PS X (.Assign [.Name y py] (.ListComp elt [⟨tg,iter,[c],0⟩] scope pos) spos) (tS nm W X.K (.asg (.tg (.name i)) (.jh true k t it c' e'))) :=
 PS.Q6 (Vx B hcalm hi hg (λ_ _ _ _=>.inr ⟨c,rfl,hc _ _ _ _⟩) he (j7 hs X.env) hN hy hl hsw) (Q7 (Hj hk ho))
end
def Xu (nm:Nm) (W:jz) (K:Fg) (n f:Nat):Sp:=λvs H Q _=>∃ ι M ds d M',az nm K ι H M/\bc K ι H ds vs/\ds.length=n/\W.call f ds M=.ok d M'/\∀ ι' H' v,Le ι H ι' H'->az nm K ι' H' M'->Rep K ι' H' d v->Q v H'
section
variable {nm:Nm} {W:jz} {X:Cx} {a b c o:Expr} {a' b' c' o':Ex} {pos pos' apos:Pos} {ι:Io} {H:Hp} {σ:St} {ρ:En} {M M1 M2:Store} {x y:Dv} {es:List Expr} {es':ji} {k n f:Nat} {fa C:Addr} {fd:FuncData} {ps:List Str} {m:Str}
theorem s_call {p:Pos} {x:Str} (F:m5 X.prog X.w X.K X.mg X.base Nv k fa fd ps (Xu nm W X.K n f)) (hr:gm k X.A) (hg:Gl X x) (hm:X.mg x=some (.ref fa)) (hk:PySem.W.keepIn X.K (.ref fa)=true) (hb:Binds X.K fd ps [])
 (hlen:ji.len es'=n) (ha:PA X (a :: es) (Lz nm W X.K es')) (hdb:(x == ("__debug__" : Str))=false) (he:starEach (a :: es) X.env=(false,eval a X.env) :: starEach es X.env) (hpl:(backTo pos (starEach es X.env)).any (·.1)=false) :
 PE X (.Call (.Name x p) (a :: es) [] pos) (tE nm W X.K (.call f es')) :=
 PE.of (ad0 (E:=E0) F hr hg hm hk hb .nil Vk ha hdb he hpl) fun σ H Q ι ρ M d M' S R e q=>by
  rw [MW.Z8] at e;obtain ⟨ds,M1,e1,e⟩:=aa e;refine Ji S R e1 fun ι1 H1 vs le S1 R1 r=>?_
  rw [List.append_nil];exact ⟨ι1,M1,ds,d,M',S1,r,(um e1).trans hlen,e,fun ι' H' v Kw S' r'=>q ι' H' v (le.trans Kw) S' r'⟩
theorem aj8 {p:Pos} {x:Str} {ci:Nat} {cl:MW.Cl} (Mk0:Mk X.K C fa) (F:m5 X.prog X.w X.K X.mg X.base Nv k fa fd ps (Xu nm W X.K (n+1) f)) (hr:gm (k+1) X.A) (hg:Gl X x) (hm:X.mg x=some (.ref C)) (hb:Binds X.K fd ps [])
 (hcl:W.cls[ci]?=some cl) (hin:cl.init=f) (hnm:nm.cls ci=some C)
 (hlen:ji.len es'=n) (ha:PA X (a :: es) (Lz nm W X.K es')) (hdb:(x == ("__debug__" : Str))=false) (he:starEach (a :: es) X.env=(false,eval a X.env) :: starEach es X.env) (hpl:(backTo pos (starEach es X.env)).any (·.1)=false) :
 PE X (.Call (.Name x p) (a :: es) [] pos) (tE nm W X.K (.make ci es')) :=
 PE.of (ad2 (E:=E0) Mk0 F hr hg hm hb .nil Vk ha hdb he hpl) fun σ H Q ι ρ M d M' S R e q=>by
  rw [MW.Z9] at e;obtain ⟨ds,M1,e1,e⟩:=aa e;rw [hcl] at e;have e:((W.call cl.init (.ref M1.length :: ds) (M1 ++ [.ins ci []])).bind λr M2=>match r with | .non=>.ok (.ref M1.length) M2 | _=>.bad)=.ok d M':=e;obtain ⟨r0,M2,e2,e⟩:=aa e;refine Ji S R e1 fun ι1 H1 vs le S1 R1 r=>λp dx hp hdx hne=>?_
  rw [List.append_nil];have keep:∀ a u,H1 a=some u->upd (upd H1 dx (.own p)) p (.ins C dx []) a=some u:=λa u e=>by rw [aq (au e hp),aq (au e hdx)];exact e
  obtain ⟨S2,le2⟩:=S1.new (o:=.ins ci []) hp keep λ_=>⟨C,dx,[],hnm,dh,.nil⟩
  have rp:Rep X.K (ι1.add p) (upd (upd H1 dx (.own p)) p (.ins C dx [])) (.ref M1.length) (.ref p):=.ref (by show (ι1.l ++ [p])[M1.length]?=some p;rw [<- S1.len];simp);refine ⟨ι1.add p,M1 ++ [.ins ci []],.ref M1.length :: ds,r0,M2,S2,.cons rp (r.mono le2),by rw [List.length_cons,um e1,hlen],by rw [<- hin];exact e2,fun ι' H' v Kw S' r'=>?_⟩;cases r'<;>try cases e
  exact ⟨rfl,q ι' H' _ (le.trans (le2.trans Kw)) S' (rp.mono Kw)⟩
theorem Jm {K:Fg} (hno:∀ i,nm.fld i≠m):∀ {fs:List (Nat×Dv)} {l:List (Str×V)},bu K ι H (λk k'=>k'=nm.fld k) fs l->l.lookup m=none
 | _,_,.nil=>rfl
 | _,_,.cons (k:=kk) (k':=kk') hk h t=>by
  subst hk;rw [List.lookup_cons];have z:(m == nm.fld kk)=false:=by
   cases z:m == nm.fld kk with
   | false=>rfl|true=>exact absurd (eq_of_beq z).symm (hno kk)
  rw [z];exact Jm hno t
theorem aj9 {mi ci:Nat} {cl:MW.Cl} {pl:Sem Bool} (ho:PE X o (tE nm W X.K o')) (c0:Qa X.K C) (hme:Meth X.K C m fa) (F:m5 X.prog X.w X.K X.mg X.base Nv k fa fd ps (Xu nm W X.K (n+1) f)) (hr:gm k X.A) (hb:Binds X.K fd ps [])
 (aka:∀ c' Q9,W.cls[c']?=some Q9->∀ g,Q9.meths.lookup mi=some g->nm.cls c'=some C/\g=f) (hno:∀ i,nm.fld i≠m)
 (hlen:ji.len es'=n) (ha:PA X (a :: es) (Lz nm W X.K es')) (he:starEach (a :: es) X.env=(false,eval a X.env) :: starEach es X.env) (hpl:(backTo pos (starEach es X.env)).any (·.1)=false)
 (ht:eval (.Call (.Attribute o m apos) (a :: es) [] pos) X.env=(do
  let ov <- eval o X.env
  standAt apos.atName
  let (f,first) <- holding [ov] (getMethod ov m pl)
  callWith pos f first (backTo pos (starEach (a :: es) X.env)) (backToKw pos (keywordEach [] X.env)))) :
 PE X (.Call (.Attribute o m apos) (a :: es) [] pos) (tE nm W X.K (.meth o' mi es')) :=
 PE.of (ad1 (E:=E0) ho c0 hme F hr hb .nil Vk ha he hpl ht) fun σ H Q ι ρ M d M' S R e q=>by
  rw [MW.Em] at e;obtain ⟨x,M1,e1,e⟩:=aa e;obtain ⟨ds,M2,e2,e⟩:=aa e;refine one S R e1 fun ι1 H1 v le S1 R1 r=>?_
  obtain ⟨j,hx⟩:∃ j,x=.ref j:=by cases x<;>first | exact ⟨_,rfl⟩ | cases e
  subst hx;obtain ⟨p,rfl,hp⟩:∃ p,v=.ref p/\ι1.l[j]?=some p:=by cases r with | ref z=>exact ⟨_,rfl,z⟩
  have e:(match M1[j]? with
   | some (.ins c _)=>(match (W.cls[c]?).bind λC=>C.meths.lookup mi with
    | some f=>W.call f (.ref j :: ds) M2|none=>.bad)
   | _=>.bad)=Res.ok d M':=e
  cases hM:M1[j]? with
  | none=>rw [hM] at e;cases e
  | some ob =>
   rw [hM] at e;cases ob with
   | ins ci fs =>
    have e:(match (W.cls[ci]?).bind λC=>C.meths.lookup mi with | some f=>W.call f (.ref j :: ds) M2 | none=>.bad)=Res.ok d M':=e;cases hL:(W.cls[ci]?).bind λC=>C.meths.lookup mi with
    | none=>rw [hL] at e;cases e
    | some g =>
     rw [hL] at e;have e:W.call g (.ref j :: ds) M2=.ok d M':=e;obtain ⟨Q9,h1,h2⟩:=Option.bind_eq_some_iff.mp hL;obtain ⟨h3,rfl⟩:=aka ci Q9 h1 g h2;obtain ⟨C',dx,l,g1,g2,g3⟩:=S1.obj j _ p hM hp;rw [h3] at g1;cases g1;have hnone:l.lookup m=none:=Jm hno g3;refine ⟨p,dx,l,rfl,g2,hnone,Ji S1 R1 e2 fun ι2 H2 vs le2 S2 R2 r2=>?_⟩;rw [List.append_nil];exact ⟨ι2,M2,.ref j :: ds,d,M',S2,.cons (r.mono le2) r2,by rw [List.length_cons,um e2,hlen],e,fun ι' H' v Kw S' r'=>q ι' H' v ((le.trans le2).trans Kw) S' r'⟩
   | _=>cases e
end
section
variable {nm:Nm} {W:jz} {X:Cx} {a b c o:Expr} {a' b' c' o':Ex} {pos pos' apos:Pos} {ι:Io} {H:Hp} {σ:St} {ρ:En} {M M1 M2:Store} {x y:Dv} {es:List Expr} {es':ji}
theorem akb:PE X (.Dict [] [] pos) (tE nm W X.K .Xe):=PE.of Zv fun σ H Q ι ρ M d M' S R e q=>by
 rw [MW.Z7] at e;cases e;intro p hp;obtain ⟨S2,le2⟩:=S.new (o:=.dT []) (H':=upd H p (.dT [])) hp (λa u e=>by rw [aq (au e hp)];exact e) λ_=>⟨[],dh,.nil⟩
 exact q _ _ _ le2 S2 (.ref (by show (ι.l ++ [p])[M.length]?=some p;rw [<- S.len];simp))
def au7 (nm:Nm) (K:Fg):adn:=λo i v H Q=>∃ ι M x y d M',az nm K ι H M/\Rep K ι H x o/\Rep K ι H y i/\Rep K ι H d v/\MW.setOp x y d M=some M'/\∀ H',Le ι H ι H'->az nm K ι H' M'->Q H'
theorem Jo {n:Nat} (h:n < 100000):n < sizeLine:=Nat.lt_of_lt_of_le h Eo
theorem ae3 (hu:X.A.units+1 < cLine):aiq X (au7 nm X.K):=by
 intro pins s σ H o i v ov iv u Q I ro ri rv hh;obtain ⟨ι,M,x,y,d,M',S,rx,ry,rd,e,q⟩:=hh;obtain ⟨j,hx⟩:∃ j,x=.ref j:=by cases x<;>first | exact ⟨_,rfl⟩ | cases e
 subst hx;obtain ⟨p,rfl,hp⟩:∃ p,o=.ref p/\ι.l[j]?=some p:=by cases rx with | ref z=>exact ⟨_,rfl,z⟩
 simp only [MW.setOp] at e;split at e
 . rename_i xs hM
   split at e
   . rename_i k
     obtain ⟨qq,e1,e2⟩:=Option.map_eq_some_iff.mp e;subst e2;cases ry;obtain ⟨vs,h1,h2⟩:=S.obj j _ p hM hp;refine set_list pins s σ H _ _ v ov iv u Q I ro ri rv ⟨p,vs,k,qq,rfl,rfl,h1,by rw [<- h2.length];exact e1,?_⟩;obtain ⟨S2,le2⟩:=S.put (u:=.lst (vs.set qq v)) (o:=.lst (xs.set qq d)) hM hp λle=>⟨_,dh,(h2.mono le).set (rd.mono le) qq⟩
     exact q _ le2 S2
   . cases e
 . rename_i kvs hM
   obtain ⟨k,e1,e⟩:=Option.bind_eq_some_iff.mp e;split at e<;>cases e;rename_i hl;obtain ⟨l,h1,h2⟩:=S.obj j _ p hM hp;obtain ⟨b,rfl,hb⟩:=Jk ry e1;cases ro;refine Lk (H':=upd H p (.dT (putK l k v))) (y:=.ref b) (v:=v) hu I (T4.t h1 hb (by rw [<- h2.length];exact Jo hl)) ri rv λs' I'=>⟨_,I',?_⟩
   obtain ⟨S2,le2⟩:=S.put (u:=.dT (putK l k v)) (o:=.dT (MW.Aa kvs k d)) hM hp λle=>⟨_,dh,(h2.mono le).put (rd.mono le)⟩
   exact q _ le2 S2
 . rename_i kvs hM
   obtain ⟨k,e1,e⟩:=Option.bind_eq_some_iff.mp e;split at e<;>cases e;rename_i hl;obtain ⟨l,h1,h2⟩:=S.obj j _ p hM hp;have hy:=Jj ry e1;subst hy;cases ro;refine Lk (H':=upd H p (.dK (putK l k v))) (y:=kV k) (v:=v) hu I (T4.k h1 (by rw [<- h2.length];exact Jo hl)) ri rv λs' I'=>⟨_,I',?_⟩
   obtain ⟨S2,le2⟩:=S.put (u:=.dK (putK l k v)) (o:=.dK (MW.Aa kvs k d)) hM hp λle=>⟨_,dh,(h2.mono le).put (rd.mono le)⟩
   exact q _ le2 S2
 . cases e
theorem Dm {e:Expr} (h:zb e=true) (t:Expr) (l:Nat) (env:Env):swapsWithSole [t] e l env=pure false:=by unfold swapsWithSole;exact Ay h _ _ _
theorem aap (hu:X.A.units+1 < cLine) (he:PE X a (tE nm W X.K a')) (ho:PE X o (tE nm W X.K o')) (hi:PE X b (tE nm W X.K b')) (hpl:zb a=true)
 (ha:∀ v,assign (.Subscript o b pos') X.env v=(do
  let ov <- holding [v] (eval o X.env)
  let iv <- holding [v,ov] (eval b X.env)
  standAt pos'
  holding [v,ov,iv] (setItem ov iv v)
  release [v,ov,iv] [])):PS X (.Assign [.Subscript o b pos'] a pos) (tS nm W X.K (.asg (.sub o' b') a')) :=
 PS.of (Y9 he (ais ho hi (ae3 (nm:=nm) hu) ha) (Dm hpl _ _ _) (by rfl) (by rfl)) λD σ H ι ρ M fl ρ' M' S R e q=>by
  rw [MW.N8] at e;obtain ⟨x,M1,e1,e⟩:=aa e;obtain ⟨ρ2,M2,e2,e⟩:=aa e;cases e;rw [MW.aep] at e2;obtain ⟨y,M3,e3,e2⟩:=aa e2;obtain ⟨z,M4,e4,e2⟩:=aa e2;obtain ⟨M5,M6,e5,e6⟩:=aa e2;obtain ⟨e7,e8⟩:=cu e5;subst e8;cases e6;refine one S R e1 fun ι1 H1 v le S1 R1 r=>?_
  refine one S1 R1 e3 fun ι2 H2 v2 le2 S2 R2 r2=>one S2 R2 e4 fun ι3 H3 v3 Mf S3 R3 r3=>?_
  exact ⟨ι3,_,y,z,x,_,S3,r2.mono Mf,r3,(r.mono le2).mono Mf,e7,λH' Kw S'=>q ι3 H' σ (((le.trans le2).trans Mf).trans Kw) S' (R3.mono Kw)⟩
theorem aaq {f:Nat} {n:Str} (hn:n=nm.fld f) (hcl:∀ c C,nm.cls c=some C->Qa X.K C/\ql X.K C n) (he:PE X a (tE nm W X.K a')) (ho:PE X o (tE nm W X.K o')) (hpl:zb a=true) :
 PS X (.Assign [.Attribute o n pos'] a pos) (tS nm W X.K (.asg (.fld o' f) a')) :=
 PS.of (ai7 ho he (Ay hpl _ _ _)) λD σ H ι ρ M fl ρ' M' S R e q=>by
  rw [MW.N8] at e;obtain ⟨x,M1,e1,e⟩:=aa e;obtain ⟨ρ2,M2,e2,e⟩:=aa e;cases e;rw [MW.aeq] at e2;obtain ⟨y,M3,e3,e2⟩:=aa e2;obtain ⟨M5,M6,e5,e6⟩:=aa e2;obtain ⟨e7,e8⟩:=cu e5;subst e8;cases e6;refine one S R e1 fun ι1 H1 v le S1 R1 r=>one S1 R1 e3 fun ι2 H2 v2 le2 S2 R2 r2=>?_
  obtain ⟨j,hx⟩:∃ j,y=.ref j:=by cases y<;>first | exact ⟨_,rfl⟩ | cases e7
  subst hx;obtain ⟨p,rfl,hp⟩:∃ p,v2=.ref p/\ι2.l[j]?=some p:=by cases r2 with | ref z=>exact ⟨_,rfl,z⟩
  simp only [MW.Ek] at e7;split at e7
  . rename_i c fs hM
    have hl:fs.length < 1000:=by
     by_cases z:fs.length < 1000
     . exact z
     . rw [if_neg z] at e7;cases e7
    rw [if_pos hl] at e7;cases e7;obtain ⟨C,dx,l,h1,h2,h3⟩:=S2.obj j _ p hM hp;subst hn;obtain ⟨g1,g2⟩:=hcl c C h1;refine ⟨p,C,dx,l,rfl,h2,g1,g2,by rw [<- h3.length];exact hl,?_⟩;obtain ⟨S3,Mf⟩:=S2.put (u:=.ins C dx (u5 (nm.fld f) v l)) (o:=.ins c (MW.Hd f x fs)) hM hp λKw=>⟨C,dx,_,h1,dh,(h3.mono Kw).u5 ((r.mono le2).mono Kw)⟩
    exact q ι2 _ σ ((le.trans le2).trans Mf) S3 (R2.mono Mf)
  . cases e7
theorem jy.weak {f:Value} {r r':List V->Hp->VK->Prop} (h:jy X f r) (w:∀ xs H Q,r' xs H Q->r xs H Q):jy X f r':=λpins s σ H xs us Q I rs q=>h pins s σ H xs us Q I rs (w xs H Q q)
def rB (nm:Nm) (K:Fg) (b:Nx):List V->Hp->VK->Prop:=λvs H Q=>∃ ι M ds d M',az nm K ι H M/\bc K ι H ds vs/\MW.dj b ds M=.ok d M'/\∀ ι' H' v,Le ι H ι' H'->az nm K ι' H' M'->Rep K ι' H' d v->Q v H'
theorem jy.of {f:Value} {bb:Nx} {r:List V->Hp->VK->Prop} (h:jy X f r) (w:∀ vs H Q ι M ds d M',az nm X.K ι H M->bc X.K ι H ds vs->MW.dj bb ds M=.ok d M'->(∀ ι' H' v,Le ι H ι' H'->az nm X.K ι' H' M'->Rep X.K ι' H' d v->Q v H')->r vs H Q):jy X f (rB nm X.K bb) :=
 jy.weak h λvs H Q ⟨ι,M,ds,d,M',S,r,e,q⟩=>w vs H Q ι M ds d M' S r e q
theorem Ra {t:Nx}:∀ σ H Q,tE nm W X.K (.blt t es') σ H Q->tCB (rB nm X.K t) (Lz nm W X.K es') σ H Q:=fun σ H Q hh=>by obtain ⟨ι,ρ,M,d,M',S,R,e,q⟩:=hh;rw [MW.N5] at e;obtain ⟨ds,M1,e1,e⟩:=aa e;exact Ji S R e1 fun ι1 H1 vs le S1 R1 r=>⟨ι1,M1,ds,d,M',S1,r,e,fun ι' H' v Kw S' r'=>q ι' H' v (le.trans Kw) S' r'⟩
theorem aar {t:Nx} {x:Str} {id:String} {p:Pos} (hc:jy X (.builtin id) (rB nm X.K t)) (hg:Gl X x) (hm:X.mg x=none) (hv:bootBuiltins x=some (.builtin id)) (ha:PA X (a :: es) (Lz nm W X.K es')) (hn:x ≠ "__name__") (hdb:(x == ("__debug__" : Str))=false)
 (he:starEach (a :: es) X.env=(false,eval a X.env) :: starEach es X.env) (hpl:(backTo pos (starEach es X.env)).any (·.1)=false):PE X (.Call (.Name x p) (a :: es) [] pos) (tE nm W X.K (.blt t es')):=PE.weak (Zn hc hg hm hv ha hn hdb he hpl) Ra
theorem aas {t:Nx} {x:Str} {T:String} {p:Pos} (hc:jy X (.type T) (rB nm X.K t)) (hg:Gl X x) (hm:X.mg x=none) (hv:bootBuiltins x=some (.type T)) (ha:PA X (a :: es) (Lz nm W X.K es')) (hn:x ≠ "__name__") (hdb:(x == ("__debug__" : Str))=false)
 (he:starEach (a :: es) X.env=(false,eval a X.env) :: starEach es X.env) (hpl:(backTo pos (starEach es X.env)).any (·.1)=false):PE X (.Call (.Name x p) (a :: es) [] pos) (tE nm W X.K (.blt t es')):=PE.weak (W9 hc hg hm hv ha hn hdb he hpl) Ra
theorem Es {ds:List Dv} {vs:List V} {K:Fg} (r:bc K ι H ds vs) {d:Dv} (h:ds=[d]):∃ v,vs=[v]/\Rep K ι H d v:=by subst h;cases r with | cons h t=>cases t;exact ⟨_,rfl,h⟩
theorem ae4:jy X (.type "tuple") (rB nm X.K .tuple):=jy.of K6 λvs H Q ι M ds d M' S r e q=>by
 cases r with
 | nil=>simp [MW.dj] at e
 | @cons x v _ _ h t =>
  cases t with
  | cons h2 t2=>simp [MW.dj] at e
  | nil =>
   have e:Res.ofOpt ((MW.gr M x).map MW.D.tup) M=.ok d M':=e;obtain ⟨e1,e2⟩:=cu e;subst e2;obtain ⟨xs,e3,rfl⟩:=Option.map_eq_some_iff.mp e1;obtain ⟨p,us,rfl,hp,ru⟩:=xq S h e3;rcases hp with hp | hp
   . refine ⟨p,us,rfl,.inl ⟨uh.of hp,λl hl=>?_⟩⟩
     obtain ⟨S2,le2,r2⟩:=za S hl ru;exact q ι _ _ le2 S2 r2
   . exact ⟨p,us,rfl,.inr ⟨yt.of hp,q ι H _ (Le.refl _ _) S (.tup hp ru)⟩⟩
theorem apu:jy X (.builtin "len") (rB nm X.K .len):=jy.of Nu λvs H Q ι M ds d M' S r e q=>by
 cases r with
 | nil=>simp [MW.dj] at e
 | @cons x v _ _ h t =>
  cases t with
  | cons h2 t2=>simp [MW.dj] at e
  | nil =>
   have fin:∀ xs,(MW.gr M x=some xs)->d=.int xs.length->M'=M->∃ p ys,[v]=[V.ref p]/\(uh X.K H p ys \/ yt X.K H p ys)/\Q (.int ys.length) H:=λxs e3 e1 e2=>by subst e1 e2;obtain ⟨p,us,rfl,hp,ru⟩:=xq S h e3;exact ⟨p,us,rfl,hp.imp uh.of yt.of,by rw [<- ru.length];exact q ι H _ (Le.refl _ _) S (.int _)⟩
   cases h with
   | fz e1 r1 =>
    cases e;exact ⟨_,_,rfl,.inl e1.sq,by rw [<- r1.length];exact q ι H _ (Le.refl _ _) S (.int _)⟩
   | @ref n p e1 =>
    have e:(match M[n]? with | some (.lst ds)=>Res.ok (MW.D.int ds.length) M | _=>.bad)=Res.ok d M':=e;split at e
    . rename_i ds hM
      cases e;exact fin ds (by simp [MW.gr,MW.asList,hM]) rfl rfl
    . cases e
   | tup e1 r1=>cases e;exact fin _ rfl rfl rfl|vl e1 n1 r1=>cases e;exact fin _ rfl rfl rfl|_=>cases e
end
open MW
variable {M:Store}
theorem gh {k n:Nat} {a:D} (h:∀ n,a≠.ref n) (h2:∀ ds,a≠.vl ds):MW.qm M (k+1) a (.ref n)=none:=by
 have ha:MW.asList M a=none:=by cases a<;>first | rfl | exact absurd rfl (h _) | exact absurd rfl (h2 _)
 cases a<;>first | exact absurd rfl (h _) | exact absurd rfl (h2 _) | (unfold MW.qm;dsimp only;rw [ha];cases MW.asList M (.ref n)<;>rfl)
theorem ug {k n:Nat} {a:D} (h:∀ n,a≠.ref n) (h2:∀ ds,a≠.vl ds):MW.qm M (k+1) (.ref n) a=none:=by
 have ha:MW.asList M a=none:=by cases a<;>first | rfl | exact absurd rfl (h _) | exact absurd rfl (h2 _)
 cases a<;>first | exact absurd rfl (h _) | exact absurd rfl (h2 _) | (unfold MW.qm;dsimp only;rw [ha];cases MW.asList M (.ref n)<;>rfl)
theorem jn (k i j:Nat):MW.qm M (k+1) (.ref i) (.ref j)=match asList M (.ref i),asList M (.ref j) with
 | some as,some bs=>if as.length=bs.length then Dj (qm M k) as bs else some false
 | none,none=>Lq (qm M k) M (.ref i) (.ref j)|_,_=>none:=rfl
theorem Jp (k:Nat) (ds:List D) (j:Nat):MW.qm M (k+1) (.vl ds) (.ref j)=match asList M (.ref j) with
 | some bs=>if ds.length=bs.length then Dj (qm M k) ds bs else some false
 | none=>none:=by
 show (match some ds,asList M (.ref j) with
  | some as,some bs=>if as.length=bs.length then Dj (qm M k) as bs else some false
  | none,none=>Lq (qm M k) M (.vl ds) (.ref j)|_,_=>none)=_
 cases asList M (.ref j)<;>rfl
theorem zg (k:Nat) (ds:List D) (j:Nat):MW.qm M (k+1) (.ref j) (.vl ds)=match asList M (.ref j) with
 | some bs=>if bs.length=ds.length then Dj (qm M k) bs ds else some false
 | none=>none:=by
 show (match asList M (.ref j),some ds with
  | some as,some bs=>if as.length=bs.length then Dj (qm M k) as bs else some false
  | none,none=>Lq (qm M k) M (.ref j) (.vl ds)|_,_=>none)=_
 cases asList M (.ref j)<;>rfl
theorem Gp {f:D->D->Option Bool} {i j:Nat} {r:Bool} (h:Lq f M (.ref i) (.ref j)=some r):∃ ka kb,M[i]?=some (.dT ka)/\M[j]?=some (.dT kb)/\Lp ka=true/\Lp kb=true/\((i=j/\r=true) \/ (i≠j/\(if ka.length=kb.length then eqK f kb ka else some false)=some r)):=by
 unfold Lq at h;dsimp only at h;split at h
 . rename_i ka kb h1 h2
   split at h
   . rename_i hk
     rw [Bool.and_eq_true] at hk;split at h
     . rename_i e;cases h;exact ⟨ka,kb,h1,h2,hk.1,hk.2,.inl ⟨e,rfl⟩⟩
     . rename_i e;exact ⟨ka,kb,h1,h2,hk.1,hk.2,.inr ⟨e,h⟩⟩
   . cases h
 . cases h
theorem Dn {a b:D} {r:Bool} (h:jd M a b=some r):Lr M a=false/\qm M 6 a b=some r:=by
 unfold jd at h;split at h
 . cases h
 . rename_i hd;exact ⟨by simpa using hd,h⟩
end Sm
namespace Qd
open PySem SetTable
def Srt (xs:Array Nat):Prop:=∀ (i j a b:Nat),xs[i]?=some a->xs[j]?=some b->i < j->a < b
theorem ae5 {xs:Array Nat} {j:Nat} (hs:Srt xs):∀ (fuel lo hi:Nat),lo <= hi->hi <= xs.size->hi - lo <= fuel ->
 (∀ (i a:Nat),xs[i]?=some a->i < lo->a < j)->(∀ (i a:Nat),xs[i]?=some a->hi <= i->j <= a) ->
 below.go xs j fuel lo hi <= xs.size/\(∀ (i a:Nat),xs[i]?=some a->i < below.go xs j fuel lo hi->a < j)/\(∀ (i a:Nat),xs[i]?=some a->below.go xs j fuel lo hi <= i->j <= a):=by
 intro fuel
 induction fuel with
 | zero =>
  intro lo hi h1 h2 h3 h4 h5;unfold below.go;have:lo=hi:=by omega
  subst this;exact ⟨h2,h4,h5⟩
 | succ fuel ih =>
  intro lo hi h1 h2 h3 h4 h5;unfold below.go
  by_cases hlt:lo < hi
  . simp only [if_pos hlt]
    have hm:(lo+hi) / 2 < xs.size:=by omega
    have hg:xs[(lo+hi) / 2]?=some xs[(lo+hi) / 2]:=by simp [hm]
    have hgd:xs.getD ((lo+hi) / 2) j=xs[(lo+hi) / 2]:=by simp [Array.getD,hm]
    rw [hgd]
    by_cases hc:xs[(lo+hi) / 2] < j
    . rw [if_pos hc]
      refine ih _ _ (by omega) h2 (by omega) (λi a e l=>?_) h5
      by_cases hi':i=(lo+hi) / 2
      . subst hi';rw [hg] at e;cases e;exact hc
      . exact Nat.lt_trans (hs _ _ _ _ e hg (by omega)) hc
    . rw [if_neg hc]
      refine ih _ _ (by omega) (by omega) (by omega) h4 (λi a e l=>?_)
      by_cases hi':i=(lo+hi) / 2
      . subst hi';rw [hg] at e;cases e;omega
      . have:=hs _ _ _ _ hg e (by omega);omega
  . rw [if_neg hlt]
    have:lo=hi:=by omega
    subst this;exact ⟨h2,h4,h5⟩
theorem zj {xs:Array Nat} {j:Nat} (hs:Srt xs):below xs j <= xs.size/\(∀ (i a:Nat),xs[i]?=some a->i < below xs j->a < j)/\(∀ (i a:Nat),xs[i]?=some a->below xs j <= i->j <= a) :=
 ae5 hs _ _ _ (Nat.zero_le _) (Nat.le_refl _) (by omega) (λi a _ h=>absurd h (Nat.not_lt_zero _)) (λi a e h=>by
  have:=(Array.getElem?_eq_some_iff.mp e).1;omega)
theorem below_at {xs:Array Nat} {i j:Nat} (hs:Srt xs) (h:xs[i]?=some j):below xs j=i:=by
 obtain ⟨h1,h2,h3⟩:=zj (j:=j) hs;rcases Nat.lt_trichotomy (below xs j) i with l | l | l
 . have li:=(Array.getElem?_eq_some_iff.mp h).1
   have hg:xs[below xs j]?=some xs[below xs j]:=by simp
   have a:=h3 _ _ hg (Nat.le_refl _);have b:=hs _ _ _ _ hg h l;omega
 . exact l
 . have:=h2 _ _ h l;omega
theorem Mj (j:Nat):has #[] j=false:=by simp [has]
theorem Gq {t:SetTable} {i j:Nat} (hs:Srt t.place):t.slot j=.live i ↔ t.place[i]?=some j:=by
 unfold slot;constructor
 . intro h
   dsimp only at h;split at h
   . rename_i e;cases h;simpa using e
   . split at h<;>cases h
 . intro h
   dsimp only;rw [below_at hs h,h];simp
theorem Ug {t:SetTable} {j:Nat} (hs:Srt t.place) (hd:t.dummies=#[]):t.slot j=.empty ↔ ∀ i:Nat,t.place[i]?≠some j:=by
 constructor
 . intro h i e
   rw [(Gq hs).mpr e] at h;cases h
 . intro h
   unfold slot;dsimp only;rw [hd,Mj,if_neg (by simpa using h _)];rfl
theorem yw {α:Type} (xs:Array α) (p:Nat) (x:α) (hp:p <= xs.size) (i:Nat):(insertAt xs p x)[i]?=if i < p then xs[i]? else if i=p then some x else xs[i - 1]?:=by
 rw [<- Array.getElem?_toList,toList_insertAt];have hl:(xs.toList.take p).length=p:=by simp;omega
 by_cases h1:i < p
 . rw [if_pos h1,List.getElem?_append_left (by omega),List.getElem?_take,if_pos h1,Array.getElem?_toList]
 . rw [if_neg h1,List.getElem?_append_right (by omega),hl]
   by_cases h2:i=p
   . subst h2;simp
   . rw [if_neg h2]
     obtain ⟨q,hq⟩:∃ q,i=p+q+1:=⟨i - p - 1,by omega⟩;subst hq;rw [show p+q+1 - p=q+1 by omega,List.getElem?_cons_succ,List.getElem?_drop,show p+q+1 - 1=p+q by omega,Array.getElem?_toList]
theorem Et {α:Type} (xs:Array α) (p:Nat) (x:α):(insertAt xs p x).size=xs.size+1:=by have:=(insertAt_perm xs p x).length_eq;simpa using this
def up (p i:Nat):Nat:=if i < p then i else i+1
theorem Dp {α:Type} (xs:Array α) (p:Nat) (x:α) (hp:p <= xs.size) (i:Nat):(insertAt xs p x)[up p i]?=xs[i]?:=by
 rw [yw xs p x hp];unfold up
 by_cases h:i < p
 . simp [h]
 . rw [if_neg h,if_neg (by omega),if_neg (by omega)];rfl
theorem xr {α:Type} (xs:Array α) (p:Nat) (x:α) (hp:p <= xs.size):(insertAt xs p x)[p]?=some x:=by rw [yw xs p x hp];simp
theorem Ca (p i:Nat):i=p \/ ∃ k,i=up p k:=by
 unfold up;rcases Nat.lt_trichotomy i p with h | h | h
 . exact .inr ⟨i,by simp [h]⟩
 . exact .inl h
 . exact .inr ⟨i - 1,by rw [if_neg (by omega)];omega⟩
theorem ae6 {xs:Array Nat} {j:Nat} (hs:Srt xs) (hn:∀ i:Nat,xs[i]?≠some j):Srt (insertAt xs (below xs j) j):=by
 obtain ⟨h1,h2,h3⟩:=zj (j:=j) hs;intro a b x y ea eb l;rcases Ca (below xs j) a with rfl | ⟨a',rfl⟩<;>rcases Ca (below xs j) b with hb | ⟨b',rfl⟩
 . subst hb;omega
 . rw [xr _ _ _ h1] at ea
   rw [Dp _ _ _ h1] at eb;cases ea;have:below xs j <= b':=by unfold up at l;split at l<;>omega
   have g:=h3 _ _ eb this;rcases Nat.lt_or_eq_of_le g with g | g
   . exact g
   . subst g;exact absurd eb (hn _)
 . subst hb
   rw [xr _ _ _ h1] at eb;rw [Dp _ _ _ h1] at ea;cases eb;exact h2 _ _ ea (by unfold up at l;split at l<;>omega)
 . rw [Dp _ _ _ h1] at ea eb
   exact hs _ _ _ _ ea eb (by unfold up at l;split at l<;>split at l<;>omega)
def adv (m:Nat) (p:Probe):Probe:=({ SetTable.fresh 0 0 true with mask:=m }:SetTable).advance p
theorem akc (t:SetTable) (p:Probe):t.advance p=adv t.mask p:=rfl
theorem Ob {m:Nat} {p:Probe} (h:p.more > 0):adv m p={ p with j:=p.j+1,more:=p.more - 1 }:=if_pos h
theorem Jq {m:Nat} {p:Probe} (h:¬ p.more > 0):adv m p={ p with j:=(leap m p.i p.perturb).1,more:=runEnd m (leap m p.i p.perturb).1 - (leap m p.i p.perturb).1,i:=(leap m p.i p.perturb).1,perturb:=(leap m p.i p.perturb).2 }:=if_neg h
def beg (m i pt:Nat):Probe:={ j:=i,more:=runEnd m i - i,i:=i,perturb:=pt,dummy:=none }
def P (m:Nat) (h:Int):Nat->Probe
 | 0=>beg m (bits h % (m+1)) (bits h)|n+1=>adv m (P m h n)
theorem aat (t:SetTable) (h:Int):t.probeStart h=P t.mask h 0:=rfl
theorem Oc (m:Nat) (h:Int):∀ n,(P m h n).dummy=none
 | 0=>rfl
 | n+1=>by
  show (adv m (P m h n)).dummy=none
  by_cases q:(P m h n).more > 0
  . rw [Ob q];exact Oc m h n
  . rw [Jq q];exact Oc m h n
def I (m:Nat) (h:Int):Nat->Nat
 | 0=>bits h % (m+1)|T+1=>(I m h T * 5+1+bits h / 32 ^ (T+1)) % (m+1)
theorem ae7 (m i:Nat):runEnd m i - i <= 9:=by unfold runEnd;split<;>omega
theorem Rb {m:Nat} {h:Int} {n i pt:Nat} (e:P m h n=beg m i pt):∀ c,c <= runEnd m i - i->P m h (n+c)={ j:=i+c,more:=runEnd m i - i - c,i:=i,perturb:=pt,dummy:=none }
 | 0,_=>by rw [Nat.add_zero,e];rfl
 | c+1,hc=>by
  have:=Rb e c (by omega);show adv m (P m h (n+c))=_;rw [this,Ob (by show 0 < runEnd m i - i - c;omega)];simp only
  congr 1
theorem aau {m:Nat} {h:Int} {n i pt:Nat} (e:P m h n=beg m i pt):P m h (n+(runEnd m i - i)+1)=beg m ((i * 5+1+pt / 32) % (m+1)) (pt / 32):=by show adv m (P m h (n+(runEnd m i - i)))=_;rw [Rb e _ (Nat.le_refl _),Jq (by simp)];rfl
theorem aav (m:Nat) (h:Int):∀ T,∃ n,n <= 10 * T/\P m h n=beg m (I m h T) (bits h / 32 ^ T)
 | 0=>⟨0,by omega,by simp [P,I]⟩
 | T+1=>by
  obtain ⟨n,h1,h2⟩:=aav m h T;have:=ae7 m (I m h T);refine ⟨_,?_,(aau h2).trans ?_⟩
  . omega
  . rw [Nat.div_div_eq_div_mul,<- Nat.pow_succ];rfl
def f5 (m x:Nat):Nat:=(x * 5+1) % (m+1)
def it (m:Nat):Nat->Nat->Nat
 | 0,x=>x|k+1,x=>f5 m (it m k x)
theorem Jr (m a x:Nat):∀ k,it m (a+k) x=it m k (it m a x)
 | 0=>rfl|k+1=>by show f5 m (it m (a+k) x)=_;rw [Jr m a x k];rfl
def Cov (m:Nat):Prop:=∀ i j,i <= m->j <= m->∃ k,k <= m/\it m k i=j
theorem akd {m:Nat} (h0:it m (m+1) 0=0) (h:∀ j,j <= m->∃ k,k <= m/\it m k 0=j):Cov m:=λi j hi hj=>by
 obtain ⟨a,la,ea⟩:=h i hi;obtain ⟨b,lb,eb⟩:=h j hj
 by_cases hab:a <= b
 . refine ⟨b - a,by omega,?_⟩
   rw [<- ea,<- Jr,show a+(b - a)=b by omega,eb]
 . refine ⟨m+1+b - a,by omega,?_⟩
   rw [<- ea,<- Jr,show a+(m+1+b - a)=(m+1)+b by omega,Jr,h0,eb]
def orb (m:Nat):Nat->Nat->List Nat
 | 0,_=>[]|k+1,x=>x :: orb m k (f5 m x)
theorem Vz {m:Nat}:∀ {k x j:Nat},j∈orb m k x->∃ q,q < k/\it m q x=j
 | 0,_,_,h=>by simp [orb] at h
 | k+1,x,j,h=>by
  simp only [orb,List.mem_cons] at h;rcases h with rfl | h
  . exact ⟨0,by omega,rfl⟩
  . obtain ⟨q,l,e⟩:=Vz h
    refine ⟨1+q,by omega,?_⟩;rw [Jr];exact e
theorem Eu {m:Nat} (h0:it m (m+1) 0=0) (h:((List.range (m+1)).all λj=>(orb m (m+1) 0).contains j)=true):Cov m :=
 akd h0 λj hj=>by have:=List.all_eq_true.mp h j (by simp;omega);obtain ⟨q,l,e⟩:=Vz (by simpa using this);exact ⟨q,by omega,e⟩
def Rc (m:Nat):Prop:=m=7 \/ m=15 \/ m=31 \/ m=63 \/ m=127
theorem au8:Cov 7:=Eu (by decide +kernel) (by decide +kernel)
theorem apw:Cov 15:=Eu (by decide +kernel) (by decide +kernel)
theorem apx:Cov 31:=Eu (by decide +kernel) (by decide +kernel)
theorem apy:Cov 63:=Eu (by decide +kernel) (by decide +kernel)
theorem ake:Cov 127:=Eu (by decide +kernel) (by decide +kernel)
theorem Rc.cov {m:Nat} (h:Rc m):Cov m:=by
 rcases h with rfl | rfl | rfl | rfl | rfl
 . exact au8
 . exact apw
 . exact apx
 . exact apy
 . exact ake
theorem ae8 (h:Int):bits h < 2 ^ 64:=by unfold bits;have h1:=Int.emod_nonneg h (b:=2 ^ 64) (by decide);have h2:=Int.emod_lt_of_pos h (b:=2 ^ 64) (by decide);omega
theorem apz (m:Nat) (h:Int):∀ T,I m h T <= m
 | 0=>Nat.le_of_lt_succ (Nat.mod_lt (bits h) (Nat.succ_pos m))|T+1=>Nat.le_of_lt_succ (Nat.mod_lt (I m h T * 5+1+bits h / 32 ^ (T+1)) (Nat.succ_pos m))
theorem aaw (m:Nat) (h:Int):∀ k,I m h (13+k)=it m k (I m h 13)
 | 0=>rfl
 | k+1=>by
  show (I m h (13+k) * 5+1+bits h / 32 ^ (13+k+1)) % (m+1)=f5 m (it m k (I m h 13));have:bits h / 32 ^ (13+k+1)=0:=by
   apply Nat.div_eq_of_lt;refine Nat.lt_of_lt_of_le (ae8 h) ?_
   calc 2 ^ 64 <= 32 ^ 13:=by decide
    _ <= 32 ^ (13+k+1):=Nat.pow_le_pow_right (by decide) (by omega)
  rw [this,aaw m h k];rfl
theorem cover {m:Nat} (hm:Rc m) (h:Int) (j:Nat) (hj:j <= m):∃ T,T <= 13+m/\I m h T=j:=by obtain ⟨k,lk,e⟩:=hm.cov (I m h 13) j (apz m h 13) hj;exact ⟨13+k,by omega,(aaw m h k).trans e⟩
theorem ae9 {m:Nat} (hm:Rc m) (h:Int) (j:Nat) (hj:j <= m):∃ n,n < 10 * turns m/\(P m h n).j=j:=by obtain ⟨T,lT,e⟩:=cover hm h j hj;obtain ⟨n,ln,e2⟩:=aav m h T;exact ⟨n,by unfold turns;omega,by rw [e2];exact e⟩
theorem mod_le (a m:Nat):a % (m+1) <= m:=Nat.le_of_lt_succ (Nat.mod_lt a (Nat.succ_pos m))
theorem Gr {m i:Nat} (h:i <= m):i <= runEnd m i/\runEnd m i <= m:=by unfold runEnd;split<;>omega
theorem ap0 (m:Nat) (h:Int):∀ n,(P m h n).j+(P m h n).more <= m
 | 0=>by
  have:=Gr (mod_le (bits h) m);show bits h % (m+1)+(runEnd m (bits h % (m+1)) - bits h % (m+1)) <= m
  omega
 | n+1=>by
  have ih:=ap0 m h n;show (adv m (P m h n)).j+(adv m (P m h n)).more <= m
  by_cases q:(P m h n).more > 0
  . rw [Ob q];simp only;omega
  . rw [Jq q]
    have:=Gr (mod_le ((P m h n).i * 5+1+(P m h n).perturb / 32) m);show (leap m (P m h n).i (P m h n).perturb).1+(runEnd m (leap m (P m h n).i (P m h n).perturb).1 - (leap m (P m h n).i (P m h n).perturb).1) <= m
    have e:(leap m (P m h n).i (P m h n).perturb).1=((P m h n).i * 5+1+(P m h n).perturb / 32) % (m+1):=rfl;rw [e];omega
theorem au9 (m:Nat) (h:Int) (n:Nat):(P m h n).j <= m:=by have:=ap0 m h n;omega
def Occ (t:SetTable) (j:Nat):Prop:=∃ i:Nat,t.place[i]?=some j
structure Te (t:SetTable) (es:Array (Int×Value)):Prop where
 msk:Rc t.mask
 dum:t.dummies=#[]
 Rf:t.place.size=es.size
 Xv:Srt t.place
 bnd:∀ (i j:Nat),t.place[i]?=some j->j <= t.mask
 ful:t.place.size <= t.mask
 rch:∀ (i j:Nat) e,t.place[i]?=some j->es[i]?=some e->∃ n,(P t.mask e.1 n).j=j/\∀ m,m < n->Occ t (P t.mask e.1 m).j
theorem Te.fits {t:SetTable} {es:Array (Int×Value)} (k:Te t es):t.fits es.size=true:=by unfold SetTable.fits fill;rw [k.dum];simp [k.Rf];have:=k.ful;have:=k.Rf;omega
theorem Rc.odd {m:Nat} (h:Rc m):m % 2=1:=by rcases h with rfl | rfl | rfl | rfl | rfl<;>rfl
theorem Te.way {t:SetTable} {es:Array (Int×Value)} (k:Te t es):t.gaveWay=false:=by unfold gaveWay;rw [k.msk.odd];rfl
theorem aax {xs:Array Nat} {m:Nat} (hs:Srt xs) (h:xs.size <= m):∃ j,j <= m/\∀ i:Nat,xs[i]?≠some j:=by
 apply Classical.byContradiction;intro hn;have all:∀ j,j <= m->∃ i:Nat,xs[i]?=some j:=λj hj=>by apply Classical.byContradiction;intro hc;exact hn ⟨j,hj,λi e=>hc ⟨i,e⟩⟩
 have:∀ j,j <= m->∀ i:Nat,xs[i]?=some j->j <= i:=by
  intro j
  induction j with
  | zero=>intro _ i _;omega
  | succ j ih =>
   intro hj i e;obtain ⟨i',e'⟩:=all j (by omega);have:=ih (by omega) i' e';rcases Nat.lt_trichotomy i i' with l | l | l
   . have:=hs _ _ _ _ e e' l;omega
   . subst l;rw [e] at e';injection e' with e';omega
   . omega
 obtain ⟨i,e⟩:=all m (Nat.le_refl _);have h1:=this m (Nat.le_refl _) i e;have h2:=(Array.getElem?_eq_some_iff.mp e).1;omega
structure Fst (t:SetTable) (h:Int) (N:Nat):Prop where
 lt:N < 10 * turns t.mask
 emp:¬ Occ t (P t.mask h N).j
 occ:∀ m,m < N->Occ t (P t.mask h m).j
theorem least {p:Nat->Prop}:∀ {n:Nat},p n->∃ k,k <= n/\p k/\∀ m,m < k->¬ p m:=by
 intro n
 induction n using Nat.strongRecOn with
 | ind n ih =>
  intro h
  by_cases hc:∃ m,m < n/\p m
  . obtain ⟨m,l,hm⟩:=hc
    obtain ⟨k,l2,a,b⟩:=ih m l hm;exact ⟨k,by omega,a,b⟩
  . exact ⟨n,Nat.le_refl _,h,λm l hm=>hc ⟨m,l,hm⟩⟩
theorem Te.fst {t:SetTable} {es:Array (Int×Value)} (k:Te t es) (h:Int):∃ N,Fst t h N:=by obtain ⟨j,hj,e⟩:=aax k.Xv k.ful;obtain ⟨n,ln,en⟩:=ae9 k.msk h j hj;obtain ⟨N,l,a,b⟩:=least (p:=λn=>¬ Occ t (P t.mask h n).j) (n:=n) (λ⟨i,c⟩=>e i (by rw [en] at c;exact c));exact ⟨N,by omega,a,λm hm=>Classical.not_not.mp (b m hm)⟩
theorem akg {t:SetTable} {es:Array (Int×Value)} (k:Te t es) {h:Int} {N:Nat} (F:Fst t h N) (ha:Nat->Int):∀ (fuel n:Nat),n <= N->N - n < fuel ->
 (probe.go t ha h fuel (P t.mask h n)=some (.empty (P t.mask h N).j none)/\∀ m,n <= m->m < N->∀ i:Nat,t.place[i]?=some (P t.mask h m).j->ha i≠h)
 \/ ∃ m i:Nat,n <= m/\m < N/\t.place[i]?=some (P t.mask h m).j/\ha i=h/\(∀ q,n <= q->q < m->∀ i:Nat,t.place[i]?=some (P t.mask h q).j->ha i≠h)
  /\ probe.go t ha h fuel (P t.mask h n)=some (.candidate (P t.mask h m).j i (P t.mask h (m+1))):=by
 intro fuel
 induction fuel with
 | zero=>intro n _ l;omega
 | succ fuel ih =>
  intro n hn l;unfold probe.go
  by_cases e:n=N
  . subst e
    left
    rw [(Ug k.Xv k.dum).mpr (λi c=>F.emp ⟨i,c⟩)];simp only;rw [Oc];exact ⟨rfl,λm a b=>by omega⟩
  . obtain ⟨i,hi⟩:=F.occ n (by omega)
    rw [(Gq k.Xv).mpr hi];simp only [akc];have hnx:adv t.mask (P t.mask h n)=P t.mask h (n+1):=rfl;rw [hnx]
    by_cases hh:ha i=h
    . right
      refine ⟨n,i,Nat.le_refl _,by omega,hi,hh,λq a b=>by omega,?_⟩;rw [if_pos (by simp [hh])]
    . rw [if_neg (by simp [hh])]
      have un:∀ i':Nat,t.place[i']?=some (P t.mask h n).j->ha i'≠h:=λi' e'=>by have a:=below_at k.Xv e';have b:=below_at k.Xv hi;rw [<- a,b];exact hh
      rcases ih (n+1) (by omega) (by omega) with ⟨a,b⟩ | ⟨m,i',a,b,c,d,e1,e2⟩
      . left
        refine ⟨a,λm x y=>?_⟩
        by_cases q:m=n
        . subst q;exact un
        . exact b m (by omega) y
      . right
        refine ⟨m,i',by omega,b,c,d,λq x y=>?_,e2⟩
        by_cases z:q=n
        . subst z;exact un
        . exact e1 q (by omega) y
theorem Te.ahead {t:SetTable} {es:Array (Int×Value)} (k:Te t es) {h:Int} {N:Nat} (F:Fst t h N) {i:Nat} {e:Int×Value} (he:es[i]?=some e) (hh:e.1=h):∃ m,m < N/\t.place[i]?=some (P t.mask h m).j:=by
 have li:i < t.place.size:=by rw [k.Rf];exact (Array.getElem?_eq_some_iff.mp he).1
 have hp:t.place[i]?=some t.place[i]:=by simp [li]
 obtain ⟨n,a,b⟩:=k.rch i _ e hp he;subst hh;refine ⟨n,?_,by rw [a];exact hp⟩;rcases Nat.lt_trichotomy n N with l | l | l
 . exact l
 . subst l;exact absurd ⟨i,by rw [a];exact hp⟩ F.emp
 . exact absurd (b N l) F.emp
theorem Od {t:SetTable} {j:Nat} (hs:Srt t.place) (q:Nat):Occ (t.put j).1 q ↔ q=j \/ Occ t q:=by
 obtain ⟨h1,h2,h3⟩:=zj (j:=j) hs;constructor
 . rintro ⟨i,e⟩
   have e:(insertAt t.place (below t.place j) j)[i]?=some q:=e;rcases Ca (below t.place j) i with rfl | ⟨i',rfl⟩
   . rw [xr _ _ _ h1] at e;cases e;exact .inl rfl
   . rw [Dp _ _ _ h1] at e;exact .inr ⟨i',e⟩
 . rintro (rfl | ⟨i,e⟩)
   . exact ⟨_,xr _ _ _ h1⟩
   . exact ⟨up (below t.place j) i,(Dp _ _ _ h1 i).trans e⟩
theorem Te.put {t:SetTable} {es:Array (Int×Value)} (k:Te t es) {h:Int} {x:Value} {N:Nat} (F:Fst t h N) (room:t.place.size+1 <= t.mask) :
 Te (t.put (P t.mask h N).j).1 (insertAt es (t.put (P t.mask h N).j).2 (h,x)):=by
 obtain ⟨h1,h2,h3⟩:=zj (j:=(P t.mask h N).j) k.Xv;have h1':below t.place (P t.mask h N).j <= es.size:=by rw [<- k.Rf];exact h1
 refine ⟨k.msk,?_,?_,?_,?_,?_,?_⟩
 . show (if has t.dummies _ then _ else t.dummies)=#[]
   rw [k.dum,Mj];rfl
 . show (insertAt t.place _ _).size=(insertAt es _ _).size
   rw [Et,Et,k.Rf]
 . exact ae6 k.Xv (λi e=>F.emp ⟨i,e⟩)
 . intro i j e
   rcases (Od k.Xv j).mp ⟨i,e⟩ with rfl | ⟨i',e'⟩
   . exact au9 _ _ _
   . exact k.bnd i' j e'
 . show (insertAt t.place _ _).size <= t.mask
   rw [Et];exact room
 . intro i j e hp he
   have hp:(insertAt t.place (below t.place (P t.mask h N).j) (P t.mask h N).j)[i]?=some j:=hp;have he:(insertAt es (below t.place (P t.mask h N).j) (h,x))[i]?=some e:=he;show ∃ n,(P t.mask e.1 n).j=j/\∀ m,m < n->Occ (t.put (P t.mask h N).j).1 (P t.mask e.1 m).j
   rcases Ca (below t.place (P t.mask h N).j) i with rfl | ⟨i',rfl⟩
   . rw [xr _ _ _ h1] at hp
     rw [xr _ _ _ h1'] at he;cases hp;cases he;exact ⟨N,rfl,λm l=>(Od k.Xv _).mpr (.inr (F.occ m l))⟩
   . rw [Dp _ _ _ h1] at hp
     rw [Dp _ _ _ h1'] at he;obtain ⟨n,a,b⟩:=k.rch i' j e hp he;exact ⟨n,a,λm l=>(Od k.Xv _).mpr (.inr (b m l))⟩
abbrev Yw (ow:Array (Option Nat)) (j:Nat):Prop:=∃ i,ow[j]?=some (some i)
structure Own (m:Nat) (ow:Array (Option Nat)) (hs:List Int):Prop where
 Rf:ow.size=m+1
 cnt:ow.toList.countP Option.isSome=hs.length
 lt:∀ (j i:Nat),ow[j]?=some (some i)->i < hs.length
 inj:∀ (j j' i:Nat),ow[j]?=some (some i)->ow[j']?=some (some i)->j=j'
 at':∀ (i:Nat) h,hs[i]?=some h->∃ j n,ow[j]?=some (some i)/\(P m h n).j=j/\∀ q,q < n->Yw ow (P m h q).j
theorem getD_none {m:Nat} {ow:Array (Option Nat)} (hz:ow.size=m+1) {j:Nat} (h:(ow.getD j (some 0)).isNone=true):ow[j]?=some none:=by
 by_cases l:j < ow.size
 . simp [Array.getD,l] at h;simp [l,h]
 . simp [Array.getD,l] at h
theorem getD_some {m:Nat} {ow:Array (Option Nat)} (hz:ow.size=m+1) {j:Nat} (hj:j <= m) (h:¬ (ow.getD j (some 0)).isNone=true):Yw ow j:=by
 have l:j < ow.size:=by omega
 simp [Array.getD,l] at h;unfold Yw;rw [show ow[j]?=some ow[j] by simp [l]];cases e:ow[j] with
 | none=>exact absurd e h|some i=>exact ⟨i,rfl⟩
theorem Xw {m:Nat} {ow:Array (Option Nat)} (hz:ow.size=m+1) (h:Int):∀ (fuel T n:Nat),P m h n=beg m (I m h T) (bits h / 32 ^ T)->(∀ q,q < n->Yw ow (P m h q).j) ->
 (∃ k,k < fuel/\ow[I m h (T+k)]?=some none)->∃ j n',layClean.free m ow fuel (I m h T) (bits h / 32 ^ T)=some j/\(P m h n').j=j/\ow[j]?=some none/\∀ q,q < n'->Yw ow (P m h q).j:=by
 intro fuel
 induction fuel with
 | zero=>rintro T n _ _ ⟨k,l,_⟩;omega
 | succ fuel ih =>
  rintro T n e hq ⟨k,lk,ek⟩;have hI:=apz m h T;obtain ⟨r1,r2⟩:=Gr hI;unfold layClean.free;cases hf:(List.range (runEnd m (I m h T)+1 - I m h T)).find? λk=>(ow.getD (I m h T+k) (some 0)).isNone with
  | some c =>
   obtain ⟨a,b,d⟩:=List.find?_range_eq_some.mp hf;have b:=List.mem_range.mp b;refine ⟨_,n+c,rfl,by rw [Rb e c (by omega)],getD_none hz a,λq l=>?_⟩
   by_cases hn:q < n
   . exact hq q hn
   . obtain ⟨c',rfl⟩:∃ c',q=n+c':=⟨q - n,by omega⟩
     rw [Rb e c' (by omega)];show Yw ow (I m h T+c');exact getD_some hz (by omega) (λhh=>by
      have:=d c' (by omega);simp only [hh] at this;cases this)
  | none =>
   have hall:=List.find?_eq_none.mp hf;have occ:∀ c,c <= runEnd m (I m h T) - I m h T->Yw ow (I m h T+c):=λc hc=>getD_some hz (by omega) (hall c (List.mem_range.mpr (by omega)))
   cases k with
   | zero =>
    obtain ⟨i,ei⟩:=occ 0 (by omega);rw [Nat.add_zero] at ek ei;rw [ek] at ei;cases ei
   | succ k =>
    have pe:bits h / 32 ^ T / 32=bits h / 32 ^ (T+1):=by rw [Nat.div_div_eq_div_mul,<- Nat.pow_succ]
    have:=ih (T+1) (n+(runEnd m (I m h T) - I m h T)+1) (by rw [aau e,pe];rfl) (λq l=>?_) ⟨k,by omega,by rw [show T+1+k=T+(k+1) by omega];exact ek⟩
    . obtain ⟨j,n',e1,e2⟩:=this
      refine ⟨j,n',?_,e2⟩;rw [<- e1];show layClean.free m ow fuel ((I m h T * 5+1+bits h / 32 ^ T / 32) % (m+1)) (bits h / 32 ^ T / 32)=_;rw [pe];rfl
    . by_cases hn:q < n
      . exact hq q hn
      . obtain ⟨c',rfl⟩:∃ c',q=n+c':=⟨q - n,by omega⟩
        rw [Rb e c' (by omega)];show Yw ow (I m h T+c');exact occ c' (by omega)
theorem Own.room {m:Nat} {ow:Array (Option Nat)} {hs:List Int} (k:Own m ow hs) (h:hs.length <= m):∃ j,j <= m/\ow[j]?=some none:=by
 apply Classical.byContradiction;intro hn;have:ow.toList.countP Option.isSome=ow.toList.length:=List.countP_eq_length.mpr λa ha=>by
  obtain ⟨j,hj,e⟩:=List.getElem_of_mem ha;cases a with
  | some i=>rfl
  | none =>
   have hj':j < ow.size:=by simpa using hj
   refine absurd ⟨j,by have:=k.Rf;omega,?_⟩ hn;rw [<- Array.getElem?_toList,List.getElem?_eq_getElem hj,e]
 rw [k.cnt] at this;have:=k.Rf;simp at *;omega
theorem Own.free {m:Nat} {ow:Array (Option Nat)} {hs:List Int} (hm:Rc m) (k:Own m ow hs) (hl:hs.length <= m) (h:Int):∃ j n',layClean.free m ow (turns m) (bits h % (m+1)) (bits h)=some j/\(P m h n').j=j/\ow[j]?=some none/\∀ q,q < n'->Yw ow (P m h q).j:=by obtain ⟨j,hj,e⟩:=k.room hl;obtain ⟨T,lT,eT⟩:=cover hm h j hj;have:=Xw k.Rf h (turns m) 0 0 (by simp [P,I]) (λq l=>by omega) ⟨T,by unfold turns;omega,by rw [Nat.zero_add,eT];exact e⟩;simpa [I] using this
theorem Own.lay {m:Nat} {ow:Array (Option Nat)} {hs:List Int} (k:Own m ow hs) {h:Int} {j n':Nat} (e1:(P m h n').j=j) (e2:ow[j]?=some none) (e3:∀ q,q < n'->Yw ow (P m h q).j) :
 Own m (ow.setIfInBounds j (some hs.length)) (hs ++ [h]):=by
 have lj:j < ow.size:=(Array.getElem?_eq_some_iff.mp e2).1
 have get:∀ q:Nat,(ow.setIfInBounds j (some hs.length))[q]?=if j=q then some (some hs.length) else ow[q]?:=λq=>by rw [Array.getElem?_setIfInBounds];split<;>simp_all
 have occ:∀ q,Yw ow q->Yw (ow.setIfInBounds j (some hs.length)) q:=λq ⟨i,e⟩=>by refine ⟨i,?_⟩;rw [get,if_neg (λh=>by subst h;rw [e2] at e;cases e)];exact e
 refine ⟨by simp [k.Rf],?_,λq i e=>?_,λq q' i e e'=>?_,λi h' e=>?_⟩
 . rw [Array.toList_setIfInBounds,List.countP_set (by simpa using lj),k.cnt]
   have:ow.toList[j]'(by simpa using lj)=none:=by have:=(Array.getElem?_eq_some_iff.mp e2).2;simpa using this
   rw [this];simp
 . rw [get] at e
   split at e
   . cases e;simp
   . have:=k.lt q i e;simp;omega
 . rw [get] at e e'
   split at e<;>split at e'
   . omega
   . cases e;have:=k.lt _ _ e';omega
   . cases e';have:=k.lt _ _ e;omega
   . exact k.inj q q' i e e'
 . by_cases l:i < hs.length
   . rw [List.getElem?_append_left l] at e
     obtain ⟨j',n,a,b,c⟩:=k.at' i h' e;refine ⟨j',n,?_,b,λq l=>occ _ (c q l)⟩;rw [get,if_neg (λh=>by subst h;rw [e2] at a;cases a)];exact a
   . have hi:i=hs.length:=by
      have:=(List.getElem?_eq_some_iff.mp e).1;simp at this;omega
     subst hi;simp at e;subst e;exact ⟨j,n',by rw [get,if_pos rfl],e1,λq l=>occ _ (e3 q l)⟩
theorem V0 {m:Nat} (hm:Rc m):∀ (rest hs:List Int) (ow:Array (Option Nat)),Own m ow hs->hs.length+rest.length <= m+1 ->
 ∃ ow',rest.foldl (λacc h=>do
  let (owner,k) <- acc
  let j <- layClean.free m owner (turns m) (bits h % (m+1)) (bits h)
  pure (owner.setIfInBounds j (some k),k+1)) (some (ow,hs.length))=some (ow',hs.length+rest.length)/\Own m ow' (hs ++ rest)
 | [],hs,ow,k,_=>⟨ow,rfl,by simpa using k⟩
 | h :: rest,hs,ow,k,l=>by
  obtain ⟨j,n',e0,e1,e2,e3⟩:=k.free hm (by simp at l;omega) h;have k':=k.lay e1 e2 e3;obtain ⟨ow',a,b⟩:=V0 hm rest (hs ++ [h]) _ k' (by simp at l ⊢;omega);refine ⟨ow',?_,by simpa using b⟩;rw [List.foldl_cons];have:(do
   let (owner,k) <- some (ow,hs.length)
   let j <- layClean.free m owner (turns m) (bits h % (m+1)) (bits h)
   pure (owner.setIfInBounds j (some k),k+1))=some (ow.setIfInBounds j (some hs.length),(hs ++ [h]).length):=by
   show (layClean.free m ow (turns m) (bits h % (m+1)) (bits h) >>= _)=_;rw [e0];simp
  rw [this,a]
  simp;omega
theorem aay {m:Nat} (hm:Rc m) (hs:Array Int) (l:hs.size <= m+1):∃ ow,layClean m hs=some ow/\Own m ow hs.toList:=by have k0:Own m (Array.replicate (m+1) none) []:=⟨by simp,by simp,λj i e=>by simp [Array.getElem?_replicate] at e,λj j' i e=>by simp [Array.getElem?_replicate] at e,λi h e=>by simp at e⟩;obtain ⟨ow,a,b⟩:=V0 hm hs.toList [] _ k0 (by simpa using l);refine ⟨ow,?_,by simpa using b⟩;unfold layClean;rw [<- Array.foldl_toList];exact (congrArg (Option.map (·.1)) a).trans rfl
def lv (m:Nat) (ow:Array (Option Nat)):List (Nat×Nat):=(List.range (m+1)).filterMap λj=>(ow.getD j none).map (j,·)
theorem Dq {m:Nat} {ow:Array (Option Nat)} {hs:List Int} (k:Own m ow hs) {j i:Nat}:(j,i)∈lv m ow ↔ ow[j]?=some (some i):=by
 unfold lv;rw [List.mem_filterMap];constructor
 . rintro ⟨q,a,b⟩
   obtain ⟨i',e1,e2⟩:=Option.map_eq_some_iff.mp b;cases e2;have:j < ow.size:=by rw [k.Rf];exact List.mem_range.mp a
   simp [Array.getD,this] at e1;simp [this,e1]
 . intro e
   have l:=(Array.getElem?_eq_some_iff.mp e).1;refine ⟨j,List.mem_range.mpr (by rw [<- k.Rf];exact l),?_⟩;have:ow.getD j none=some i:=by simp [Array.getD,l,(Array.getElem?_eq_some_iff.mp e).2]
   rw [this];rfl
theorem aaz (m:Nat) (ow:Array (Option Nat)):(lv m ow).Pairwise λa b=>a.1 < b.1:=by unfold lv;refine List.Pairwise.filterMap _ (λa a' hlt b hb b' hb'=>?_) List.pairwise_lt_range;obtain ⟨_,_,rfl⟩:=Option.map_eq_some_iff.mp hb;obtain ⟨_,_,rfl⟩:=Option.map_eq_some_iff.mp hb';exact hlt
theorem afa {m:Nat} {ow:Array (Option Nat)} {hs:List Int} (k:Own m ow hs):((lv m ow).map (·.2)).Perm (List.range hs.length):=by
 refine (List.perm_ext_iff_of_nodup ?_ List.nodup_range).mpr λi=>?_
 . rw [List.nodup_iff_pairwise_ne,List.pairwise_map]
   refine (aaz m ow).imp_of_mem fun {a b} ha hb hlt e=>?_
   have:=k.inj a.1 b.1 a.2 ((Dq k).mp ha) (by rw [e];exact (Dq k).mp hb);omega
 . rw [List.mem_map,List.mem_range]
   constructor
   . rintro ⟨a,ha,rfl⟩;exact k.lt _ _ ((Dq k).mp ha)
   . intro l
     obtain ⟨j,n,a,_⟩:=k.at' i _ (List.getElem?_eq_getElem l);exact ⟨(j,i),(Dq k).mpr a,rfl⟩
theorem aa0 {α β:Type} {g:α->Option β}:∀ {l:List α},(∀ x∈l,(g x).isSome=true)->∀ q:Nat,(l.filterMap g)[q]?=l[q]?.bind g
 | [],_,q=>by simp
 | x :: l,h,q=>by
  have hx:=h x (List.mem_cons_self ..);obtain ⟨y,e⟩:=Option.isSome_iff_exists.mp hx;rw [List.filterMap_cons_some e];cases q with
  | zero=>simp [e]|succ q=>simpa using aa0 (λx hx=>h x (List.mem_cons_of_mem _ hx)) q
theorem afb {m:Nat} (hm:Rc m) (fg mv:Nat) (ld pl:Bool) (es:Array (Int×Value)) (l:es.size <= m) :
 ∃ t order,laid m fg mv ld pl (es.map (·.1))=some (t,order)/\t.mask=m/\Te t (order.filterMap (es[·]?))/\(order.filterMap (es[·]?)).toList.Perm es.toList/\(order.filterMap (es[·]?)).size=es.size
  /\ t.led=ld/\t.plain=pl/\t.finger=fg:=by
 obtain ⟨ow,e,k⟩:=aay hm (es.map (·.1)) (by simp;omega);have hperm:=afa k;simp at hperm;have hlen:(lv m ow).length=es.size:=by have:=hperm.length_eq;simpa using this
 have hsz:((((lv m ow).map (·.2)).toArray).filterMap (es[·]?)).size=es.size:=by have:=(hperm.filterMap (es[·]?)).length_eq;rw [filterMap_getElem?_range] at this;rw [<- Array.length_toList,Array.toList_filterMap,this];simp
 refine ⟨{ mask:=m,place:=((lv m ow).map (·.1)).toArray,dummies:=#[],finger:=fg,led:=ld,moves:=mv,plain:=pl },((lv m ow).map (·.2)).toArray,?_,rfl,?_,?_,?_,rfl,rfl,rfl⟩
 . unfold laid;rw [e];rfl
 . have hsome:∀ x∈(lv m ow).map (·.2),(es[x]?).isSome=true:=λx hx=>by
    have:=List.mem_range.mp (hperm.mem_iff.mp hx)
    simp;exact this
   have get:∀ q:Nat,((((lv m ow).map (·.2)).toArray).filterMap (es[·]?))[q]?=((lv m ow)[q]?).bind λa=>es[a.2]?:=λq=>by rw [<- Array.getElem?_toList,Array.toList_filterMap,aa0 hsome,List.getElem?_map];cases (lv m ow)[q]?<;>rfl
   have plc:∀ q j:Nat,(((lv m ow).map (·.1)).toArray)[q]?=some j ↔ ∃ i,(lv m ow)[q]?=some (j,i):=λq j=>by
    simp only [List.getElem?_toArray,List.getElem?_map,Option.map_eq_some_iff];constructor
    . rintro ⟨a,h,rfl⟩;exact ⟨a.2,h⟩
    . rintro ⟨i,h⟩;exact ⟨_,h,rfl⟩
   refine ⟨hm,rfl,?_,?_,?_,?_,?_⟩
   . show (((lv m ow).map (·.1)).toArray).size=_
     rw [hsz];simp [hlen]
   . intro i j a b ea eb lt
     obtain ⟨i1,e1⟩:=(plc i a).mp ea;obtain ⟨i2,e2⟩:=(plc j b).mp eb;obtain ⟨l1,g1⟩:=List.getElem?_eq_some_iff.mp e1;obtain ⟨l2,g2⟩:=List.getElem?_eq_some_iff.mp e2;have:=List.pairwise_iff_getElem.mp (aaz m ow) i j l1 l2 lt;rw [g1,g2] at this;exact this
   . intro i j e
     obtain ⟨i1,e1⟩:=(plc i j).mp e;have:=(Dq k).mp (List.mem_of_getElem? e1);have:=(Array.getElem?_eq_some_iff.mp this).1;rw [k.Rf] at this;show j <= m
     omega
   . show (((lv m ow).map (·.1)).toArray).size <= m
     simp [hlen];exact l
   . intro q j e' hp he
     obtain ⟨i,e1⟩:=(plc q j).mp hp;rw [get,e1] at he;have he:es[i]?=some e':=he;obtain ⟨j',n,a,b,c⟩:=k.at' i e'.1 (by simp [he]);have hj:=k.inj j j' i ((Dq k).mp (List.mem_of_getElem? e1)) a;subst hj;refine ⟨n,b,λw lw=>?_⟩;obtain ⟨i',ei'⟩:=c w lw;obtain ⟨z,hz⟩:=List.mem_iff_getElem?.mp ((Dq k).mpr ei');exact ⟨z,(plc z _).mpr ⟨i',hz⟩⟩
 . rw [Array.toList_filterMap]
   have:=hperm.filterMap (es[·]?);rw [filterMap_getElem?_range] at this;exact this
 . exact hsz
theorem Xx:∀ n,n < 32->Rc (sizeAbove (grown n) - 1)/\n <= sizeAbove (grown n) - 1/\n+1 <= sizeAbove (grown n) - 1/\¬ (n * 5 >= (sizeAbove (grown n) - 1) * 3)/\sizeAbove (grown n) <= 128:=by unfold Rc;decide +kernel
theorem aa1:∀ n,n < 64->Rc (sizeAbove (n * 2) - 1)/\n <= sizeAbove (n * 2) - 1/\¬ (n * 5 >= (sizeAbove (n * 2) - 1) * 3)/\sizeAbove (n * 2) <= 128:=by unfold Rc;decide +kernel
section
variable {prog:Program} {w:World} {K:Type} [DecidableEq K] {knd:KeyKind prog w K} {A:Around} {E:Value->Shared->Prop} {s:Shared}
theorem Uh {v:Value} (n:Nat) (h:carriedByValue v=true):ofAClassStatement n v=pure false:=by cases v<;>first | (simp [carriedByValue] at h;done) | (unfold ofAClassStatement;rfl)
theorem Js {ks:List K} {a:Addr} {Q:Bool->Shared->Prop} (hk:IsTupleKey knd s.heap ks a) (h:Q false s):wpAny (model prog w) A (ofAClassStatement 8 (.ref a)) Q E s:=by
 have hT:=hk.typeIs;obtain ⟨o,items,n,ho,_,hd,hi⟩:=hk;unfold ofAClassStatement;refine wpAny_bind (wpAny_typeOf hT ?_);show wpAny _ _ (if ("tuple" == "tuple")=true then _ else _) _ _ s;rw [if_pos (by decide)];refine wpAny_bind (wpAny_pure ?_);simp only [Bool.not_true,Bool.false_eq_true,if_false];refine wpAny_bind (wpAny_seqItems ho hd ?_);refine wpAny_bind ?_;show wpAny _ _ (forIn items _ _) _ _ s;rw [<- Array.forIn_toList];refine wpAny_forIn_list _ (λrest r s'=>r.1=none/\s'=s/\∀ v∈rest,carriedByValue v=true) _ ?_ ?_ _ _ ⟨rfl,rfl,hi.byValue⟩
 . rintro v rest r s' ⟨hr,rfl,hall⟩
   rw [Uh _ (hall v List.mem_cons_self)];refine wpAny_bind (wpAny_pure ?_);simp only [Bool.false_eq_true,if_false];exact wpAny_pure ⟨rfl,rfl,λu hu'=>hall u (List.mem_cons_of_mem _ hu')⟩
 . rintro ⟨r1,r2⟩ s' ⟨hr,rfl,_⟩
   simp only at hr;subst hr;exact wpAny_pure h
theorem aa2 {ks:List K} {a:Addr} {st:List Value} {Q:Bool->Shared->Prop} (hk:IsTupleKey knd s.heap ks a) (hs:∀ v∈st,∃ ks b,v=.ref b/\IsTupleKey knd s.heap ks b) (h:Q false s) :
 wpAny (model prog w) A (searchCouldBeSeen (.ref a) st) Q E s:=by
 unfold searchCouldBeSeen;refine wpAny_bind ?_;refine wpAny_forIn_list _ (λrest r s'=>r.1=none/\s'=s/\∀ v∈rest,∃ ks b,v=.ref b/\IsTupleKey knd s.heap ks b) _ ?_ ?_ _ _ ⟨rfl,rfl,hs⟩
 . rintro v rest r s' ⟨hr,rfl,hall⟩
   obtain ⟨ks',b,rfl,hb⟩:=hall v List.mem_cons_self;have hall':∀ v∈rest,∃ ks b,v=.ref b/\IsTupleKey knd s'.heap ks b:=λv hv=>hall v (List.mem_cons_of_mem _ hv)
   dsimp only;split
   . exact wpAny_pure ⟨rfl,rfl,hall'⟩
   . refine wpAny_bind (wpAny_eqIsQuiet_tuple hk ?_)
     simp only [Bool.not_true,Bool.false_eq_true,if_false];refine wpAny_bind (wpAny_eqIsQuiet_tuple hb ?_);simp only [Bool.not_true,Bool.false_eq_true,if_false];refine wpAny_bind (Js hk ?_);simp only [Bool.false_eq_true,if_false];refine wpAny_bind (Js hb ?_);simp only [Bool.false_eq_true,if_false];exact wpAny_pure ⟨rfl,rfl,hall'⟩
 . rintro ⟨r1,r2⟩ s' ⟨hr,rfl,_⟩
   simp only at hr;subst hr;exact wpAny_pure h
def ent (knd:KeyKind prog w K) (x:List K×Addr):Int×Value:=(tupleKeyHash knd x.1,.ref x.2)
theorem Ui {es:Array (Int×Value)} {xs:List (List K×Addr)} (he:es.toList=xs.map (ent knd)) (j:Nat):es[j]?=(xs[j]?).map (ent knd):=by rw [<- Array.getElem?_toList,he,List.getElem?_map]
theorem Xy {a p:Addr} {k:List K} {o:Obj} {es:Array (Int×Value)} {ep:Nat} {t:SetTable} {xs:List (List K×Addr)} {adding:Bool} {N:Nat}
 (hu:A.units < cLine) (hk:IsTupleKey knd s.heap k p) (ho:s.heap.get? a=some o) (hd:o.data=.set es ep t) (T:Te t es) (he:es.toList=xs.map (ent knd))
 (hx:∀ x∈xs,IsTupleKey knd s.heap x.1 x.2) (hn:(xs.map (·.1)).Nodup) (F:Fst t (tupleKeyHash knd k) N)
 {Q:SetFound->Shared->Prop} (hin:∀ (i:Nat) x,xs[i]?=some x->x.1=k->Q (.there (if adding then none else some i)) s) (hout:(∀ x∈xs,x.1≠k)->Q (.free (P t.mask (tupleKeyHash knd k) N).j false) s) :
 ∀ (fuel n:Nat) (st:Option Probe),n <= N->N - n < fuel->st.getD (t.probeStart (tupleKeyHash knd k))=P t.mask (tupleKeyHash knd k) n ->
  (∀ m,m < n->∀ (i:Nat) x,t.place[i]?=some (P t.mask (tupleKeyHash knd k) m).j->xs[i]?=some x->x.1≠k) ->
  wpAny (model prog w) A (setSearchFrom a (.ref p) (tupleKeyHash knd k) adding fuel st) Q E s:=by
 intro fuel
 induction fuel with
 | zero=>intro n st _ l;omega
 | succ fuel ih =>
  intro n st hnN l hst ap3;unfold setSearchFrom;refine wpAny_bind (wpAny_setState_of ho hd T.fits ?_);dsimp only;rw [T.way,hst];simp only [Bool.false_eq_true,if_false];have key:=akg T F (λi=>(es[i]?.map (·.1)).getD 0) (10 * turns t.mask) n hnN (by have:=F.lt;omega);generalize hpr:t.probe _ (tupleKeyHash knd k) (P t.mask (tupleKeyHash knd k) n)=pr;have hpr:t.probe (λi=>(es[i]?.map (·.1)).getD 0) (tupleKeyHash knd k) (P t.mask (tupleKeyHash knd k) n)=pr:=hpr;have atI:∀ (i j:Nat),t.place[i]?=some j->∃ x,xs[i]?=some x/\es[i]?=some (ent knd x):=λi j e=>by
   have li:i < es.size:=by rw [<- T.Rf];exact (Array.getElem?_eq_some_iff.mp e).1
   have lx:i < xs.length:=by have:=congrArg List.length he;simp at this;omega
   refine ⟨xs[i],by simp [lx],?_⟩;rw [Ui he];simp [lx]
  rcases key with ⟨e,hno⟩ | ⟨m,i,h1,h2,h3,h4,h5,e⟩
  . have e:pr=_:=hpr.symm.trans e
    subst e;dsimp only;refine wpAny_pure (hout λx hxm hxk=>?_);obtain ⟨i,hi⟩:=List.mem_iff_getElem?.mp hxm;have hei:es[i]?=some (ent knd x):=by rw [Ui he,hi];rfl
    obtain ⟨m,lm,hp⟩:=T.ahead F hei (by unfold ent;rw [hxk])
    by_cases hmn:m < n
    . exact ap3 m hmn i x hp hi hxk
    . refine hno m (by omega) lm i hp ?_
      rw [hei];show tupleKeyHash knd x.1=_;rw [hxk]
  . have e:pr=_:=hpr.symm.trans e
    subst e;dsimp only;obtain ⟨x,hxi,hei⟩:=atI i _ h3;have hkx:=hx x (List.mem_of_getElem? hxi);have seen:∀ {R:Bool->Shared->Prop},R false s->wpAny (model prog w) A (searchCouldBeSeen (.ref p) ((es.filter (·.1 == tupleKeyHash knd k)).toList.map (·.2))) R E s:=λhR=>aa2 hk (λv hv=>by
     obtain ⟨y,hy,rfl⟩:=List.mem_map.mp hv;have hy':y∈es.toList:=by simp at hy;simpa using hy.1
     rw [he] at hy';obtain ⟨z,hz,rfl⟩:=List.mem_map.mp hy';exact ⟨z.1,z.2,rfl,hx z hz⟩) hR
    rcases Bool.eq_false_or_eq_true t.led with ap4 | ap4
    all_goals
     simp only [ap4,Bool.not_true,Bool.not_false,Bool.false_eq_true,if_false,if_true]
     first
     | (rw [hei];show wpAny _ _ (holding [.ref x.2] (eqBool (.ref x.2) (.ref p)) >>= _) _ _ _)
     | (refine wpAny_bind (seen ?_);simp only [Bool.false_eq_true,if_false];rw [hei];show wpAny _ _ (holding [.ref x.2] (eqBool (.ref x.2) (.ref p)) >>= _) _ _ _)
     refine wpAny_bind (wpAny_holding (wpAny_eqBool_tuple hu hkx hk ?_));refine wpAny_bind (wpAny_setState_of ho hd T.fits ?_);dsimp only;have hsm:t.sameMemory t.moves t.mask=some true:=by unfold sameMemory;simp
     rw [hsm];dsimp only;rw [if_pos rfl,(Gq T.Xv).mpr h3];dsimp only;rw [hei]
     by_cases hxk:x.1=k
     . have hd1:decide (x.1=k)=true:=by simp [hxk]
       rw [hd1];have hq:=hin i x hxi hxk;cases adding
       . simp only [Bool.false_and,Bool.false_eq_true,if_false]
         refine wpAny_bind (wpAny_isSame_ref_self ?_);refine wpAny_bind (wpAny_pure ?_);simpa using wpAny_pure hq
       . simp only [Bool.and_self,if_true]
         exact wpAny_pure hq
     . have hd1:decide (x.1=k)=false:=by simp [hxk]
       rw [hd1];simp only [Bool.and_false,Bool.false_eq_true,if_false];refine wpAny_bind (wpAny_isSame_ref_self ?_);refine wpAny_bind (wpAny_pure ?_);simp only [if_true];refine ih (m+1) _ (by omega) (by omega) rfl λm' hm' i' x' hp' afc=>?_
       by_cases hc:m' < n
       . exact ap3 m' hc i' x' hp' afc
       . by_cases hm:m'=m
         . subst hm
           have ei:i'=i:=by rw [<- below_at T.Xv hp',<- below_at T.Xv h3]
           subst ei;rw [hxi] at afc;cases afc;exact hxk
         . intro ava
           have avb:es[i']?=some (ent knd x'):=by rw [Ui he,afc];rfl
           refine h5 m' (by omega) (by omega) i' hp' ?_;rw [avb];show tupleKeyHash knd x'.1=_;rw [ava]
end
section
variable {prog:Program} {w:World} {K:Type} [DecidableEq K] {knd:KeyKind prog w K} {pk:List K×Addr->Prop} {A:Around} {E:Value->Shared->Prop} {s:Shared}
abbrev bt (w:World):Bool:=w.params.followText "set-order"
theorem afd {Q:Bool->Shared->Prop} (h:Q (bt w) s):wpAny (model prog w) A setsByText Q E s:=by unfold setsByText;exact wpAny_bind (wpAny_askSetting (wpAny_pure h))
def Gs (knd:KeyKind prog w K) (pk:List K×Addr->Prop):Prop:=∀ x,pk x->∀ k∈x.1,∀ v n,knd.is k v=true->hashByValue n v=pure true
theorem Hk:∀ {ks:List K} {vs:List Value},ItemsAre knd ks vs->(∀ k∈ks,∀ v n,knd.is k v=true->hashByValue n v=pure true)->∀ v∈vs,∀ n,hashByValue n v=pure true
 | _,_,.nil,_,v,h=>by simp at h
 | _,_,.cons h t,hp,v,hv=>by
  rcases List.mem_cons.mp hv with rfl | hv
  . exact λn=>hp _ List.mem_cons_self _ n h
  . exact Hk t (λk hk=>hp k (List.mem_cons_of_mem _ hk)) v hv
theorem Uj (hpk:Gs knd pk) {ks:List K} {a:Addr} {Q:Bool->Shared->Prop} (hk:IsTupleKey knd s.heap ks a) (hp:pk (ks,a)) (h:Q true s):wpAny (model prog w) A (hashByValue 8 (.ref a)) Q E s:=by
 have hT:=hk.typeIs;obtain ⟨o,items,n,ho,_,hd,hi⟩:=hk;unfold hashByValue;refine wpAny_bind (wpAny_specialOf hT F.slot_tuple_hash.lookup ?_);dsimp only;refine wpAny_bind (wpAny_seqItems ho hd ?_);refine wpAny_bind ?_;show wpAny _ _ (forIn items _ _) _ _ s;rw [<- Array.forIn_toList];refine wpAny_forIn_list _ (λrest r s'=>r.1=none/\s'=s/\∀ v∈rest,∀ n,hashByValue n v=pure true) _ ?_ ?_ _ _ ⟨rfl,rfl,Hk hi (hpk _ hp)⟩
 . rintro v rest r s' ⟨hr,rfl,hall⟩
   rw [hall v List.mem_cons_self];refine wpAny_bind (wpAny_pure ?_);simp only [Bool.not_true,Bool.false_eq_true,if_false];exact wpAny_pure ⟨rfl,rfl,λu hu'=>hall u (List.mem_cons_of_mem _ hu')⟩
 . rintro ⟨r1,r2⟩ s' ⟨hr,rfl,_⟩
   simp only at hr;subst hr;exact wpAny_pure h
structure Gu (knd:KeyKind prog w K) (pk:List K×Addr->Prop) (h:Heap) (a:Addr) (xs:List (List K×Addr)) (o:Obj) (es:Array (Int×Value)) (ep:Nat) (t:SetTable):Prop where
 get:h.get? a=some o
 exa:o.ExactSet
 dat:o.data=.set es ep t
 tab:Te t es
 ent:es.toList=xs.map (ent knd)
 keys:∀ x∈xs,IsTupleKey knd h x.1 x.2/\pk x
 nod:(xs.map (·.1)).Nodup
 led:t.led=!bt w
 pla:t.plain=true
def jx (knd:KeyKind prog w K) (pk:List K×Addr->Prop) (h:Heap) (a:Addr) (S:List K->Prop) (n:Nat):Prop:=∃ xs o es ep t,Gu knd pk h a xs o es ep t/\(∀ k,S k ↔ k∈xs.map (·.1))/\xs.length=n/\t.place.size * 5 < t.mask * 3
theorem Gu.size {h:Heap} {a:Addr} {xs:List (List K×Addr)} {o:Obj} {es:Array (Int×Value)} {ep:Nat} {t:SetTable} (X:Gu knd pk h a xs o es ep t):es.size=xs.length:=by have:=congrArg List.length X.ent;simpa using this
theorem aa3 (p:Addr) (es:Array (Int×Value)):byScan (.ref p) es=false:=by unfold byScan;simp [Value.scannable]
theorem aa4 {m:Nat} (h:Rc m):10 * turns m < 100000:=by rcases h with rfl | rfl | rfl | rfl | rfl<;>decide
theorem Jt {a p:Addr} {k:List K} {xs:List (List K×Addr)} {o:Obj} {es:Array (Int×Value)} {ep:Nat} {t:SetTable} {adding:Bool} {N:Nat}
 (hu:A.units < cLine) (hk:IsTupleKey knd s.heap k p) (X:Gu knd pk s.heap a xs o es ep t) (F:Fst t (tupleKeyHash knd k) N)
 {Q:SetFound->Shared->Prop} (hin:∀ (i:Nat) x,xs[i]?=some x->x.1=k->Q (.there (if adding then none else some i)) s) (hout:(∀ x∈xs,x.1≠k)->Q (.free (P t.mask (tupleKeyHash knd k) N).j false) s) :
 wpAny (model prog w) A (setSearch a (.ref p) (tupleKeyHash knd k) adding) Q E s:=by
 unfold setSearch;exact Xy hu hk X.get X.dat X.tab X.ent (λx hx=>(X.keys x hx).1) X.nod F hin hout 100000 0 none (Nat.zero_le _) (by have:=F.lt;have:=aa4 X.tab.msk;omega) (aat _ _) (λm l=>by omega)
theorem afg {a p:Addr} {k:List K} {S:List K->Prop} {n:Nat} {Q:Option Nat->Shared->Prop} (hu:A.units < cLine) (hk:IsTupleKey knd s.heap k p) (hS:jx knd pk s.heap a S n)
 (h:∀ r:Option Nat,(r.isSome=true ↔ S k)->Q r s):wpAny (model prog w) A (setFind a (.ref p) (tupleKeyHash knd k)) Q E s:=by
 obtain ⟨xs,o,es,ep,t,X,hm,_,_⟩:=hS;obtain ⟨N,F⟩:=X.tab.fst (tupleKeyHash knd k);unfold setFind setFindIn;refine wpAny_bind (wpAny_setState_of X.get X.dat X.tab.fits ?_);dsimp only;rw [aa3];simp only [Bool.false_eq_true,if_false];refine wpAny_bind (Jt hu hk X F (λi x hi hx=>?_) (λhno=>?_))
 . simp only [Bool.false_eq_true,if_false]
   exact wpAny_pure (h _ (by simp;exact (hm k).mpr (List.mem_map.mpr ⟨x,List.mem_of_getElem? hi,hx⟩)))
 . dsimp only
   refine wpAny_pure (h _ ?_);simp only [Option.isSome_none,Bool.false_eq_true,false_iff];intro hs;obtain ⟨x,hx,e⟩:=List.mem_map.mp ((hm k).mp hs);exact hno x hx e
end
theorem Ew {α β:Type} {f:α->β}:∀ {l l':List β},l.Perm l'->∀ {xs:List α},l'=xs.map f->∃ xs':List α,l=xs'.map f/\xs'.Perm xs:=by
 intro l l' p
 induction p with
 | nil=>intro xs e;cases xs with
  | nil=>exact ⟨[],rfl,.nil⟩|cons _ _=>cases e
 | cons a p ih =>
  intro xs e;cases xs with
  | nil=>cases e
  | cons x xs =>
   simp only [List.map_cons,List.cons.injEq] at e;obtain ⟨xs',e1,p1⟩:=ih e.2;exact ⟨x :: xs',by simp [e1,e.1],p1.cons x⟩
 | swap a b l =>
  intro xs e
  match xs,e with
  | x :: y :: xs,e =>
   simp only [List.map_cons,List.cons.injEq] at e;obtain ⟨rfl,rfl,rfl⟩:=e;exact ⟨y :: x :: xs,rfl,.swap x y xs⟩
 | trans p q ih1 ih2 =>
  intro xs e;obtain ⟨ys,e1,p1⟩:=ih2 e;obtain ⟨zs,e2,p2⟩:=ih1 e1;exact ⟨zs,e2,p2.trans p1⟩
section
variable {prog:Program} {w:World} {K:Type} [DecidableEq K] {knd:KeyKind prog w K} {pk:List K×Addr->Prop} {A:Around} {E:Value->Shared->Prop} {s:Shared}
theorem aa5 {h h':Heap} {ks:List K} {p a:Addr} {o:Obj} {es ep t} (x:IsTupleKey knd h ks p) (ho:h.get? a=some o) (hd:o.data=.set es ep t) (hs:Heap.SameBut a h h'):IsTupleKey knd h' ks p:=by
 obtain ⟨o',items,n,ho',hc,hd',hi⟩:=x;have hne:p≠a:=by rintro rfl;obtain rfl:o'=o:=Option.some.inj (ho'.symm.trans ho);rw [hd] at hd';exact nomatch hd'
 exact ⟨o',items,n,(hs.2 p hne).trans ho',hc,hd',hi⟩
theorem newX {a:Addr} {xs xs':List (List K×Addr)} {o:Obj} {es es':Array (Int×Value)} {ep:Nat} {t t':SetTable} {h:Heap} (X:Gu knd pk h a xs o es ep t) (T':Te t' es') (he:es'.toList=xs'.map (ent knd))
 (hk:∀ x∈xs',IsTupleKey knd h x.1 x.2/\pk x) (hn:(xs'.map (·.1)).Nodup) (hl:t'.led=!bt w) (hp:t'.plain=true) :
 Gu knd pk (h.update a (Obj.putSet es' t')) a xs' { o with data:=.set es' (ep+1) t' } es' (ep+1) t':=by
 have hg:(h.update a (Obj.putSet es' t')).get? a=some { o with data:=.set es' (ep+1) t' }:=by have:=Heap.get?_update_self (Obj.putSet es' t') X.get (by rw [putSet_of es' t' X.dat];rfl);rw [putSet_of es' t' X.dat] at this;exact this
 exact ⟨hg,X.exa,rfl,T',he,λx hx=>⟨aa5 (hk x hx).1 X.get X.dat (Heap.SameBut.update h a _),(hk x hx).2⟩,hn,hl,hp⟩
theorem Gv {n:Nat} (h:n <= 128):n <= sizeLine:=by rw [sizeLine_eq];omega
theorem Rg {a:Addr} {xs:List (List K×Addr)} {o:Obj} {es:Array (Int×Value)} {ep:Nat} {t:SetTable} {wanted:Nat} (X:Gu knd pk s.heap a xs o es ep t)
 (hm:Rc (sizeAbove wanted - 1)) (hz:es.size <= sizeAbove wanted - 1) (hb:sizeAbove wanted <= 128) {Q:Unit->Shared->Prop}
 (h:∀ h' xs' o' es' ep' t',Heap.SameBut a s.heap h'->Gu knd pk h' a xs' o' es' ep' t'->xs'.Perm xs->t'.mask=sizeAbove wanted - 1->t'.place.size=es.size->Q () { s with heap:=h' }) :
 wpAny (model prog w) A (setRelay a wanted) Q E s:=by
 obtain ⟨t',order,e,e1,T',p,sz,hl,hp,_⟩:=afb hm t.finger (t.movedTo (sizeAbove wanted - 1)) t.led t.plain es hz;unfold setRelay;refine wpAny_bind (wpAny_setState_of X.get X.dat X.tab.fits ?_);dsimp only;rw [if_neg (by have:=Gv hb;omega)];have er:t.relaid (es.map (·.1)) wanted=some (t',order):=e;rw [er];refine wpAny_bind ?_;have hif:wpAny (model prog w) A (if ((order.filterMap (es[·]?)).size != es.size)=true then (do unsupported "internal:set-table-lost-an-element";pure (order.filterMap (es[·]?),t')) else pure (order.filterMap (es[·]?),t'))
  (λr s'=>wpAny (model prog w) A (storeSet a r.1 r.2) Q E s') E s:=by
  rw [if_neg (by simp [sz])];refine wpAny_pure ?_;obtain ⟨xs',ex,px⟩:=Ew p X.ent;have hX:=newX X T' ex (λx hx=>X.keys x (px.mem_iff.mp hx)) ((px.map _).nodup_iff.mpr X.nod) (hl.trans X.led) (hp.trans X.pla);refine wpAny_storeSet_of X.get X.dat (h _ _ _ _ _ _ (Heap.SameBut.update s.heap a _) hX px e1 (by rw [T'.Rf,sz])) (Gv (by rw [sz];omega))
 exact hif
theorem aa6 (hpk:Gs knd pk) {a p:Addr} {k:List K} {S:List K->Prop} {n:Nat} {Q:Bool->Shared->Prop} (hu:A.units < cLine) (hk:IsTupleKey knd s.heap k p) (hp:pk (k,p)) (hS:jx knd pk s.heap a S n) (hn:n+1 < 32)
 (h:∀ h' n' b,Heap.SameBut a s.heap h'->jx knd pk h' a (λk'=>S k' \/ k'=k) n'->n' <= n+1->Q b { s with heap:=h' }) :
 wpAny (model prog w) A (setAddHashed a (.ref p) (tupleKeyHash knd k)) Q E s:=by
 obtain ⟨xs,o,es,ep,t,X,hm,hl,nf⟩:=hS;obtain ⟨N,F⟩:=X.tab.fst (tupleKeyHash knd k);have hsz:=X.size;unfold setAddHashed setAddHashedIn;refine wpAny_holding (wpAny_bind (wpAny_setState_of X.get X.dat X.tab.fits ?_));dsimp only;rw [aa3];simp only [Bool.false_eq_true,if_false];refine wpAny_bind (Jt hu hk X F (λi x hi hx=>?_) (λhno=>?_))
 . dsimp only
   refine wpAny_pure ?_;have hSk:S k:=(hm k).mpr (List.mem_map.mpr ⟨x,List.mem_of_getElem? hi,hx⟩);have:=h s.heap n false (Heap.SameBut.refl a s.heap) ⟨xs,o,es,ep,t,X,λk'=>by
    rw [<- hm k'];exact ⟨λh=>h.elim id (λe=>e ▸ hSk),.inl⟩,hl,nf⟩ (by omega)
   exact this
 . dsimp only
   refine wpAny_bind (wpAny_setState_of X.get X.dat X.tab.fits ?_);dsimp only;have room:t.place.size+1 <= t.mask:=by have:=X.tab.msk;rcases this with e | e | e | e | e<;>omega
   have T':=X.tab.put (x:=.ref p) F room;have hpl:(t.put (P t.mask (tupleKeyHash knd k) N).j).1.plain=true:=X.pla;rw [hpl];simp only [if_true];refine wpAny_bind (Uj hpk hk hp ?_);simp only [if_true];obtain ⟨xs',ex,px⟩:=Ew (f:=ent knd) (insertAt_perm es (t.put (P t.mask (tupleKeyHash knd k) N).j).2 (tupleKeyHash knd k,.ref p)) (xs:=xs ++ [(k,p)]) (by rw [Array.toList_push,X.ent,List.map_append];rfl);have pm:=px.map (·.1);have hnd:(xs'.map (·.1)).Nodup:=pm.nodup_iff.mpr (by
    rw [List.map_append,List.nodup_append];refine ⟨X.nod,by simp,λa ha b hb=>?_⟩;simp at hb;subst hb;rintro rfl;obtain ⟨x,hx,e⟩:=List.mem_map.mp ha;exact hno x hx e)
   have hkeys:∀ x∈xs',IsTupleKey knd s.heap x.1 x.2/\pk x:=λx hx=>by
    rcases List.mem_append.mp (px.mem_iff.mp hx) with hx | hx
    . exact X.keys x hx
    . simp at hx;subst hx;exact ⟨hk,hp⟩
   have hX:=newX X T' ex hkeys hnd X.led X.pla;have hmem:∀ k',(S k' \/ k'=k) ↔ k'∈xs'.map (·.1):=λk'=>by rw [pm.mem_iff,List.map_append,List.mem_append,hm k'];simp
   have hlen:xs'.length=n+1:=by rw [px.length_eq];simp [hl]
   have hes:(insertAt es (t.put (P t.mask (tupleKeyHash knd k) N).j).2 (tupleKeyHash knd k,.ref p)).size=es.size+1:=Et _ _ _;refine wpAny_bind (wpAny_storeSet_of X.get X.dat ?_ (Gv (by rw [hes];omega)));have ap5:(t.put (P t.mask (tupleKeyHash knd k) N).j).1.place.size=es.size+1:=by rw [T'.Rf,hes]
   by_cases htf:(t.put (P t.mask (tupleKeyHash knd k) N).j).1.tooFull=true
   . rw [htf]
     simp only [Bool.not_false,Bool.and_self,if_true];obtain ⟨g1,g2,g3,g4,g5⟩:=Xx (es.size+1) (by omega);refine wpAny_bind (Rg hX g1 (by rw [hes];omega) g5 λh' xs2 o2 es2 ep2 t2 sb X2 p2 em ps=>?_);refine wpAny_pure (h h' (n+1) true ((Heap.SameBut.update s.heap a _).trans sb) ⟨xs2,o2,es2,ep2,t2,X2,λk'=>?_,by rw [p2.length_eq,hlen],?_⟩ (by omega))
     . exact (hmem k').trans (p2.map (·.1)).mem_iff.symm
     . rw [ps,em,hes];omega
   . rw [Bool.not_eq_true] at htf
     rw [htf];simp only [Bool.and_false,Bool.false_eq_true,if_false];refine wpAny_pure (h _ (n+1) true (Heap.SameBut.update s.heap a _) ⟨xs',_,_,_,_,hX,hmem,hlen,?_⟩ (by omega));unfold tooFull at htf;have hf:(t.put (P t.mask (tupleKeyHash knd k) N).j).1.fill=es.size+1:=by unfold fill;rw [ap5,T'.dum];rfl
     rw [hf] at htf;rw [ap5];simp at htf;omega
end
open PySem
theorem upto {M:Model} {A:Around} {E:Value->Shared->Prop} {s:Shared} {β:Type} {f:Nat->β->Sem (ForInStep β)} {n:Nat} (J:Nat->β->Shared->Prop) {Q:β->Shared->Prop}
 (turn:∀ i b z,i < n->J i b z->wpAny M A (f i b) (λr z'=>match r with | .yield b'=>J (i+1) b' z' | .done b'=>Q b' z') E z) (fin:∀ b z,J n b z->Q b z) {b:β} (start:J 0 b s) :
 wpAny M A (forIn [:n] b f) Q E s:=by
 have go:∀ (k i:Nat) (b:β) (z:Shared),n=i+k->J i b z->wpAny M A (forIn (List.range' i k) b f) Q E z:=by
  intro k
  induction k with
  | zero=>intro i b z e hj;subst e;exact wpAny_pure (fin b z hj)
  | succ k ih =>
   intro i b z e hj;show wpAny M A (forIn (i :: List.range' (i+1) k) b f) Q E z;rw [List.forIn_cons];refine wpAny_bind (wpAny_mono (turn i b z (by omega) hj) (λr z' hr=>?_) λ_ _ x=>x)
   match r,hr with
   | .done b',hr=>exact wpAny_pure hr|.yield b',hr=>exact ih (i+1) b' z' (by omega) hr
 have e:(forIn [:n] b f:Sem β)=forIn (List.range' 0 n) b f:=by rw [Std.Legacy.Range.forIn_eq_forIn_range'];simp [Std.Legacy.Range.size]
 rw [e];exact go n 0 b s (by omega) start
theorem sub_dict_set:isSubtype (.type "dict") (.type "set")=pure false:=by rw [isSubtype_type];kernel_rfl
theorem sub_dict_frozenset:isSubtype (.type "dict") (.type "frozenset")=pure false:=by rw [isSubtype_type];kernel_rfl
section
variable {prog:Program} {w:World} {K:Type} [DecidableEq K] {knd:KeyKind prog w K} {pk:List K×Addr->Prop} {A:Around} {E:Value->Shared->Prop} {s:Shared}
theorem qg {v:Value} {T:String} {Q:Bool->Shared->Prop} (hT:s.TypeIs v T) (h1:isSubtype (.type T) (.type "set")=pure false) (h2:isSubtype (.type T) (.type "frozenset")=pure false) (h:Q false s) :
 wpAny (model prog w) A (Builtin.Frozenset.isAnySet v) Q E s:=by
 unfold Builtin.Frozenset.isAnySet;refine wpAny_bind (wpAny_isInstance hT h1 ?_);exact wpAny_isInstance hT h2 h
theorem ave {v:Value} {Q:Bool->Shared->Prop} (hT:s.TypeIs v "set") (h:Q true s):wpAny (model prog w) A (Builtin.Frozenset.isAnySet v) Q E s:=by unfold Builtin.Frozenset.isAnySet;refine wpAny_bind (wpAny_isInstance hT sub_set_self ?_);exact wpAny_pure h
def je (w:World):Obj:={ cls:=.type "set",dict:=none,data:=.set #[] 0 (.fresh 0 0 (!bt w)) }
theorem afh {h:Heap} {a:Addr} (hg:h.get? a=some (je w)):jx knd pk h a (λ_=>False) 0 :=
 ⟨[],je w,#[],0,_,⟨hg,⟨rfl,rfl,rfl⟩,rfl,⟨.inl rfl,rfl,rfl,λi j a b e=>by simp [SetTable.fresh] at e,λi j e=>by simp [SetTable.fresh] at e,by simp [SetTable.fresh],λi j e a=>by simp [SetTable.fresh] at a⟩,
  rfl,λx hx=>by simp at hx,List.nodup_nil,rfl,rfl⟩,λk=>by simp,rfl,by simp [SetTable.fresh]⟩
theorem afi {a:Addr} {S:List K->Prop} {n m:Nat} (hS:jx knd pk s.heap a S n) (hl:n+m < 64) {Q:Unit->Shared->Prop}
 (h:∀ h',Heap.SameBut a s.heap h'->jx knd pk h' a S n->Q () { s with heap:=h' }):wpAny (model prog w) A (setRoomFor a m) Q E s:=by
 obtain ⟨xs,o,es,ep,t,X,hm,hn,nf⟩:=hS;have hsz:=X.size;unfold setRoomFor;refine wpAny_bind (wpAny_setState_of X.get X.dat X.tab.fits ?_);dsimp only;unfold roomFor;have hps:=X.tab.Rf;split
 . rename_i wanted e
   split at e
   . cases e
     obtain ⟨g1,g2,g3,g4⟩:=aa1 (t.place.size+m) (by omega);refine Rg X g1 (by omega) g4 λh' xs2 o2 es2 ep2 t2 sb X2 p2 em ps=>h h' sb ⟨xs2,o2,es2,ep2,t2,X2,λk'=>?_,by rw [p2.length_eq,hn],?_⟩
     . exact (hm k').trans (p2.map (·.1)).mem_iff.symm
     . rw [ps,em];omega
   . cases e
 . exact wpAny_pure (h s.heap (Heap.SameBut.refl _ _) ⟨xs,o,es,ep,t,X,hm,hn,nf⟩)
theorem jx.get {h:Heap} {a:Addr} {S:List K->Prop} {n:Nat} (hS:jx knd pk h a S n):∃ o es ep t,h.get? a=some o/\o.ExactSet/\o.data=.set es ep t/\t.fits es.size=true :=
 let ⟨_,o,es,ep,t,X,_⟩:=hS;⟨o,es,ep,t,X.get,X.exa,X.dat,X.tab.fits⟩
theorem jx.typeIs {a:Addr} {S:List K->Prop} {n:Nat} (hS:jx knd pk s.heap a S n):s.TypeIs (.ref a) "set" :=
 let ⟨o,_,_,_,ho,hc,_⟩:=hS.get;⟨o,ho,hc.1⟩
theorem jx.congr {h:Heap} {a:Addr} {S S':List K->Prop} {n:Nat} (hS:jx knd pk h a S n) (e:∀ k,S k ↔ S' k):jx knd pk h a S' n :=
 let ⟨xs,o,es,ep,t,X,hm,r⟩:=hS;⟨xs,o,es,ep,t,X,λk=>(e k).symm.trans (hm k),r⟩
theorem aa7 (hpk:Gs knd pk) {id:String} {a d:Addr} {S:List K->Prop} {n:Nat} {xs:List (List K×Addr×Value)} {Q:Unit->Shared->Prop} (hu:A.units < cLine) (hS:jx knd pk s.heap a S n)
 (hd:s.heap.DictOfH (tupleKind knd) d xs) (hds:(d == sysModules)=false) (hpx:∀ x∈xs,pk (x.1,x.2.1)) (hl:n+xs.length < 31)
 (h:∀ h' n',Heap.SameBut a s.heap h'->jx knd pk h' a (λk=>S k \/ k∈xs.map (·.1)) n'->Q () { s with heap:=h' }) :
 wpAny (model prog w) A (Builtin.Frozenset.updateFrom id a (.ref d)) Q E s:=by
 have hT:=hd.typeIs;obtain ⟨od,esd,epd,hod,hcd,hdd,hed,hxd,hnd⟩:=hd;obtain ⟨o0,es0,ep0,t0,hg0,hc0,hd0,hf0⟩:=hS.get;have hne:d≠a:=by rintro rfl;rw [hod] at hg0;cases hg0;rw [hdd] at hd0;cases hd0
 have hlen:esd.size=xs.length:=size_of_entries hed;unfold Builtin.Frozenset.updateFrom;refine wpAny_bind (qg hT sub_dict_set sub_dict_frozenset ?_);simp only [Bool.false_eq_true,if_false];refine wpAny_bind (wpAny_typeOf hT ?_);rw [if_pos (by decide)];refine wpAny_bind (wpAny_rule ?_);refine wpAny_bind (m:=Builtin.Frozenset.addrOf (.ref d)) (wpAny_pure ?_);rw [if_neg (by rw [hds];decide)];refine wpAny_bind (wpAny_dictEpoch hod hdd ?_);refine wpAny_bind (wpAny_dictEntries hod hdd ?_);refine wpAny_bind (afi hS (by omega) λh1 sb1 hS1=>?_);have avf:h1.get? d=some od:=(sb1.2 d hne).trans hod;refine wpAny_bind (wpAny_dictEntries avf hdd ?_);refine wpAny_bind ?_;refine upto (λi _ z=>∃ h' n',z={ s with heap:=h' }/\jx knd pk h' a (λk=>S k \/ k∈(xs.take i).map (·.1)) n'/\n' <= n+i/\Heap.SameBut a s.heap h') (λi _ z lt inv=>?_) (λ_ z inv=>?_) ⟨h1,n,rfl,hS1.congr (λk=>by simp),by omega,sb1⟩
 . obtain ⟨h',n',rfl,hS',hn',sb'⟩:=inv
   have hod':h'.get? d=some od:=(sb'.2 d hne).trans hod;refine wpAny_bind (wpAny_dictEntries hod' hdd ?_);have lx:i < xs.length:=by omega
   have he:esd[i]?=some (entryOfKey (tupleKind knd) xs[i]):=by rw [entry_at hed];simp [lx]
   rw [he];have hkk:IsTupleKey knd h' xs[i].1 xs[i].2.1:=aa5 (hxd _ (List.getElem_mem lx)) hg0 hd0 sb';show wpAny _ _ (holding [.ref xs[i].2.1] (setAddHashed a (.ref xs[i].2.1) (tupleKeyHash knd xs[i].1)) >>= _) _ _ _;refine wpAny_bind (wpAny_holding (aa6 (s:={ s with heap:=h' }) hpk hu hkk (hpx _ (List.getElem_mem lx)) hS' (by omega) λh'' n'' b ap8 hS'' hn''=>?_));refine wpAny_bind (wpAny_dictEpoch ((ap8.2 d hne).trans hod') hdd ?_);rw [bne_self_eq_false];refine wpAny_pure ⟨h'',n'',rfl,hS''.congr (λk=>?_),by omega,sb'.trans ap8⟩;rw [List.take_add_one,List.map_append,List.mem_append,show xs[i]?=some xs[i] by simp [lx]];simp [or_assoc]
 . obtain ⟨h',n',rfl,hS',hn',sb'⟩:=inv
   refine wpAny_pure (h h' n' sb' (hS'.congr λk=>?_));rw [List.take_of_length_le (by omega)]
end
section
variable {prog:Program} {w:World} {K:Type} [DecidableEq K] {knd:KeyKind prog w K} {pk:List K×Addr->Prop} {A:Around} {E:Value->Shared->Prop} {s:Shared}
theorem afj {v:Value} {R:Value->Shared->Prop} (post:R (.ref s.heap.objs.size) { s with heap:=s.heap.push (je w) }) :
 codeAny (model prog w) A (.call (.builtin "set.__new__") ⟨[.type "set",v],[]⟩) (wants R E) s:=by
 refine codeAny_call_builtin F.plain_set_new F.entry_set_new (wpAny_of_eq (F.newCall_set_1 v) ?_);have sub:=sub_set_self;unfold Builtin.«set.__new__» Builtin.Frozenset.newClass
 wp_walk
 exact wpAny_askSetting (wpAny_pure (wpAny_bind (wpAny_alloc (wpAny_pure (wpAny_pure post)))))
set_option maxHeartbeats 3200000 in
theorem Hl {x:Value} {R:Shared->Prop} {Q:Value->Shared->Prop}
 (hup:wpAny (model prog w) A.in1.in1 (Builtin.Frozenset.updateFrom "set.__init__" s.heap.objs.size x) (λ_ s'=>R s') E { s with heap:=s.heap.push (je w) })
 (h:∀ s',R s'->Q (.ref s.heap.objs.size) s') :
 wpAny (model prog w) A (call (.type "set") [x]) Q E s:=by
 obtain ⟨c,tl,hmro⟩:=F.called_set.mro;have hmade:=F.called_set.made;have hsub:=F.called_set.sub;refine wpAny_call (codeAny_of_tree ?_);show wpAny _ _ (callAny (.type "set") _) _ _ _;refine wpAny_pure ⟨Code.quiet_builtin _ (by decide +kernel),codeAny_builtin F.entry_type_call ?_⟩;rw [Around.under_plain (weight_type_call_type "set" [x] []) rfl];have h1:=F.called_set.notType;have h2:=F.called_set.canCreate;have hct:=F.typeCall_set_1 x
 repeat (any_goals (first | assumption | wp_step))
 refine codeAny_mono (afj (v:=x) (E:=E) (R:=λobj s₁=>obj=.ref s.heap.objs.size/\s₁={ s with heap:=s.heap.push (je w) }) ⟨rfl,rfl⟩) λr s₁ hr=>?_
 cases r with
 | error e=>exact hr
 | ok fl =>
  cases fl with
  | ret obj =>
   obtain ⟨rfl,rfl⟩:=hr;have hS:(s.heap.push (je w)).get? s.heap.objs.size=some (je w):=Heap.get?_push_size _ rfl;have hT:Shared.TypeIs { s with heap:=s.heap.push (je w) } (.ref s.heap.objs.size) "set" := ⟨_,hS,rfl⟩;have hli:=F.called_set.init.lookup;have hbi:=F.called_set.init.bind (.ref s.heap.objs.size)
   repeat (any_goals (first | assumption | wp_step))
   refine codeAny_mono (codeAny_call_builtin (R:=wants (λr s₂=>r=.none/\R s₂) E) F.called_set.init.plain F.entry_set_init (check_set_init_1 hT ?_)) λr₂ s₂ hr₂=>?_
   . unfold Builtin.«set.__init__» noKeywords
     generalize hUF:Builtin.Frozenset.updateFrom=UF at hup ⊢;unfold je at hS hT hup ⊢
     wp_walk
     exact wpAny_mono hup (λ_ s' hr=>wpAny_pure ⟨rfl,hr⟩) (λe s' he=>he)
   . cases r₂ with
     | error e=>exact hr₂
     | ok fl₂ =>
      cases fl₂ with
      | ret r =>
       obtain ⟨rfl,hq⟩:=hr₂
       repeat (any_goals (first | assumption | wp_step))
       exact h _ hq
      | _=>exact hr₂.elim
  | _=>exact hr.elim
end
open PyProof.Rows (F.entry_set_update_loop F.plain_set_update_loop)
section
variable {prog:Program} {w:World} {K:Type} [DecidableEq K] {knd:KeyKind prog w K} {pk:List K×Addr->Prop} {A:Around} {E:Value->Shared->Prop} {s:Shared}
theorem Gw {h h':Heap} {ks:List K} {p:Addr} {wr:List Addr} (hk:IsTupleKey knd h ks p) (hp:p ∉ wr) (hm:∀ b o,b ∉ wr->h.get? b=some o->h'.get? b=some o):IsTupleKey knd h' ks p :=
 let ⟨o,items,n,ho,r⟩:=hk;⟨o,items,n,hm p o hp ho,r⟩
theorem jx.moved {h h':Heap} {a:Addr} {S:List K->Prop} {n:Nat} {wr:List Addr} (hS:jx knd pk h a S n) (ha:a ∉ wr) (hw:∀ (b:Addr) (ks:List K),b∈wr->¬ IsTupleKey knd h ks b)
 (hm:∀ b o,b ∉ wr->h.get? b=some o->h'.get? b=some o):jx knd pk h' a S n :=
 let ⟨xs,o,es,ep,t,X,r⟩:=hS
 ⟨xs,o,es,ep,t,⟨hm a o ha X.get,X.exa,X.dat,X.tab,X.ent,λx hx=>⟨Gw (X.keys x hx).1 (λhc=>hw _ _ hc (X.keys x hx).1) hm,(X.keys x hx).2⟩,X.nod,X.led,X.pla⟩,r⟩
theorem afk (hpk:Gs knd pk) {R:Result->Shared->Prop} {I:Addr} {fp wr:List Addr} {G:Array GenState->Array GenState->Prop} {n:Nat} {P:Nat->Value->Prop} {St:Nat->Shared->Prop}
 (hu:A.in1.units < cLine) (W:WalksS prog w A.in1 I fp wr G n P St) (a:Addr) (haf:a ∉ fp) (ks:List (List K×Addr)) (hkl:ks.length=n) (hval:∀ i v x,P i v->ks[i]?=some x->v=.ref x.2) (hpx:∀ x∈ks,pk x) (hb:n < 31)
 (hkw:∀ x∈ks,x.2 ∉ wr) (hnk:∀ i (s:Shared),St i s->∀ (b:Addr) (ks:List K),b∈wr->¬ IsTupleKey knd s.heap ks b) :
 ∀ (k i n':Nat) (s:Shared),n - i=k->i <= n->St i s->(∀ x∈ks,IsTupleKey knd s.heap x.1 x.2) ->
  jx knd pk s.heap a (λk'=>k'∈(ks.take i).map (·.1)) n'->n' <= i ->
  (∀ s' n'',Moved (a :: wr) G s s'->jx knd pk s'.heap a (λk'=>k'∈ks.map (·.1)) n''->R (.ok (.ret .none)) s') ->
  codeAny (model prog w) A (.builtin "set.update.loop" ⟨[.ref a,.ref I],[]⟩) R s:=by
 have haw:a ∉ wr:=λh=>haf (W.sub _ h)
 have hsub:∀ b∈wr,b∈a :: wr:=λb hb=>List.mem_cons_of_mem _ hb
 intro k
 induction k with
 | zero =>
  intro i n' s hk hi hst hkeys hS hn' hR;have hin:i=n:=by omega
  subst hin;refine codeAny_builtin F.entry_set_update_loop ?_;rw [Around.under_plainId F.plain_set_update_loop _];show wpAny _ A.in1 (pyNext (.ref I) >>= _) _ _ s;refine wpAny_bind (W.done s _ _ hst λs' hm=>?_);show wpAny _ A.in1 (ret Value.none) _ _ s';refine wpAny_pure (hR s' n' (hm.mono hsub) ((hS.moved haw (hnk _ s hst) hm.heap).congr λk=>?_));rw [List.take_of_length_le (by omega)]
 | succ k ih =>
  intro i n' s hk hi hst hkeys hS hn' hR;have hlt:i < n:=by omega
  refine codeAny_builtin F.entry_set_update_loop ?_;rw [Around.under_plainId F.plain_set_update_loop _];show wpAny _ A.in1 (pyNext (.ref I) >>= _) _ _ s;refine wpAny_bind (W.item i s _ _ hlt hst λv s' hP hst' hm=>?_);have lx:i < ks.length:=by omega
  have hgx:ks[i]?=some ks[i]:=by simp [lx]
  obtain rfl:=hval i v _ hP hgx;have hxm:=List.getElem_mem lx;have hS':=hS.moved haw (hnk _ s hst) hm.heap;have Uk:∀ x∈ks,IsTupleKey knd s'.heap x.1 x.2:=λx hx=>Gw (hkeys x hx) (hkw x hx) hm.heap
  show wpAny _ A.in1 (holding [Value.ref ks[i].2] (setAdd a (.ref ks[i].2)) >>= _) _ _ s';refine wpAny_bind (wpAny_holding ?_);unfold setAdd;refine wpAny_holding ?_;refine wpAny_bind (wpAny_pyHash_tuple hu (Uk _ hxm) ?_);refine aa6 (s:={ s' with toks:=s'.toks+(ks[i].1.length+1) }) hpk hu (Uk _ hxm) (hpx _ hxm) hS' (by omega) λh' n2 b hsb hS2 hn2=>?_
  obtain ⟨oa,esa,epa,ta,hga,hca,hda,hfa⟩:=hS'.get;refine wpAny_pure ⟨plainId_quiet F.plain_set_update_loop _,ih (i+1) n2 _ (by omega) hlt (W.frame _ s' _ _ hst' (Nat.le_add_right _ _) λb hb o e=>?_) (λx hx=>aa5 (Uk x hx) hga hda hsb) (hS2.congr λk=>?_) (by omega) λs'' n3 hm'' hS''=>?_⟩
  . rw [hsb.2 b (λh:b=a=>haf (by rw [<- h];exact hb))];exact e
  . rw [List.take_add_one,List.map_append,List.mem_append,hgx];simp
  . refine hR s'' n3 (Moved.trans W.gtrans ((hm.mono hsub).then_heap (Nat.le_add_right _ _) λb o hb e=>?_) hm'') hS''
    rw [hsb.2 b (λh:b=a=>hb (by rw [h];exact List.mem_cons_self))];exact e
theorem aa8 (hpk:Gs knd pk) {id:String} {a l:Addr} {ks:List (List K×Addr)} {items:Array Value} {Q:Unit->Shared->Prop} (hh:A.handled=none) (hu:A.in1.units+1 < cLine) (hS:jx knd pk s.heap a (λ_=>False) 0)
 (hl:s.heap.IsList l items) (hit:items.toList=ks.map λx=>.ref x.2) (hkeys:∀ x∈ks,IsTupleKey knd s.heap x.1 x.2) (hpx:∀ x∈ks,pk x) (hlen:ks.length < 31)
 (h:∀ h' tk n',(∀ b o,b≠a->s.heap.get? b=some o->h'.get? b=some o)->jx knd pk h' a (λk=>k∈ks.map (·.1)) n'->Q () { s with heap:=h',toks:=tk }) :
 wpAny (model prog w) A (Builtin.Frozenset.updateFrom id a (.ref l)) Q E s:=by
 have hT:s.TypeIs (.ref l) "list" := let ⟨o,ho,hc,_⟩:=hl;⟨o,ho,hc⟩;have hsz:items.size=ks.length:=by rw [<- Array.length_toList,hit];simp
 obtain ⟨oa,esa,epa,ta,hga,hca,hda,hfa⟩:=hS.get;unfold Builtin.Frozenset.updateFrom;refine wpAny_bind (qg hT F.sub_list_set F.sub_list_frozenset ?_);simp only [Bool.false_eq_true,if_false];refine wpAny_bind (wpAny_typeOf hT ?_);rw [if_neg (by decide)];refine wpAny_bind (wpAny_pyIter_list hl ?_);refine wpAny_bind (wpAny_runValue ?_);have hlt:l < s.heap.objs.size:=let ⟨o,ho,_⟩:=hl;Heap.lt_size ho
 have hat:a < s.heap.objs.size:=Heap.lt_size hga
 have hla:l≠a:=by rintro rfl;obtain ⟨o,ho,_,n,hd⟩:=hl;rw [ho] at hga;cases hga;rw [hd] at hda;cases hda
 have hneI:l≠s.heap.objs.size:=Nat.ne_of_lt hlt;have haf:a ∉ [s.heap.objs.size,l]:=by simp only [List.mem_cons,List.not_mem_nil,or_false,not_or];exact ⟨Nat.ne_of_lt hat,λe=>hla e.symm⟩
 have keep:∀ b o,s.heap.get? b=some o->(s.heap.push { cls:=.type "list_iterator",data:=.fields #[.ref l,.int 0 0] }).get? b=some o:=λb o e=>Heap.get?_push_of_some _ e
 refine afk hpk (by omega) ((Walks.list (by simp [hh]) _ l hneI items).toS) a haf ks hsz.symm (λi v x hv hx=>?_) hpx (by omega) (λx hx hc=>?_) (λi s' st b kk hb hkb=>?_) items.size 0 0 _ (by omega) (Nat.zero_le _)
  ⟨⟨_,Heap.get?_push_size _ rfl,rfl,rfl⟩,hl.push _⟩ (λx hx=>Gw (wr:=[]) (hkeys x hx) (by simp) λb o _ e=>keep b o e) ?_ (Nat.le_refl _) ?_
 . have:items.toList[i]?=some v:=by simpa using hv
   rw [hit,List.getElem?_map,hx] at this;exact (Option.some.inj this).symm
 . simp at hc
   obtain ⟨o,_,_,ho,_⟩:=hkeys x hx;have:=Heap.lt_size ho;rw [hc] at this;exact Nat.lt_irrefl _ this
 . simp at hb
   subst hb;obtain ⟨o,_,_,ho,hc,_⟩:=hkb;obtain ⟨⟨o',ho',hc',_⟩,_⟩:=st;rw [ho] at ho';cases ho';rw [hc] at hc';exact absurd hc' (by decide)
 . refine (hS.moved (wr:=[]) (by simp) (by simp) λb o _ e=>keep b o e).congr λk=>by simp
 . intro s' n'' hm hS'
   obtain ⟨h',g',d',tk',os'⟩:=s';have eg:g'=s.gens:=hm.gens;have ed:d'=s.drawn:=hm.drawn;have eo:os'=s.os:=hm.os;subst eg;subst ed;subst eo;show wpAny _ _ _ _ _ _;refine wpAny_pure (h h' tk' n'' (λb o hb e=>?_) hS');refine hm.heap b o ?_ (keep b o e);simp only [List.mem_cons,List.not_mem_nil,or_false,not_or];exact ⟨hb,Nat.ne_of_lt (Heap.lt_size e)⟩
end
theorem Ju {α:Type}:∀ {l:List α} {i:Nat} (h:i < l.length),(l[i] :: l.eraseIdx i).Perm l
 | x :: l,0,_=>List.Perm.refl _
 | x :: l,i+1,h=>by
  have ih:=Ju (l:=l) (i:=i) (by simpa using h);simp only [List.getElem_cons_succ,List.eraseIdx_cons_succ];exact (List.Perm.swap x _ _).trans (ih.cons x)
theorem V1 {α:Type} (nx:Nat->Nat):∀ (fuel k:Nat) (left:List α) (out:Array α),left.length=fuel->(pickOrder.go nx fuel k left out).toList.Perm (out.toList ++ left)
 | 0,k,left,out,h=>by
  have:left=[]:=List.length_eq_zero_iff.mp h;subst this;unfold pickOrder.go;simp
 | fuel+1,k,left,out,h=>by
  unfold pickOrder.go;have hq:nx k % left.length < left.length:=Nat.mod_lt _ (by omega)
  rw [List.getElem?_eq_getElem hq];dsimp only;refine (V1 nx fuel (k+1) _ _ (by rw [List.length_eraseIdx];split<;>omega)).trans ?_;rw [Array.toList_push,List.append_assoc];refine List.Perm.append_left _ ?_;exact Ju hq
theorem Xz {α:Type} (nx:Nat->Nat) (xs:Array α):(pickOrder nx xs).toList.Perm xs.toList:=by unfold pickOrder;simpa using V1 nx xs.size 0 xs.toList #[] (by simp)
theorem Jv {α:Type} [DecidableEq α]:∀ {l1 l2:List α},l1.Nodup->l1 ⊆ l2->l2.length <= l1.length->∀ x∈l2,x∈l1
 | [],l2,_,_,h,x,hx=>by
  have:l2=[]:=List.length_eq_zero_iff.mp (by simpa using h);subst this;simp at hx
 | a :: l1,l2,hn,hs,h,x,hx=>by
  by_cases e:x=a
  . subst e;exact List.mem_cons_self
  . refine List.mem_cons_of_mem _ ?_
    have ha:a∈l2:=hs List.mem_cons_self;have hn':=List.nodup_cons.mp hn;refine Jv (l2:=l2.erase a) hn'.2 (λy hy=>?_) ?_ x ((List.mem_erase_of_ne e).mpr hx)
    . exact (List.mem_erase_of_ne (λ(e:y=a)=>hn'.1 (by rw [<- e];exact hy))).mpr (hs (List.mem_cons_of_mem _ hy))
    . rw [List.length_erase_of_mem ha];simp at h;omega
theorem Oe:entryFor table "set.__ne__" = some Builtin.«frozenset.__ne__» :=
 entryFor_alias (id' := "frozenset.__ne__") (by kernel_rfl) rfl (by decide +kernel) (by kernel_rfl)
theorem sub_set_frozenset:isSubtype (.type "set") (.type "frozenset")=pure false:=by rw [isSubtype_type];kernel_rfl
section
variable {prog:Program} {w:World} {K:Type} [DecidableEq K] {knd:KeyKind prog w K} {pk:List K×Addr->Prop} {A:Around} {E:Value->Shared->Prop} {s:Shared}
theorem afl {a:Addr} {xs:List (List K×Addr)} {o:Obj} {es:Array (Int×Value)} {ep:Nat} {t:SetTable} (X:Gu knd pk s.heap a xs o es ep t) {Q:Array (Int×Value)->Shared->Prop}
 (h:∀ l,l.toList.Perm es.toList->Q l s):wpAny (model prog w) A (setWalk a) Q E s:=by
 unfold setWalk;refine wpAny_bind (wpAny_setState_of X.get X.dat X.tab.fits ?_);dsimp only;refine wpAny_bind (afd ?_);split
 . exact wpAny_bind (wpAny_askSetting (wpAny_pure (h _ (Xz _ _))))
 . rename_i hb
   have hb:bt w=false:=by simpa using hb
   split
   . rename_i hd
     have hd:(!t.plain && decide (es.size > 1))=true:=hd;rw [X.pla] at hd;cases hd
   . refine wpAny_bind ?_
     have:wpAny (model prog w) A (if (!t.led && decide (es.size > 1))=true then unsupported "set:maker-not-led" else pure ()) (λ_ s'=>wpAny (model prog w) A (pure es) Q E s') E s:=by rw [X.led,hb];simp only [Bool.not_false,Bool.not_true,Bool.false_and,Bool.false_eq_true,if_false];exact wpAny_pure (wpAny_pure (h es (List.Perm.refl _)))
     exact this
theorem X3 {ks:List K} {a:Addr} {Q:Bool->Shared->Prop} (hk:IsTupleKey knd s.heap ks a) (h:Q false s):wpAny (model prog w) A (Builtin.Frozenset.quietEq (.ref a)) Q E s:=by
 unfold Builtin.Frozenset.quietEq;refine wpAny_bind (wpAny_specialOf hk.typeIs F.slot_tuple_eq.lookup ?_);refine wpAny_pure ?_;have:(some (Value.builtin "tuple.__eq__") == some (Value.builtin "object.__eq__"))=false:=by decide
 rw [this];exact h
theorem Og {a:Addr} {xs:List (List K×Addr)} {o:Obj} {es:Array (Int×Value)} {ep:Nat} {t:SetTable} {h:Heap} (X:Gu knd pk h a xs o es ep t) {e:Int×Value} (he:e∈es.toList):∃ x∈xs,e=ent knd x:=by rw [X.ent] at he;obtain ⟨x,hx,rfl⟩:=List.mem_map.mp he;exact ⟨x,hx,rfl⟩
theorem X4 {a b:Addr} {xs ys:List (List K×Addr)} {o o':Obj} {es es':Array (Int×Value)} {ep ep':Nat} {t t':SetTable} (X:Gu knd pk s.heap a xs o es ep t) (Y:Gu knd pk s.heap b ys o' es' ep' t') {Q:List (Int×Value)->Shared->Prop}
 (h:∀ l:List (Int×Value),l.Perm es.toList->Q l s):wpAny (model prog w) A (Builtin.Frozenset.walkUnseen a b) Q E s:=by
 unfold Builtin.Frozenset.walkUnseen;refine wpAny_bind (wpAny_setEntries_of X.get X.dat X.tab.fits ?_);refine wpAny_bind (wpAny_setEntries_of Y.get Y.dat Y.tab.fits ?_);refine wpAny_bind ?_;refine wpAny_forIn_list _ (λrest r s'=>r.1=none/\s'=s/\∀ e∈rest,∃ ks p,e.2=.ref p/\IsTupleKey knd s.heap ks p) _ ?_ ?_ _ _ ⟨rfl,rfl,λe he=>?_⟩
 . rintro e rest r s' ⟨hr,rfl,hall⟩
   obtain ⟨ks,p,hep,hk⟩:=hall e List.mem_cons_self;obtain ⟨h0,x0⟩:=e;subst hep;dsimp only;refine wpAny_bind (X3 hk ?_);simp only [Bool.not_false,if_true];unfold Builtin.Frozenset.walk;refine wpAny_bind (wpAny_bind (afl X λl hl=>wpAny_pure ?_));exact wpAny_pure (wpAny_pure (h _ hl))
 . rintro ⟨r1,r2⟩ s' ⟨hr,rfl,_⟩
   simp only at hr;subst hr;exact wpAny_pure (h _ (List.Perm.refl _))
 . rcases List.mem_append.mp he with he | he
   . obtain ⟨x,hx,rfl⟩:=Og X he
     exact ⟨x.1,x.2,rfl,(X.keys x hx).1⟩
   . obtain ⟨x,hx,rfl⟩:=Og Y he
     exact ⟨x.1,x.2,rfl,(Y.keys x hx).1⟩
theorem akh {id:String} {a b:Addr} {S T:List K->Prop} {n m:Nat} (hu:A.units < cLine) (hS:jx knd pk s.heap a S n) (hT:jx knd pk s.heap b T m) {Q:Bool->Shared->Prop}
 (h:∀ c:Bool,(c=true ↔ n <= m/\∀ k,S k->T k)->Q c s):wpAny (model prog w) A (Builtin.Frozenset.subsetOf id a b) Q E s:=by
 have hT':=hT;obtain ⟨xs,o,es,ep,t,X,hm,hn,_⟩:=hS;obtain ⟨ys,o',es',ep',t',Y,hm',hn',_⟩:=hT;have h1:=X.size;have h2:=Y.size;unfold Builtin.Frozenset.subsetOf Builtin.Frozenset.sizeOf;refine wpAny_bind (wpAny_bind (wpAny_setEntries_of X.get X.dat X.tab.fits (wpAny_pure ?_)));refine wpAny_bind (wpAny_bind (wpAny_setEntries_of Y.get Y.dat Y.tab.fits (wpAny_pure ?_)));split
 . exact wpAny_pure (h false (by simp;omega))
 . refine wpAny_bind (wpAny_setEpoch_of X.get X.dat X.tab.fits ?_)
   refine wpAny_bind (X4 X Y λl hl=>?_);refine wpAny_bind ?_;refine wpAny_forIn_list _ (λrest r s'=>r.1=none/\s'=s/\(∀ e∈rest,∃ x∈xs,e=ent knd x)/\∀ x∈xs,ent knd x∈rest \/ T x.1) _ ?_ ?_ _ _ ⟨rfl,rfl,λe he=>Og X (hl.mem_iff.mp he),λx hx=>.inl (hl.mem_iff.mpr (by rw [X.ent];exact List.mem_map.mpr ⟨x,hx,rfl⟩))⟩
   . rintro e rest r s' ⟨hr,rfl,hall,hdone⟩
     obtain ⟨x,hx,rfl⟩:=hall e List.mem_cons_self;show wpAny _ _ (holding [.ref x.2] (setFind b (.ref x.2) (tupleKeyHash knd x.1)) >>= _) _ _ _;refine wpAny_bind (wpAny_holding (afg hu (X.keys x hx).1 hT' λr hr=>?_));cases r with
     | none =>
      simp only [Option.isNone_none,if_true];refine wpAny_pure (wpAny_pure (h false ?_));simp only [Bool.false_eq_true,false_iff,not_and,Classical.not_forall];intro _;refine ⟨x.1,(hm x.1).mpr (List.mem_map.mpr ⟨x,hx,rfl⟩),λhc=>?_⟩;have:=hr.mpr hc;cases this
     | some i =>
      simp only [Option.isNone_some,Bool.false_eq_true,if_false];unfold Builtin.Frozenset.unchanged;refine wpAny_bind (wpAny_bind (wpAny_setEpoch_of X.get X.dat X.tab.fits ?_));rw [if_neg (by simp)];refine wpAny_pure (wpAny_pure ⟨rfl,rfl,λe he=>hall e (List.mem_cons_of_mem _ he),λy hy=>?_⟩);rcases hdone y hy with hc | hc
      . rcases List.mem_cons.mp hc with hc | hc
        . right
          have hTx:T x.1:=hr.mp rfl;have e2:y.2=x.2:=by have:=congrArg Prod.snd hc;unfold ent at this;injection this
          have:y.1=x.1:=IsTupleKey.inj (X.keys y hy).1 (by rw [e2];exact (X.keys x hx).1);rw [this];exact hTx
        . exact .inl hc
      . exact .inr hc
   . rintro ⟨r1,r2⟩ s' ⟨hr,rfl,_,hdone⟩
     simp only at hr;subst hr;refine wpAny_pure (h true ?_);simp only [true_iff];refine ⟨by omega,λk hk=>?_⟩;obtain ⟨x,hx,rfl⟩:=List.mem_map.mp ((hm k).mp hk);rcases hdone x hx with hc | hc
     . simp at hc
     . exact hc
theorem ap9 {a b:Addr} {S T:List K->Prop} {n m:Nat} (hu:A.in1.units < cLine) (hu0:A.units < cLine) (hS:jx knd pk s.heap a S n) (hT:jx knd pk s.heap b T m) {Q:Value->Shared->Prop}
 (h:∀ c:Bool,(c=true ↔ ¬ ∀ k,S k ↔ T k)->Q (.bool c) s):wpAny (model prog w) A (compareOp .NotEq (.ref a) (.ref b)) Q E s:=by
 show wpAny _ _ (richCompare .NotEq (.ref a) (.ref b)) _ _ _;refine wpAny_richCompare_same_room (op:=.NotEq) hS.typeIs hT.typeIs F.slot_set_ne (wpAny_call_entry F.slot_set_ne hS.typeIs Oe ?_ (F.args_set_ne_2 _ _)) hu0;have fin:∀ c:Bool,(c=true ↔ ∀ k,S k ↔ T k)->Q (.bool !c) s:=λc hc=>h _ (by cases c<;>simp_all)
 have hS':=hS;have hT':=hT;obtain ⟨xs,o,es,ep,t,X,hm,hn,_⟩:=hS';obtain ⟨ys,o',es',ep',t',Y,hm',hn',_⟩:=hT';have h1:=X.size;have h2:=Y.size;have same:(∀ k,S k ↔ T k)->n=m:=λe=>by
  have:(xs.map (·.1)).Perm (ys.map (·.1)):=(List.perm_ext_iff_of_nodup X.nod Y.nod).mpr λk=>by rw [<- hm k,<- hm' k];exact e k
  have:=this.length_eq;simp at this;omega
 have back:n=m->(∀ k,S k->T k)->∀ k,S k ↔ T k:=λe hs k=>⟨hs k,λhk=>(hm k).mpr (Jv X.nod (λk hk=>(hm' k).mp (hs k ((hm k).mpr hk))) (by simp;omega) k ((hm' k).mp hk))⟩
 show wpAny _ _ (Builtin.Frozenset.slot1 "__ne__" ⟨[.ref a,.ref b],[]⟩ >>= _) _ _ _;unfold Builtin.Frozenset.slot1 slotArgs;simp only [List.isEmpty_nil,Bool.not_true,Bool.false_eq_true,↓reduceIte,bind_assoc,List.length_cons,List.length_nil,bne_self_eq_false];refine wpAny_bind (wpAny_pure ?_)
 try dsimp only
 refine wpAny_bind (wpAny_pure ?_)
 try dsimp only
 refine wpAny_bind (ave hT.typeIs ?_);simp only [Bool.not_true,Bool.false_eq_true,↓reduceIte];refine wpAny_bind (m:=Builtin.Frozenset.addrOf (.ref a)) (wpAny_pure ?_);refine wpAny_bind (m:=Builtin.Frozenset.addrOf (.ref b)) (wpAny_pure ?_);unfold Builtin.Frozenset.sizeOf;refine wpAny_bind (wpAny_bind (wpAny_setEntries_of X.get X.dat X.tab.fits (wpAny_pure ?_)));refine wpAny_bind (wpAny_bind (wpAny_setEntries_of Y.get Y.dat Y.tab.fits (wpAny_pure ?_)));refine wpAny_bind ?_;split
 . rename_i hne
   refine wpAny_pure ?_;refine wpAny_pure ⟨_,rfl,(λe=>nomatch e),fin false ?_⟩;simp only [Bool.false_eq_true,false_iff];intro e;have:=same e;simp at hne;omega
 . rename_i hne
   have hnm:n=m:=by simp at hne;omega
   refine wpAny_bind (wpAny_bind (wpAny_isInstance hS.typeIs sub_set_frozenset ?_));refine wpAny_pure ?_;simp only [Bool.false_eq_true,↓reduceIte];refine akh hu hS hT λc hc=>?_
   exact wpAny_pure ⟨_,rfl,(λe=>nomatch e),fin c (hc.trans ⟨λe=>back hnm e.2,λe=>⟨by omega,λk=>(e k).mp⟩⟩)⟩
end
open PySem L2
def SmK (k:List Key):Prop:=∃ i j:Int,-1 <= i/\i < 9/\-1 <= j/\j < 9/\k=[.inl i,.inl j]
def V2 (i j:Int):Int:=reduceHash (Builtin.Tuple.tupleHashOf [hashInt i,hashInt j])
def rgI:List Int:=[-1,0,1,2,3,4,5,6,7,8]
theorem aa9:(rgI.all λi=>rgI.all λj=>rgI.all λi'=>rgI.all λj'=>(V2 i j != V2 i' j') || (i == i' && j == j'))=true:=by decide +kernel
theorem Oh {i:Int} (h1:-1 <= i) (h2:i < 9):i∈rgI:=by
 have:i=-1 \/ i=0 \/ i=1 \/ i=2 \/ i=3 \/ i=4 \/ i=5 \/ i=6 \/ i=7 \/ i=8:=by omega
 unfold rgI;simp only [List.mem_cons,List.not_mem_nil,or_false];exact this
theorem aba {P:Program} {w:World} {k k':List Key} (h:SmK k) (h':SmK k') (e:tupleKeyHash (aj P w) k=tupleKeyHash (aj P w) k'):k=k':=by obtain ⟨i,j,a1,a2,a3,a4,rfl⟩:=h;obtain ⟨i',j',b1,b2,b3,b4,rfl⟩:=h';have e:V2 i j=V2 i' j':=e;have:=List.all_eq_true.mp (List.all_eq_true.mp (List.all_eq_true.mp (List.all_eq_true.mp aa9 i (Oh a1 a2)) j (Oh a3 a4)) i' (Oh b1 b2)) j' (Oh b3 b4);rw [e] at this;simp at this;rw [this.1,this.2]
section
variable {prog:Program} {w:World} {A:Around} {E:Value->Shared->Prop} {s:Shared}
theorem Ul {ks:List Key} {a:Addr} {Q:Bool->Shared->Prop} (hk:IsTupleKey (aj prog w) s.heap ks a) (h:Q false s):wpAny (model prog w) A (Builtin.Dict.quietEq (.ref a)) Q E s:=by
 unfold Builtin.Dict.quietEq;refine wpAny_bind (wpAny_specialOf hk.typeIs F.slot_tuple_eq.lookup ?_);refine wpAny_pure ?_;have:(some (Value.builtin "tuple.__eq__") == some (Value.builtin "object.__eq__"))=false:=by decide
 rw [this];exact h
theorem abb {xs:List (List Key×Addr×Value)} (hn:(xs.map (·.1)).Nodup) (hs:∀ x∈xs,SmK x.1) {x:List Key×Addr×Value} (hx:x∈xs) :
 ((xs.map (entryOfKey (tupleKind (aj prog w)))).filter (·.hash == tupleKeyHash (aj prog w) x.1)).length <= 1:=by
 induction xs with
 | nil=>simp
 | cons y ys ih =>
  rw [List.map_cons,List.nodup_cons] at hn;rw [List.map_cons]
  by_cases hy:tupleKeyHash (aj prog w) y.1=tupleKeyHash (aj prog w) x.1
  . have e:=aba (hs y List.mem_cons_self) (hs x hx) hy
    have none:(ys.map (entryOfKey (tupleKind (aj prog w)))).filter (·.hash == tupleKeyHash (aj prog w) x.1)=[]:=by rw [List.filter_eq_nil_iff];intro z hz hq;obtain ⟨z',hz',rfl⟩:=List.mem_map.mp hz;have hq:tupleKeyHash (aj prog w) z'.1=tupleKeyHash (aj prog w) x.1:=eq_of_beq (show (tupleKeyHash (aj prog w) z'.1 == tupleKeyHash (aj prog w) x.1)=true from hq);have:=aba (hs z' (List.mem_cons_of_mem _ hz')) (hs x hx) hq;exact hn.1 (List.mem_map.mpr ⟨z',hz',this.trans e.symm⟩)
    rw [List.filter_cons,none];split<;>simp
  . rw [List.filter_cons,if_neg (by show ¬ ((tupleKeyHash (aj prog w) y.1 == tupleKeyHash (aj prog w) x.1)=true);simpa using hy)]
    rcases List.mem_cons.mp hx with rfl | hx
    . exact absurd rfl hy
    . exact ih hn.2 (λz hz=>hs z (List.mem_cons_of_mem _ hz)) hx
theorem Rh {id:String} {d:Addr} {o:Obj} {es:Array DictEntry} {ep:Nat} {xs:List (List Key×Addr×Value)} {Q:Array DictEntry->Shared->Prop} (ho:s.heap.get? d=some o) (hd:o.data=.dict es ep)
 (he:es.toList=xs.map (entryOfKey (tupleKind (aj prog w)))) (hk:∀ x∈xs,IsTupleKey (aj prog w) s.heap x.1 x.2.1) (hn:(xs.map (·.1)).Nodup) (hs:∀ x∈xs,SmK x.1) (h:Q es s) :
 wpAny (model prog w) A (Builtin.Dict.entriesForEmpty id d) Q E s:=by
 unfold Builtin.Dict.entriesForEmpty;refine wpAny_bind (wpAny_dictEntries ho hd ?_);refine wpAny_bind ?_;rw [<- Array.forIn_toList];refine wpAny_forIn_list _ (λrest _ s'=>s'=s/\∀ e∈rest,∃ x∈xs,e=entryOfKey (tupleKind (aj prog w)) x) _ ?_ ?_ _ _ ⟨rfl,λe hm=>?_⟩
 . rintro e rest r s' ⟨rfl,hall⟩
   obtain ⟨x,hx,rfl⟩:=hall e List.mem_cons_self;show wpAny _ _ (Builtin.Dict.quietEq (.ref x.2.1) >>= _) _ _ _;refine wpAny_bind (Ul (hk x hx) ?_);simp only [Bool.not_false,if_true];have h1:=abb (prog:=prog) (w:=w) hn hs hx;rw [if_neg (by
    intro hc;have:(es.filter (·.hash == (entryOfKey (tupleKind (aj prog w)) x).hash)).size=((xs.map (entryOfKey (tupleKind (aj prog w)))).filter (·.hash == tupleKeyHash (aj prog w) x.1)).length:=by rw [<- he,<- Array.length_toList,Array.toList_filter];rfl
    omega)]
   exact wpAny_pure ⟨rfl,λe he=>hall e (List.mem_cons_of_mem _ he)⟩
 . rintro b s' ⟨rfl,_⟩
   exact wpAny_pure h
 . rw [he] at hm
   obtain ⟨x,hx,rfl⟩:=List.mem_map.mp hm;exact ⟨x,hx,rfl⟩
theorem aqa {h h':Heap} {ks:List Key} {p a:Addr} (x:IsTupleKey (aj prog w) h ks p) (hs:∀ b o,h.get? b=some o->h'.get? b=some o):IsTupleKey (aj prog w) h' ks p :=
 let ⟨o,items,n,ho,r⟩:=x;⟨o,items,n,hs p o ho,r⟩
theorem aqb {d:Addr} {xs:List (List Key×Addr×Value)} {Q:Value->Shared->Prop} (hds:(d == sysModules)=false) (hd:s.heap.DictOfH (tupleKind (aj prog w)) d xs) (hs:∀ x∈xs,SmK x.1) (hsz:xs.length <= sizeLine)
 (h:∀ h',h'.DictOfH (tupleKind (aj prog w)) s.heap.objs.size xs->(∀ b o,s.heap.get? b=some o->h'.get? b=some o)->Q (.ref s.heap.objs.size) { s with heap:=h' }) :
 wpAny (model prog w) A (call (.type "dict") [.ref d]) Q E s:=by
 refine callType_codes (Q₁:=λobj s₁=>obj=.ref s.heap.objs.size/\s₁={ s with heap:=s.heap.push { cls:=.type "dict",data:=.dict #[] } }) F.kt_called_dict (F.kt_typeCall_dict_1 _) F.entry_dict_init (kt_code_dict_new _ ⟨rfl,rfl⟩) ?_;rintro obj s₁ ⟨rfl,rfl⟩;have hdT:=hd.typeIs;obtain ⟨od,esd,epd,hod,hcd,hdd,hed,hxd,hnd⟩:=hd;have keep:∀ b o,s.heap.get? b=some o->(s.heap.push { cls:=.type "dict",data:=.dict #[] }).get? b=some o:=λb o e=>Heap.get?_push_of_some _ e
 have hnew:(s.heap.push { cls:=.type "dict",data:=.dict #[] }).get? s.heap.objs.size=some { cls:=.type "dict",data:=.dict #[] }:=Heap.get?_push_size _ rfl;have hTn:Shared.TypeIs { s with heap:=s.heap.push { cls:=.type "dict",data:=.dict #[] } } (.ref s.heap.objs.size) "dict" := ⟨_,hnew,rfl⟩;have hT':Shared.TypeIs { s with heap:=s.heap.push { cls:=.type "dict",data:=.dict #[] } } (.ref d) "dict" := ⟨od,keep _ _ hod,hcd.1⟩;have hod':=keep _ _ hod;have hdo:s.heap.objs.size≠d:=λe=>absurd (Heap.lt_size hod) (by rw [e];exact Nat.lt_irrefl _)
 have hlen:esd.size=xs.length:=size_of_entries hed;refine ⟨hTn,F.args_dict_init_2 _ _,?_⟩;unfold Builtin.«dict.__init__»;refine wpAny_bind ?_;unfold Builtin.Dict.selfAndRest;refine wpAny_bind (wpAny_notOrdered_dict hTn ?_);show wpAny _ _ (pure (s.heap.objs.size,[Value.ref d])) _ _ _;refine wpAny_pure ?_;show wpAny _ _ (Builtin.Dict.updateFrom "dict.__init__" s.heap.objs.size (.ref d) [] .none) _ _ _;unfold Builtin.Dict.updateFrom;refine wpAny_bind (wpAny_typeOf hT' ?_);rw [if_neg (by decide)];refine wpAny_bind ?_;unfold Builtin.Dict.merge;refine wpAny_bind ?_;unfold Builtin.Dict.readDirectly;refine wpAny_bind (wpAny_isInstance hT' isSubtype_dict_dict ?_);simp only [Bool.not_true,Bool.false_eq_true,if_false];refine wpAny_bind (wpAny_specialOf hT' F.slot_dict_iter.lookup (wpAny_pure ?_));simp only [beq_self_eq_true,if_true];refine wpAny_bind (wpAny_pure ?_);unfold Builtin.Dict.mergeDict;rw [if_neg (by simpa using hdo)];unfold Builtin.Dict.showsAll;rw [if_neg (by rw [hds];exact Bool.false_ne_true)];refine wpAny_bind (wpAny_pure ?_);refine wpAny_bind (wpAny_dictEntries hod' hdd ?_);have kk:∀ {h':Heap},(∀ b o,s.heap.get? b=some o->h'.get? b=some o)->∀ x∈xs,(tupleKind (aj prog w)).is h' x.1 x.2.1:=λhk x hx=>aqa (a:=d) (hxd x hx) hk
 have emp:esd=#[]->∀ s',s'={ s with heap:=s.heap.push { cls:=.type "dict",data:=.dict #[] } }->wpAny (model prog w) A.in1.in1 (Builtin.Dict.addKeywords s.heap.objs.size [] >>= λ_=>ret Value.none) (λfin s'=>match fin with | .done f=>wants (λr s₂=>r=Value.none/\Q (.ref s.heap.objs.size) s₂) E (.ok f) s' | .again c'=>c'.quiet=true/\codeAny (model prog w) A.in1 c' (wants (λr s₂=>r=Value.none/\Q (.ref s.heap.objs.size) s₂) E) s') (λe s'=>wants (λr s₂=>r=Value.none/\Q (.ref s.heap.objs.size) s₂) E (.error e) s') s':=λhe s' hs'=>by have hx0:xs=[]:=List.length_eq_zero_iff.mp (by rw [<- hlen,he];rfl);subst hs';refine wpAny_bind (wpAny_pure (wpAny_pure ⟨rfl,h _ ⟨_,#[],0,hnew,⟨rfl,rfl,rfl⟩,rfl,?_,kk keep,hnd⟩ keep⟩));rw [hx0];rfl
 dsimp only;split
 . refine wpAny_bind (wpAny_dictEntries hnew rfl ?_)
   rw [if_pos (show (#[]:Array DictEntry).isEmpty=true from rfl)];refine wpAny_bind (Rh hod' hdd hed (kk keep) hnd hs ?_);split
   . refine wpAny_bind (wpAny_updateDictKeysTo hnew rfl (wpAny_pure ?_) (by show esd.size <= _;omega))
     have ahu:∀ b o,s.heap.get? b=some o->((s.heap.push { cls:=.type "dict",data:=.dict #[] }).update s.heap.objs.size (Obj.mapDictKeys λ_=>esd)).get? b=some o:=λb o e=>by rw [Heap.get?_update_other _ _ (Ne.symm (Nat.ne_of_lt (Heap.lt_size e)))];exact keep b o e
     refine wpAny_bind (wpAny_pure (wpAny_pure ⟨rfl,h _ ⟨_,esd,0+1,Heap.get?_update_self _ hnew (Obj.isFreed_of_dict (Obj.data_mapDictKeys rfl _)),⟨rfl,rfl,rfl⟩,Obj.data_mapDictKeys rfl _,hed,kk ahu,hnd⟩ ahu⟩))
   . rename_i hne
     exact wpAny_pure (emp (Array.isEmpty_iff.mp (by simpa using hne)) _ rfl)
 . rename_i hf
   have he:esd=#[]:=by
    apply Classical.byContradiction;intro hne;have hx:xs≠[]:=λe=>hne (Array.eq_empty_of_size_eq_zero (by rw [hlen,e];rfl))
    obtain ⟨x,ys,rfl⟩:=List.exists_cons_of_ne_nil hx;have hall:(esd.all λe=>(keyPart e.key).isSome)=true:=by simp only [Bool.not_eq_true',Bool.not_eq_false,Bool.and_eq_true] at hf;exact hf.2
    rw [<- Array.all_toList,hed,List.map_cons,List.all_cons,Bool.and_eq_true] at hall;exact Bool.noConfusion (hall.1:(keyPart (.ref x.2.1)).isSome=true)
   refine wpAny_bind (wpAny_dictEpoch hod' hdd ?_);refine wpAny_bind (wpAny_dictEntries hod' hdd ?_);refine wpAny_bind ?_;rw [he,Std.Legacy.Range.forIn_eq_forIn_range'];simp only [Std.Legacy.Range.size,List.size_toArray,List.length_nil,Nat.sub_zero,Nat.zero_add,Nat.sub_self,Nat.div_one,List.range'_zero,List.forIn_nil];exact wpAny_pure (wpAny_pure (emp he _ rfl))
end
section
variable {prog:Program} {w:World} {A:Around} {E:Value->Shared->Prop} {s:Shared}
inductive vg (A:Around) (s:Shared) (kb:List (List Key×Addr×Value)):List (List Key×Addr×Value)->Bool->Prop
 | nil:vg A s kb [] true
 | miss {k:List Key} {p:Addr} {v:Value} {r:List (List Key×Addr×Value)}:atKey kb k=none->vg A s kb ((k,p,v) :: r) false
 | hit {k:List Key} {p q:Addr} {v y:Value} {r:List (List Key×Addr×Value)} {e b:Bool}:atKey kb k=some (q,y)->SeqAt.EqAt A s v y e->vg A s kb r b->vg A s kb ((k,p,v) :: r) (e && b)
theorem vg.inv {kb:List (List Key×Addr×Value)} {k:List Key} {p:Addr} {v:Value} {r:List (List Key×Addr×Value)} {b:Bool} (h:vg A s kb ((k,p,v) :: r) b) :
 (atKey kb k=none/\b=false) \/ ∃ q y e b',atKey kb k=some (q,y)/\SeqAt.EqAt A s v y e/\vg A s kb r b'/\b=(e && b'):=by
 cases h with
 | miss hn=>exact .inl ⟨hn,rfl⟩|hit hy he hr=>exact .inr ⟨_,_,_,_,hy,he,hr,rfl⟩
theorem abd {b p:Addr} {k:List Key} {v:Value} {kb rest:List (List Key×Addr×Value)} {r:Bool} {Q:Bool->Shared->Prop} {g:Option Nat->Sem Bool} (room:A.units < cLine) (key:IsTupleKey (aj prog w) s.heap k p) (db:s.heap.DictOfH (tupleKind (aj prog w)) b kb)
 (gn:g none=pure false) (gs:∀ j,g (some j)=(do let l <- dictEntries b;match l[j]? with | some f=>holding [f.val] (eqBool v f.val) | _=>unsupported "internal:dict-equal"))
 (hits:vg A s kb ((k,p,v) :: rest) r) (no:r=false->Q false s) (yes:vg A s kb rest r->Q true s) :
 wpAny (model prog w) A (dictFind b (.ref p) (tupleKeyHash (aj prog w) k) >>= g) Q E s:=by
 obtain ⟨o,ents,ep,at1,_,at2,at3,at4,at5⟩:=db;refine wpAny_bind (wpAny_dictFind_heap (knd:=tupleKind (aj prog w)) room key at1 at2 at3 at4 at5 (λnone=>?_) λj pv some'=>?_)
 . rw [gn]
   refine wpAny_pure (no ?_);rcases hits.inv with ⟨_,e⟩ | ⟨_,_,_,_,z,_⟩
   . exact e
   . rw [atKey_none_of_get none] at z;cases z
 . rw [gs]
   have there:=atKey_of_get at5 some';refine wpAny_bind (wpAny_dictEntries at1 at2 ?_);rw [show ents[j]?=some (entryOfKey (tupleKind (aj prog w)) (k,pv)) by rw [entry_at at3,some'];rfl];rcases hits.inv with ⟨z,_⟩ | ⟨q,y,c,d,z,same,more,e⟩
   . rw [there] at z;cases z
   . have:pv=(q,y):=Option.some.inj (there.symm.trans z)
     subst this;refine wpAny_holding (same prog w _ _ ?_);cases c
     . exact no e
     . exact yes (by rw [e];exact more)
theorem aqd {id:String} {a b:Addr} {ka kb:List (List Key×Addr×Value)} {r:Bool} {Q:Bool->Shared->Prop} (room:A.units < cLine) (na:(a == sysModules)=false) (nb:(b == sysModules)=false)
 (da:s.heap.DictOfH (tupleKind (aj prog w)) a ka) (db:s.heap.DictOfH (tupleKind (aj prog w)) b kb) (hits:ka.length=kb.length->vg A s kb ka r) (post:Q (ka.length == kb.length && r) s) :
 wpAny (model prog w) A (Builtin.Dict.samePairs id a b) Q E s:=by
 have db':=db;obtain ⟨o,ents,ep,at1,_,at2,at3,at4,at5⟩:=da;obtain ⟨o',a1q,ep',avj,_,avk,avl,a3q,a3r⟩:=db;have la:=size_of_entries at3;have lb:=size_of_entries avl;unfold Builtin.Dict.samePairs;have sa:∀ {d:Addr} {R:Unit->Shared->Prop},(d == sysModules)=false->R () s->wpAny (model prog w) A (Builtin.Dict.showsAll d) R E s:=λhd hR=>by unfold Builtin.Dict.showsAll;rw [hd];exact wpAny_pure hR
 refine wpAny_bind (sa na (wpAny_bind (sa nb (wpAny_bind (wpAny_dictEntries at1 at2 (wpAny_bind (wpAny_dictEntries avj avk ?_)))))));rw [la,lb];split
 . rename_i ne
   have:(ka.length == kb.length)=false:=by simpa using ne
   rw [this] at post;exact wpAny_bind (wpAny_rule (wpAny_pure post))
 . rename_i eq
   have eq:ka.length=kb.length:=by simpa using eq
   have post:Q r s:=by simpa [eq] using post
   refine wpAny_bind (wpAny_dictEpoch at1 at2 (wpAny_bind ?_));refine upto (λi q z=>z=s/\q=(none,())/\vg A s kb (ka.drop i) r) (λi q z lt inv=>?_) (λq z inv=>?_) ⟨rfl,rfl,hits eq⟩
   . obtain ⟨rfl,rfl,inv⟩:=inv
     rw [List.drop_eq_getElem_cons lt] at inv;refine wpAny_bind (wpAny_dictEntries at1 at2 ?_);rw [show ents[i]?=some (entryOfKey (tupleKind (aj prog w)) ka[i]) by rw [entry_at at3];simp [lt]];refine wpAny_bind (wpAny_holding (abd (v:=ka[i].2.2) room (at4 _ (List.getElem_mem lt)) db' rfl (λ_=>rfl) inv (λe=>?_) λmore=>?_))
     . subst e;exact wpAny_pure (wpAny_pure post)
     . refine wpAny_bind (wpAny_dictEpoch at1 at2 ?_)
       rw [bne_self_eq_false];exact wpAny_pure ⟨rfl,rfl,more⟩
   . obtain ⟨rfl,rfl,inv⟩:=inv
     rw [List.drop_length] at inv;cases inv;exact wpAny_pure post
theorem eqH {a b:Addr} {ka kb:List (List Key×Addr×Value)} {r:Bool} {Q:Value->Shared->Prop} (na:(a == sysModules)=false) (nb:(b == sysModules)=false)
 (da:s.heap.DictOfH (tupleKind (aj prog w)) a ka) (db:s.heap.DictOfH (tupleKind (aj prog w)) b kb) (room:A.units+1 < cLine) (hits:ka.length=kb.length->vg A.in1 s kb ka r) (post:Q (.bool (ka.length == kb.length && r)) s) :
 wpAny (model prog w) A (richCompare .Eq (.ref a) (.ref b)) Q E s:=by
 have two:∀ {R:Value×Value->Shared->Prop},R (.ref a,.ref b) s->wpAny (model prog w) A.in1 (Builtin.Dict.dictSlotArgs "__eq__" ⟨[.ref a,.ref b],[]⟩) R E s:=λhR=>wpAny_bind (wpAny_notOrdered_dict da.typeIs (wpAny_pure hR))
 have body:wpAny (model prog w) A.in1 (Builtin.«dict.__eq__» ⟨[.ref a,.ref b],[]⟩) (λf z=>∃ v,f=.done (.ret v)/\v≠.notImplemented/\Q v z) E s:=by refine wpAny_bind (two (wpAny_bind (wpAny_isInstance (T := "dict") db.typeIs PySem.F.sub_dict_dict ?_)));refine wpAny_bind (wpAny_pure (wpAny_bind (wpAny_pure (wpAny_bind (aqd (show A.units+1 < cLine from room) na nb da db hits (wpAny_pure ⟨_,rfl,(λz=>nomatch z),?_⟩))))));simpa using post
 exact wpAny_richCompare_same_room (op:=.Eq) da.typeIs db.typeIs PySem.F.slot_dict_eq (wpAny_call_entry PySem.F.slot_dict_eq da.typeIs PySem.F.entry_dict_eq body (PySem.F.args_dict_eq_2 _ _)) (by omega)
theorem Ml {P P':Program} {w w':World}:∀ {ks:List Key} {vs:List Value},ItemsAre (aj P w) ks vs->ItemsAre (aj P' w') ks vs
 | _,_,.nil=>.nil|_,_,.cons a b=>.cons a (Ml b)
theorem Ri {P P':Program} {w w':World} {h:Heap} {d:Addr} {xs:List (List Key×Addr×Value)} (hd:h.DictOfH (tupleKind (aj P w)) d xs) (hi:∀ x∈xs,∀ k∈x.1,∃ i,k=Sum.inl i):h.DictOfH (tupleKind (aj P' w')) d xs:=by
 obtain ⟨o,es,ep,h1,h2,h3,h4,h5,h6⟩:=hd;refine ⟨o,es,ep,h1,h2,h3,?_,λx hx=>?_,h6⟩
 . rw [h4]
   refine List.map_congr_left λx hx=>?_
   have:x.1.map (aj P w).hash=x.1.map (aj P' w').hash:=List.map_congr_left λk hk=>by obtain ⟨i,rfl⟩:=hi x hx k hk;rfl
   show DictEntry.mk (reduceHash (Builtin.Tuple.tupleHashOf (x.1.map (aj P w).hash))) _ _=DictEntry.mk (reduceHash (Builtin.Tuple.tupleHashOf (x.1.map (aj P' w').hash))) _ _;rw [this]
 . obtain ⟨o',its,n,g1,g2,g3,g4⟩:=h5 x hx
   refine ⟨o',its,n,g1,g2,g3,?_⟩;exact Ml g4
theorem Mm {P:Program} {a b:Addr} {ka kb:List (List Key×Addr×Value)} {r:Bool} (ha:(a == sysModules)=false) (hb:(b == sysModules)=false) (hab:a≠b)
 (da:s.heap.DictOfH (tupleKind (aj P w)) a ka) (db:s.heap.DictOfH (tupleKind (aj P w)) b kb) (ia:∀ x∈ka,∀ k∈x.1,∃ i,k=Sum.inl i) (ib:∀ x∈kb,∀ k∈x.1,∃ i,k=Sum.inl i)
 (hu:A.units+1 < cLine) (hits:ka.length=kb.length->vg A.in1 s kb ka r):SeqAt.EqAt A s (.ref a) (.ref b) (ka.length == kb.length && r):=by
 intro prog' w' E Q hq;unfold eqBool
 try with_reducible refine wpAny_holding ?_
 show wpAny _ _ (if (Value.ref a == Value.ref b)=true then _ else _) Q E s;rw [if_neg (by intro h;have:=eq_of_beq h;injection this with this;exact hab this)];exact wpAny_bind (eqH ha hb (Ri da ia) (Ri db ib) hu hits (wpAny_truthy_bool hq))
end
end Qd
namespace Sm
open PySem L2
open MW (Ex ji Qc xg mj bw Lv Tg Res Store MO jz Cp Vm Nx Bm Kx Src)
def tu (f:Dv->Dv->Option Bool) (as bs:List Dv) (j:Nat):Bool:=match as[j]?,bs[j]? with
 | some a,some b=>(f a b).getD false|_,_=>false
theorem uo {f:Dv->Dv->Option Bool}:∀ {as bs:List Dv} {r:Bool},MW.Dj f as bs=some r->(∀ (j:Nat) a b,as[j]?=some a->bs[j]?=some b->∃ c,f a b=some c) /\
 r=((List.range (min as.length bs.length)).all (tu f as bs) && as.length == bs.length)
 | [],[],r,h=>by cases h;exact ⟨λj a b e=>by simp at e,by simp⟩
 | [],b :: bs,r,h=>by cases h;exact ⟨λj a b e=>by simp at e,by simp⟩
 | a :: as,[],r,h=>by cases h;exact ⟨λj a b _ e=>by simp at e,by simp⟩
 | a :: as,b :: bs,r,h=>by
  simp only [MW.Dj] at h;split at h
  . rename_i x y h1 h2
    cases h;obtain ⟨g1,g2⟩:=uo h2;refine ⟨λj a' b' e1 e2=>?_,?_⟩
    . cases j with
      | zero=>simp at e1 e2;subst e1 e2;exact ⟨x,h1⟩|succ j=>exact g1 j a' b' (by simpa using e1) (by simpa using e2)
    . rw [List.length_cons,List.length_cons,Nat.succ_min_succ,List.range_succ_eq_map,List.all_cons,List.all_map]
      have z:tu f (a :: as) (b :: bs) 0=x:=by simp [tu,h1]
      have z2:(tu f (a :: as) (b :: bs) ∘ Nat.succ)=tu f as bs:=by funext j;simp [tu]
      rw [z,z2,g2];have z3:(as.length+1 == bs.length+1)=(as.length == bs.length):=by
       by_cases q:as.length=bs.length
       . simp [q]
       . have:¬ (as.length+1=bs.length+1):=by omega
         simp [q,this]
      rw [z3,Bool.and_assoc]
  . cases h
section
variable {nm:Nm} {W:jz} {X:Cx} {a b c o:Expr} {a' b' c' o':Ex} {pos pos' apos:Pos} {ι:Io} {H:Hp} {σ:St} {ρ:En} {M M1 M2:Store} {x y:Dv} {es:List Expr} {es':ji} {K:Fg}
theorem Az {f:Dv->Dv->Option Bool} (hf:∀ x y v r,Rep K ι H x v->Rep K ι H y v->f x y=some r->r=true):∀ {as bs:List Dv} {vs:List V} {r:Bool},bc K ι H as vs->bc K ι H bs vs->MW.Dj f as bs=some r->r=true
 | _,_,_,_,.nil,.nil,h=>by cases h;rfl
 | _,_,_,_,.cons h1 t1,.cons h2 t2,h=>by
  simp only [MW.Dj] at h;split at h
  . rename_i x y e1 e2
    cases h;rw [hf _ _ _ _ h1 h2 e1,Az hf t1 t2 e2];rfl
  . cases h
theorem Rj (S:az nm K ι H M) {v:V} {ds es:List Dv} (rx:Rep K ι H x v) (ry:Rep K ι H y v) (h1:MW.asList M x=some ds) (h2:MW.asList M y=some es):∃ vs,bc K ι H ds vs/\bc K ι H es vs:=by
 cases rx with
 | vl e1 n1 r1 =>
  cases ry with
  | vl e2 n2 r2 =>
   simp [MW.asList] at h1 h2;subst h1 h2;rw [e1] at e2;cases e2;exact ⟨_,r1,r2⟩
  | ref e2=>exact absurd (List.mem_of_getElem? e2) n1.1|_=>simp [MW.asList] at h2
 | @ref n p e1 =>
  cases ry with
  | vl e2 n2 r2=>exact absurd (List.mem_of_getElem? e1) n2.1
  | @ref n' _ e2 =>
   have hn:n=n':=by obtain ⟨l1,q1⟩:=List.getElem?_eq_some_iff.mp e1;obtain ⟨l2,q2⟩:=List.getElem?_eq_some_iff.mp e2;exact (List.getElem_inj S.nd).mp (q1.trans q2.symm)
   subst hn;rw [h1] at h2;cases h2;simp only [MW.asList] at h1;split at h1
   . rename_i q hM
     cases h1;obtain ⟨vs,g1,g2⟩:=S.obj n _ p hM e1;exact ⟨vs,g2,g2⟩
   . cases h1
  | _=>simp [MW.asList] at h2
 | _=>simp [MW.asList] at h1
theorem Oi (S:az nm K ι H M):∀ (k:Nat) (x y:Dv) (v:V) (r:Bool),Rep K ι H x v->Rep K ι H y v->MW.qm M k x y=some r->r=true
 | 0,_,_,_,_,_,_,h=>by cases h
 | k+1,x,y,v,r,rx,ry,h=>by
  have ih:=Oi S k;have lists:∀ ds es,MW.asList M x=some ds->MW.asList M y=some es->(if ds.length=es.length then MW.Dj (MW.qm M k) ds es else some false)=some r->r=true:=λds es h1 h2 h3=>by obtain ⟨vs,r1,r2⟩:=Rj S rx ry h1 h2;rw [if_pos (r1.length.trans r2.length.symm)] at h3;exact Az (λx y v r a b c=>ih x y v r a b c) r1 r2 h3
  cases rx with
  | non=>cases ry;cases h;rfl|bl b=>cases ry;cases h;simp|int i=>cases ry;cases h;simp|str z=>cases ry;cases h;simp
  | @tup p ds vs e1 r1 =>
   cases ry with
   | @tup _ es vs2 e2 r2 =>
    rw [e1] at e2;cases e2;exact Az (λx y v r a b c=>ih x y v r a b c) r1 r2 h
   | vl e2 n2 r2=>rw [e1] at e2;cases e2|fz e2 r2=>cases h|@ref n _ e2=>rw [gh (λ_ e=>by cases e) (λ_ e=>by cases e)] at h;cases h
  | @vl p ds vs e1 n1 r1 =>
   cases ry with
   | tup e2 r2=>rw [e1] at e2;cases e2|@vl _ es vs2 e2 n2 r2=>exact lists ds es rfl rfl h|fz e2 r2=>cases h|ref e2=>exact absurd (List.mem_of_getElem? e2) n1.1
  | fz e1 r1 =>
   cases ry with
   | @ref n _ e2=>rw [gh (λ_ e=>by cases e) (λ_ e=>by cases e)] at h;cases h
   | _=>cases h
  | @ref n p e1 =>
   cases ry with
   | tup e2 r2=>rw [ug (λ_ e=>by cases e) (λ_ e=>by cases e)] at h;cases h
   | vl e2 n2 r2=>exact absurd (List.mem_of_getElem? e1) n2.1|fz e2 r2=>rw [ug (λ_ e=>by cases e) (λ_ e=>by cases e)] at h;cases h
   | @ref n' _ e2 =>
    cases hl:MW.asList M (.ref n) with
    | none =>
     rw [jn,hl] at h;cases hl2:MW.asList M (.ref n') with
     | some es=>rw [hl2] at h;cases h
     | none =>
      rw [hl2] at h;obtain ⟨_,_,_,_,_,_,hc⟩:=Gp h;rcases hc with ⟨_,er⟩ | ⟨en,_⟩
      . exact er
      . obtain ⟨l1,q1⟩:=List.getElem?_eq_some_iff.mp e1
        obtain ⟨l2,q2⟩:=List.getElem?_eq_some_iff.mp e2;exact absurd ((List.getElem_inj S.nd).mp (q1.trans q2.symm)) en
    | some ds =>
     cases hl2:MW.asList M (.ref n') with
     | none=>simp [MW.qm,hl,hl2] at h|some es=>exact lists ds es hl hl2 (by simpa [MW.qm,hl,hl2] using h)
theorem Vals.Rk {xs:List V} {us:List Value} {j:Nat} {v:V} {u:Value} (r:Vals xs us) (h1:xs[j]?=some v) (h2:us[j]?=some u):RelV v u:=by obtain ⟨u',e1,e2⟩:=L2.Vals.get r h1;rw [h2] at e1;cases e1;exact e2
theorem m8 {K:Fg}:∀ {l:List (List Kx×Dv)} {l':List (List Key×V)},bu K ι H (λk k'=>k=k') l l'->l'.map (·.1)=l.map (·.1)
 | _,_,.nil=>rfl|_,_,.cons k h t=>by simp [m8 t,k]
theorem Ey {l:List (List Key×V)} {xs:List (List Key×Addr×Value)} (r:KT H l xs):xs.map (·.1)=l.map (·.1)/\∀ x∈xs,H x.2.1=some (.tup (x.1.map kV)):=by
 induction r with
 | nil=>exact ⟨rfl,by simp⟩
 | @cons p q ps qs hq t ih =>
  refine ⟨by simp [ih.1,hq.1],λx hx=>?_⟩;rcases List.mem_cons.mp hx with rfl | hx
  . rw [<- hq.1];exact hq.2.1
  . exact ih.2 x hx
theorem Ez {K:Fg} {l:List (List Kx×Dv)} {l':List (List Key×V)} {xs:List (List Key×Addr×Value)} (h:MW.Lp l=true) (g:bu K ι H (λk k'=>k=k') l l') (r:KT H l' xs):∀ x∈xs,∀ k∈x.1,∃ i,k=Sum.inl i:=λx hx k hk=>by
 have e:=(Ey r).1.trans (m8 g);have:x.1∈l.map (·.1):=by rw [<- e];exact List.mem_map.mpr ⟨x,hx,rfl⟩
 obtain ⟨y,hy,ey⟩:=List.mem_map.mp this;simp only [MW.Lp,List.all_eq_true] at h;have:=h y hy k (by rw [ey];exact hk);cases k with
 | inl i=>exact ⟨i,rfl⟩|inr s=>cases this
theorem Jw {pins:List (Addr×Obj)} {s:Shared} (I:Inv X pins σ H s) (S:az nm X.K ι H M):∀ (k:Nat) (A:Around) (x y:Dv) (v u:V) (v' u':Value) (r:Bool),gm k A->Rep X.K ι H x v->Rep X.K ι H y u->RelV v v'->RelV u u'->MW.qm M k x y=some r->SeqAt.EqAt A s v' u' r
 | 0,_,_,_,_,_,_,_,_,_,_,_,_,_,h=>by cases h
 | k+1,A,x,y,v,u,v',u',r,hr,rx,ry,rv,ru,h=>by
  have ih:=Jw I S k A.in1;have hr1:=hr.in1;have elems:∀ (ds es:List Dv) (vs ws:List V) (is js:List Value) (rr:Bool),bc X.K ι H ds vs->bc X.K ι H es ws->Vals vs is->Vals ws js->MW.Dj (MW.qm M k) ds es=some rr ->
   ∀ j (h1:j < is.toArray.size) (h2:j < js.toArray.size),SeqAt.EqAt A.in1 s is.toArray[j] js.toArray[j] (tu (MW.qm M k) ds es j):=λds es vs ws is js rr rd re rvs rws he j h1 h2=>by
   have l1:j < ds.length:=by rw [rd.length,rvs.length];simpa using h1
   have l2:j < es.length:=by rw [re.length,rws.length];simpa using h2
   have g1:ds[j]?=some ds[j]:=by simp [l1]
   have g2:es[j]?=some es[j]:=by simp [l2]
   obtain ⟨c,hc⟩:=(uo he).1 j _ _ g1 g2;obtain ⟨va,a1,a2⟩:=rd.get g1;obtain ⟨wa,b1,b2⟩:=re.get g2;have q1:is[j]?=some is.toArray[j]:=by simp
   have q2:js[j]?=some js.toArray[j]:=by simp
   have:=ih _ _ va wa _ _ c hr1 a2 b2 (Vals.Rk rvs a1 q1) (Vals.Rk rws b1 q2) hc;have z:tu (MW.qm M k) ds es j=c:=by simp [tu,g1,g2,hc]
   rw [z];exact this
  have lists:∀ (p p2:Addr) (ds es:List Dv),v=.ref p->u=.ref p2->MW.asList M x=some ds->MW.asList M y=some es->(if ds.length=es.length then MW.Dj (MW.qm M k) ds es else some false)=some r->SeqAt.EqAt A s v' u' r:=λp p2 ds es hv hu h1 h2 h3=>by
   subst hv hu;cases rv;cases ru;obtain ⟨_,vs,hv,g1,g2⟩:=dg S rx h1;cases hv;obtain ⟨_,ws,hw,g3,g4⟩:=dg S ry h2;cases hw
   by_cases hpp:p=p2
   . subst hpp
     have:r=true:=by rw [g1] at g3;cases g3;rw [if_pos (g2.length.trans g4.length.symm)] at h3;exact Az (λx y v r a b c=>Oi S k x y v r a b c) g2 g4 h3
     rw [this];exact SeqAt.EqAt.same _
   . refine SeqAt.EqAt.of_refs hpp ?_
     obtain ⟨is,r1,pl1,_⟩:=I.list (uh.of g1);obtain ⟨js,r2,pl2,_⟩:=I.list (uh.of g3)
     by_cases hl:ds.length=es.length
     . rw [if_pos hl] at h3
       have hsz:is.toArray.size=js.toArray.size:=by simp [<- r1.length,<- r2.length,<- g2.length,<- g4.length,hl]
       have:=SeqAt.RcAt.lists (e:=tu (MW.qm M k) ds es) pl1.isList pl2.isList hsz hr.Gh (elems ds es vs ws is js r g2 g4 r1 r2 h3);rw [(uo h3).2];have e1:is.toArray.size=min ds.length es.length:=by simp [<- r1.length,<- g2.length,hl]
       rw [e1] at this;simpa [hl] using this
     . rw [if_neg hl] at h3
       cases h3;exact SeqAt.RcAt.lists_lengths pl1.isList pl2.isList (by simp [<- r1.length,<- r2.length,<- g2.length,<- g4.length,hl]) hr.Gh
  cases rx with
  | non=>(cases ry<;>first | cases h | (rw [gh (λ_ e=>by cases e) (λ_ e=>by cases e)] at h;cases h));cases rv;cases ru;exact SeqAt.EqAt.same _
  | bl b=>(cases ry<;>first | cases h | (rw [gh (λ_ e=>by cases e) (λ_ e=>by cases e)] at h;cases h));cases rv;cases ru;exact SeqAt.EqAt.bool_bool _ _
  | int i =>
   cases ry<;>first | cases h | (rw [gh (λ_ e=>by cases e) (λ_ e=>by cases e)] at h;cases h)
   obtain ⟨t,rfl⟩:=rv;obtain ⟨t2,rfl⟩:=ru;rw [<- Bool.beq_eq_decide_eq];exact SeqAt.EqAt.int_int _ _ _ _
  | str z =>
   cases ry<;>first | cases h | (rw [gh (λ_ e=>by cases e) (λ_ e=>by cases e)] at h;cases h)
   obtain ⟨t,rfl⟩:=rv;obtain ⟨t2,rfl⟩:=ru;rw [<- Bool.beq_eq_decide_eq];exact SeqAt.EqAt.str_str _ _ _ _
  | @tup p ds vs e1 r1 =>
   cases ry with
   | @tup p2 es ws e2 r2 =>
    cases rv;cases ru;have h:MW.Dj (MW.qm M k) ds es=some r:=h
    by_cases hpp:p=p2
    . subst hpp
      have:r=true:=by rw [e1] at e2;cases e2;exact Az (λx y v r a b c=>Oi S k x y v r a b c) r1 r2 h
      rw [this];exact SeqAt.EqAt.same _
    . refine SeqAt.EqAt.of_refs hpp ?_
      obtain ⟨is,g1,pl1,_⟩:=I.tuple (yt.of e1);obtain ⟨js,g2,pl2,_⟩:=I.tuple (yt.of e2);have:=SeqAt.RcAt.tuples (e:=tu (MW.qm M k) ds es) (show s.heap.IsTuple p is.toArray from pl1) (show s.heap.IsTuple p2 js.toArray from pl2) hr.Gh (elems ds es vs ws is js r r1 r2 g1 g2 h);rw [(uo h).2];have z1:is.toArray.size=ds.length:=by simp [<- g1.length,<- r1.length]
      have z2:js.toArray.size=es.length:=by simp [<- g2.length,<- r2.length]
      rw [z1,z2] at this;exact this
   | @ref n _ e2=>rw [gh (λ_ e=>by cases e) (λ_ e=>by cases e)] at h;cases h
   | _=>cases h
  | @vl p ds vs e1 n1 r1 =>
   cases ry with
   | @vl p2 es ws e2 n2 r2=>exact lists p p2 ds es rfl rfl rfl rfl h
   | @ref n p2 e2 =>
    rw [Jp] at h;cases hl:MW.asList M (.ref n) with
    | none=>rw [hl] at h;cases h|some es=>rw [hl] at h;exact lists p p2 ds es rfl rfl rfl hl h
   | _=>cases h
  | fz e1 r1 =>
   cases ry with
   | @ref n _ e2=>rw [gh (λ_ e=>by cases e) (λ_ e=>by cases e)] at h;cases h
   | _=>cases h
  | @ref n p e1 =>
   cases hl:MW.asList M (.ref n) with
   | none =>
    cases ry with
    | @ref n' p2 e2 =>
     rw [jn,hl] at h;cases hl2:MW.asList M (.ref n') with
     | some es=>rw [hl2] at h;cases h
     | none =>
      rw [hl2] at h;obtain ⟨ka,kb,m1,m2,i1,i2,hc⟩:=Gp h;cases rv;cases ru;rcases hc with ⟨en,er⟩ | ⟨en,h3⟩
      . subst en;subst er
        rw [e1] at e2;cases e2;exact SeqAt.EqAt.same _
      . have hpp:p≠p2:=λz=>by
         subst z;obtain ⟨l1,q1⟩:=List.getElem?_eq_some_iff.mp e1;obtain ⟨l2,q2⟩:=List.getElem?_eq_some_iff.mp e2;exact en ((List.getElem_inj S.nd).mp (q1.trans q2.symm))
        obtain ⟨la,g1,g2⟩:=S.obj n _ p m1 e1;obtain ⟨lb,g3,g4⟩:=S.obj n' _ p2 m2 e2;obtain ⟨_,z1,xa,ra,da⟩:=Qq I.hok g1;obtain ⟨_,z2,xb,rb,db⟩:=Qq I.hok g3;have hla:xa.length=ka.length:=by have:=congrArg List.length ((Ey ra).1.trans (m8 g2));simpa using this
        have hlb:xb.length=kb.length:=by have:=congrArg List.length ((Ey rb).1.trans (m8 g4));simpa using this
        have hu:A.units+1 < cLine:=by have:=hr1.Gh;exact this
        have hits:∀ (ka:List (List Kx×Dv)) (la:List (List Key×V)) (xa:List (List Key×Addr×Value)) (r:Bool),bu X.K ι H (λk k'=>k=k') ka la->KT H la xa->MW.eqK (MW.qm M k) kb ka=some r->Qd.vg A.in1 s xb xa r:=by
         intro ka
         induction ka with
         | nil =>
          intro la xa r hp hk he;cases hp;cases hk;cases he;exact .nil
         | cons kv ka ihk =>
          intro la xa r hp hk he;cases hp with
          | @cons q q' d v _ la' hq rd hp' =>
           subst hq;cases hk with
           | @cons _ w _ xa' hw hk' =>
            obtain ⟨w1,w2,w3⟩:=w;obtain ⟨hw1,_,hw3⟩:=hw;have hw1:q=w1:=hw1;subst hw1;simp only [MW.eqK] at he;split at he
            . rename_i hn
              cases he;refine .miss ?_;have:=(g4.look (k:=q)).2 hn;have hv:=(rb.val q).uf;rw [this] at hv;cases hat:atKey xb q with
              | none=>rfl|some z=>rw [hat] at hv;cases hv
            . rename_i y hy
              split at he
              . rename_i eb bb he1 he2
                cases he;obtain ⟨vy,hv1,hv2⟩:=(g4.look (k:=q)).1 y hy;have hv:=rb.val q;rw [hv1] at hv;cases hat:atKey xb q with
                | none=>rw [hat] at hv;exact hv.elim
                | some z =>
                 rw [hat] at hv;obtain ⟨z1',z2'⟩:=z;have hv:RelV vy z2':=hv;exact .hit hat (ih d y v vy w3 z2' eb hr1 rd hv2 hw3 hv he1) (ihk la' xa' bb hp' hk' he2)
              . cases he
        by_cases hlen:ka.length=kb.length
        . rw [if_pos hlen] at h3
          have:=Qd.Mm z1 z2 hpp da db (Ez i1 g2 ra) (Ez i2 g4 rb) hu (λ_=>hits ka la xa r g2 ra h3);simpa [hla,hlb,hlen] using this
        . rw [if_neg hlen] at h3
          cases h3;have:=Qd.Mm (A:=A) (s:=s) (r:=false) z1 z2 hpp da db (Ez i1 g2 ra) (Ez i2 g4 rb) hu (λe=>absurd (by rw [<- hla,<- hlb];exact e) hlen);simpa using this
    | @vl p2 es ws e2 n2 r2=>rw [zg,hl] at h;cases h|_=>rw [ug (λ_ e=>by cases e) (λ_ e=>by cases e)] at h;cases h
   | some ds =>
    cases ry with
    | @vl p2 es ws e2 n2 r2 =>
     rw [zg,hl] at h;exact lists p p2 ds es rfl rfl hl rfl h
    | @ref n' p2 e2 =>
     cases hl2:MW.asList M (.ref n') with
     | none=>rw [jn,hl,hl2] at h;cases h|some es=>exact lists p p2 ds es rfl rfl hl hl2 (by rw [jn,hl,hl2] at h;exact h)
    | _=>rw [ug (λ_ e=>by cases e) (λ_ e=>by cases e)] at h;cases h
inductive Oj (A:Around) (s:Shared):Value->Value->Bool->Prop
 | tups {p p2:Addr} {is js:Array Value} (e:Nat->Bool) (h1:s.heap.IsTuple p is) (h2:s.heap.IsTuple p2 js) (he:∀ j (h1:j < is.size) (h2:j < js.size),SeqAt.EqAt A.in1 s is[j] js[j] (e j)):Oj A s (.ref p) (.ref p2) ((List.range (min is.size js.size)).all e && is.size == js.size)
 | aqe {p p2:Addr} {is js:Array Value} (e:Nat->Bool) (h1:s.heap.IsList p is) (h2:s.heap.IsList p2 js) (hz:is.size=js.size) (he:∀ j (h1:j < is.size) (h2:j < js.size),SeqAt.EqAt A.in1 s is[j] js[j] (e j)):Oj A s (.ref p) (.ref p2) ((List.range is.size).all e)
 | lens {p p2:Addr} {is js:Array Value} (h1:s.heap.IsList p is) (h2:s.heap.IsList p2 js) (hz:(is.size != js.size)=true):Oj A s (.ref p) (.ref p2) false
theorem Mp {pins:List (Addr×Obj)} {s:Shared} {A:Around} {k:Nat} (I:Inv X pins σ H s) (S:az nm X.K ι H M) (hr:gm k A.in1) {ds es:List Dv} {vs ws:List V} {is js:List Value} {rr:Bool} (rd:bc X.K ι H ds vs) (re:bc X.K ι H es ws) (rvs:Vals vs is) (rws:Vals ws js) (he:MW.Dj (MW.qm M k) ds es=some rr) :
 ∀ j (h1:j < is.toArray.size) (h2:j < js.toArray.size),SeqAt.EqAt A.in1 s is.toArray[j] js.toArray[j] (tu (MW.qm M k) ds es j):=λj h1 h2=>by
 have l1:j < ds.length:=by rw [rd.length,rvs.length];simpa using h1
 have l2:j < es.length:=by rw [re.length,rws.length];simpa using h2
 have g1:ds[j]?=some ds[j]:=by simp [l1]
 have g2:es[j]?=some es[j]:=by simp [l2]
 obtain ⟨c,hc⟩:=(uo he).1 j _ _ g1 g2;obtain ⟨va,a1,a2⟩:=rd.get g1;obtain ⟨wa,b1,b2⟩:=re.get g2;have q1:is[j]?=some is.toArray[j]:=by simp
 have q2:js[j]?=some js.toArray[j]:=by simp
 have:=Jw I S k A.in1 _ _ va wa _ _ c hr a2 b2 (Vals.Rk rvs a1 q1) (Vals.Rk rws b1 q2) hc;have z:tu (MW.qm M k) ds es j=c:=by simp [tu,g1,g2,hc]
 rw [z];exact this
theorem zm {pins:List (Addr×Obj)} {s:Shared} {A:Around} {k:Nat} {r:Bool} {v u:V} {v' u':Value} {ds es:List Dv} (I:Inv X pins σ H s) (S:az nm X.K ι H M) (hr:gm k A.in1) (rx:Rep X.K ι H x v) (ry:Rep X.K ι H y u) (rv:RelV v v') (ru:RelV u u')
 (h1:MW.asList M x=some ds) (h2:MW.asList M y=some es) (h3:(if ds.length=es.length then MW.Dj (MW.qm M k) ds es else some false)=some r):Oj A s v' u' r:=by
 obtain ⟨p,vs,rfl,g1,g2⟩:=dg S rx h1;obtain ⟨p2,ws,rfl,g3,g4⟩:=dg S ry h2;cases rv;cases ru;obtain ⟨is,r1,pl1,_⟩:=I.list (uh.of g1);obtain ⟨js,r2,pl2,_⟩:=I.list (uh.of g3)
 by_cases hl:ds.length=es.length
 . rw [if_pos hl] at h3
   have hsz:is.toArray.size=js.toArray.size:=by simp [<- r1.length,<- r2.length,<- g2.length,<- g4.length,hl]
   have z:=Oj.aqe (A:=A) (tu (MW.qm M k) ds es) pl1.isList pl2.isList hsz (Mp I S hr g2 g4 r1 r2 h3);rw [(uo h3).2];have e1:is.toArray.size=min ds.length es.length:=by simp [<- r1.length,<- g2.length,hl]
   rw [e1] at z;simpa [hl] using z
 . rw [if_neg hl] at h3
   cases h3;exact .lens pl1.isList pl2.isList (by simp [<- r1.length,<- r2.length,<- g2.length,<- g4.length,hl])
theorem Rm {pins:List (Addr×Obj)} {s:Shared} {A:Around} {k:Nat} {r:Bool} {v u:V} {v' u':Value} (I:Inv X pins σ H s) (S:az nm X.K ι H M) (hr:gm k A.in1) (rx:Rep X.K ι H x v) (ry:Rep X.K ι H y u) (rv:RelV v v') (ru:RelV u u') (h:MW.qm M (k+1) x y=some r) (hnd:MW.Lr M x=false) :
 Oj A s v' u' r \/ (ai5 v u=true/\r=decide (v=u)):=by
 cases rx with
 | non=>(cases ry<;>first | cases h | (rw [gh (λ_ e=>by cases e) (λ_ e=>by cases e)] at h;cases h));exact .inr ⟨rfl,by simp⟩
 | bl b=>(cases ry<;>first | cases h | (rw [gh (λ_ e=>by cases e) (λ_ e=>by cases e)] at h;cases h));exact .inr ⟨rfl,by rename_i b2;by_cases z:b=b2<;>simp [z]⟩
 | int i=>(cases ry<;>first | cases h | (rw [gh (λ_ e=>by cases e) (λ_ e=>by cases e)] at h;cases h));exact .inr ⟨rfl,by rename_i j;by_cases z:i=j<;>simp [z]⟩
 | str z=>(cases ry<;>first | cases h | (rw [gh (λ_ e=>by cases e) (λ_ e=>by cases e)] at h;cases h));exact .inr ⟨rfl,by rename_i j;by_cases q:z=j<;>simp [q]⟩
 | @tup p ds vs e1 r1 =>
  cases ry with
  | @tup p2 es ws e2 r2 =>
   cases rv;cases ru;have h:MW.Dj (MW.qm M k) ds es=some r:=h;obtain ⟨is,g1,pl1,_⟩:=I.tuple (yt.of e1);obtain ⟨js,g2,pl2,_⟩:=I.tuple (yt.of e2);have z:=Oj.tups (A:=A) (tu (MW.qm M k) ds es) (show s.heap.IsTuple p is.toArray from pl1) (show s.heap.IsTuple p2 js.toArray from pl2) (Mp I S hr r1 r2 g1 g2 h);rw [(uo h).2];have z1:is.toArray.size=ds.length:=by simp [<- g1.length,<- r1.length]
   have z2:js.toArray.size=es.length:=by simp [<- g2.length,<- r2.length]
   rw [z1,z2] at z;exact .inl z
  | @ref n _ e2=>rw [gh (λ_ e=>by cases e) (λ_ e=>by cases e)] at h;cases h
  | _=>cases h
 | @vl p ds vs e1 n1 r1 =>
  cases ry with
  | @vl p2 es ws e2 n2 r2=>exact .inl (zm I S hr (.vl e1 n1 r1) (.vl e2 n2 r2) rv ru rfl rfl h)
  | @ref n p2 e2 =>
   rw [Jp] at h;cases hl:MW.asList M (.ref n) with
   | none=>rw [hl] at h;cases h|some es=>rw [hl] at h;exact .inl (zm I S hr (.vl e1 n1 r1) (.ref e2) rv ru rfl hl h)
  | _=>cases h
 | fz e1 r1 =>
  cases ry with
  | @ref n _ e2=>rw [gh (λ_ e=>by cases e) (λ_ e=>by cases e)] at h;cases h
  | _=>cases h
 | @ref n p e1 =>
  cases hl:MW.asList M (.ref n) with
  | none =>
   cases ry with
   | @ref n' p2 e2 =>
    rw [jn,hl] at h;cases hl2:MW.asList M (.ref n') with
    | some es=>rw [hl2] at h;cases h
    | none =>
     rw [hl2] at h;obtain ⟨ka,kb,m1,_⟩:=Gp h;simp [MW.Lr,m1] at hnd
   | @vl p2 es ws e2 n2 r2=>rw [zg,hl] at h;cases h|_=>rw [ug (λ_ e=>by cases e) (λ_ e=>by cases e)] at h;cases h
  | some ds =>
   cases ry with
   | @vl p2 es ws e2 n2 r2 =>
    rw [zg,hl] at h;exact .inl (zm I S hr (.ref e1) (.vl e2 n2 r2) rv ru hl rfl h)
   | @ref n' p2 e2 =>
    cases hl2:MW.asList M (.ref n') with
    | none=>rw [jn,hl,hl2] at h;cases h|some es=>exact .inl (zm I S hr (.ref e1) (.ref e2) rv ru hl hl2 (by rw [jn,hl,hl2] at h;exact h))
   | _=>rw [ug (λ_ e=>by cases e) (λ_ e=>by cases e)] at h;cases h
theorem Oj.rc {A:Around} {s:Shared} {v u:Value} {r:Bool} (h:Oj A s v u r) (hu:A.units < cLine):SeqAt.RcAt A s v u r/\SeqAt.RcNeAt A s v u (!r):=by
 cases h with
 | tups e h1 h2 he=>exact ⟨SeqAt.RcAt.tuples h1 h2 hu he,SeqAt.RcNeAt.tuples h1 h2 hu he⟩|aqe e h1 h2 hz he=>exact ⟨SeqAt.RcAt.lists h1 h2 hz hu he,SeqAt.RcNeAt.lists h1 h2 hz hu he⟩|lens h1 h2 hz=>exact ⟨SeqAt.RcAt.lists_lengths h1 h2 hz hu,SeqAt.RcNeAt.lists_lengths h1 h2 hz hu⟩
theorem avm (hr:gm 6 X.A):jt X (compareOp .Eq) (Ky nm X.K .eq):=λpins s σ H v u v' u' Q I rv ru hh=>by
 obtain ⟨ι,M,x,y,b,S,rx,ry,e,q⟩:=hh;obtain ⟨hnd,e⟩:=Dn (show MW.jd M x y=some b from e);rcases Rm (A:=X.A) I S hr.in1 rx ry rv ru e hnd with h | ⟨h1,h2⟩
 . exact (h.rc hr.Gh).1 X.prog X.w X.xe _ ⟨.bl b,H,I,rfl,q⟩
 . subst h2
   exact anf pins s σ H v u v' u' Q I rv ru ⟨h1,q⟩
theorem avn (hr:gm 6 X.A):jt X (compareOp .NotEq) (Ky nm X.K .ne):=λpins s σ H v u v' u' Q I rv ru hh=>by
 obtain ⟨ι,M,x,y,b,S,rx,ry,e,q⟩:=hh;obtain ⟨b',e1,e2⟩:=Option.map_eq_some_iff.mp (show (MW.jd M x y).map not=some b from e);subst e2;obtain ⟨hnd,e1⟩:=Dn e1;rcases Rm (A:=X.A) I S hr.in1 rx ry rv ru e1 hnd with h | ⟨h1,h2⟩
 . exact (h.rc hr.Gh).2 X.prog X.w X.xe _ ⟨.bl !b',H,I,rfl,q⟩
 . subst h2
   exact ang pins s σ H v u v' u' Q I rv ru ⟨h1,q⟩
end
section
variable {nm:Nm} {W:jz} {X:Cx} {a b c o:Expr} {a' b' c' o':Ex} {pos pos' apos:Pos} {ι:Io} {H:Hp} {σ:St} {ρ:En} {M M1 M2:Store} {x y:Dv} {es:List Expr} {es':ji}
theorem m9:∀ {ds:List Dv} {bs:List Bool},MW.Gk M x ds=some bs->bs.length=ds.length/\∀ (j:Nat) d,ds[j]?=some d->∃ b,bs[j]?=some b/\MW.jd M d x=some b
 | [],bs,h=>by cases h;exact ⟨rfl,λj d e=>by simp at e⟩
 | y :: ys,bs,h=>by
  simp only [MW.Gk] at h;split at h
  . rename_i a b h1 h2
    cases h;obtain ⟨g1,g2⟩:=m9 h2;refine ⟨by simp [g1],λj d e=>?_⟩;cases j with
    | zero=>simp at e;subst e;exact ⟨a,rfl,h1⟩|succ j=>simpa using g2 j d (by simpa using e)
  . cases h
theorem ue {pins:List (Addr×Obj)} {s:Shared} {p:Addr} {vs:List V} (I:Inv X pins σ H s) (e:Ub X.K H p vs):(∃ o,H p=some (.By o (.lst vs))) \/ (H p=none/\∃ (o:Obj) (its:Array Value) (n:Nat),X.K.lookup p=some o/\o.data=.seq its n/\Vals vs its.toList):=by
 rcases e with h | ⟨o,its,n,h1,_,_,h2,_,h3⟩
 . exact .inl h
 . exact .inr ⟨(I.bs p o (I.mod.kin p o h1)).2,o,its,n,h1,h2,h3⟩
theorem aki {pins:List (Addr×Obj)} {s:Shared} {p:Addr} {vs ws:List V} (I:Inv X pins σ H s) (e:Ub X.K H p vs) (e2:Ub X.K H p ws):vs=ws:=by
 rcases ue I e with ⟨o,h⟩ | ⟨h,o,its,n,h1,h2,h3⟩
 . rcases ue I e2 with ⟨o',h'⟩ | ⟨h',_⟩
   . rw [h] at h';cases h';rfl
   . rw [h] at h';cases h'
 . rcases ue I e2 with ⟨o',h'⟩ | ⟨_,o',its',n',h1',h2',h3'⟩
   . rw [h] at h';cases h'
   . rw [h1] at h1';cases h1'
     rw [h2] at h2';cases h2';exact Vals.inj h3 h3'
mutual
theorem V3 {pins:List (Addr×Obj)} {s:Shared} (I:Inv X pins σ H s) (S:az nm X.K ι H M):∀ {d d':Dv} {v:V},Rep X.K ι H d v->Rep X.K ι H d' v->d=d'
 | _,_,_,.non,r=>by cases r;rfl|_,_,_,.bl b,r=>by cases r;rfl|_,_,_,.int i,r=>by cases r;rfl|_,_,_,.str z,r=>by cases r;rfl
 | _,_,_,.tup e1 r1,r=>by
  cases r with
  | tup e2 r2 =>
   rw [e1] at e2;cases e2;rw [Fb I S r1 r2]
  | vl e2 n2 r2=>rw [e1] at e2;cases e2
  | fz e2 r2 =>
   rcases ue I e2 with ⟨o,h⟩ | ⟨h,_⟩
   . rw [e1] at h;cases h
   . rw [e1] at h;cases h
  | ref e2 =>
   obtain ⟨u,q,mu⟩:=S.mem (List.mem_of_getElem? e2);rw [e1] at mu;exact mu.elim
 | _,_,_,.vl e1 n1 r1,r=>by
  cases r with
  | tup e2 r2=>rw [e1] at e2;cases e2
  | vl e2 n2 r2 =>
   rw [e1] at e2;cases e2;rw [Fb I S r1 r2]
  | fz e2 r2 =>
   rcases ue I e2 with ⟨o,h⟩ | ⟨h,_⟩
   . rw [e1] at h;cases h
   . rw [e1] at h;cases h
  | ref e2=>exact absurd (List.mem_of_getElem? e2) n1.1
 | _,_,_,.fz e1 r1,r=>by
  cases r with
  | tup e2 r2 =>
   rcases ue I e1 with ⟨o,h⟩ | ⟨h,_⟩
   . rw [e2] at h;cases h
   . rw [e2] at h;cases h
  | vl e2 n2 r2 =>
   rcases ue I e1 with ⟨o,h⟩ | ⟨h,_⟩
   . rw [e2] at h;cases h
   . rw [e2] at h;cases h
  | fz e2 r2 =>
   have:=aki I e1 e2;subst this;rw [Fb I S r1 r2]
  | ref e2 =>
   obtain ⟨u,q,mu⟩:=S.mem (List.mem_of_getElem? e2);rcases ue I e1 with ⟨o,h⟩ | ⟨h,_⟩
   . rw [h] at mu;exact mu.elim
   . rw [h] at q;cases q
 | _,_,_,.ref e1,r=>by
  cases r with
  | tup e2 r2 =>
   obtain ⟨u,q,mu⟩:=S.mem (List.mem_of_getElem? e1);rw [e2] at mu;exact mu.elim
  | vl e2 n2 r2=>exact absurd (List.mem_of_getElem? e1) n2.1
  | fz e2 r2 =>
   obtain ⟨u,q,mu⟩:=S.mem (List.mem_of_getElem? e1);rcases ue I e2 with ⟨o,h⟩ | ⟨h,_⟩
   . rw [h] at mu;exact mu.elim
   . rw [h] at q;cases q
  | ref e2 =>
   obtain ⟨l1,q1⟩:=List.getElem?_eq_some_iff.mp e1;obtain ⟨l2,q2⟩:=List.getElem?_eq_some_iff.mp e2;rw [(List.getElem_inj S.nd).mp (q1.trans q2.symm)]
theorem Fb {pins:List (Addr×Obj)} {s:Shared} (I:Inv X pins σ H s) (S:az nm X.K ι H M):∀ {ds ds':List Dv} {vs:List V},bc X.K ι H ds vs->bc X.K ι H ds' vs->ds=ds'
 | _,_,_,.nil,r=>by cases r;rfl
 | _,_,_,.cons h t,r=>by
  cases r with
  | cons h2 t2=>rw [V3 I S h h2,Fb I S t t2]
end
theorem Fd {pins:List (Addr×Obj)} {s:Shared} {A:Around} {ds:List Dv} {vs:List V} {is:List Value} {bs:List Bool} {u:V} {u':Value} (I:Inv X pins σ H s) (S:az nm X.K ι H M) (hr:gm 6 A) (rd:bc X.K ι H ds vs) (rv:Vals vs is) (rx:Rep X.K ι H x u) (ru:RelV u u')
 (h:MW.Gk M x ds=some bs):∃ e:Value->Bool,(∀ w,w∈is.toArray->SeqAt.EqAt A s w u' (e w))/\∀ (j:Nat) (w:Value),is[j]?=some w->bs[j]?=some (e w):=by
 obtain ⟨g1,g2⟩:=m9 h;have at':∀ (j:Nat) (w:Value),is[j]?=some w->∃ b,bs[j]?=some b/\SeqAt.EqAt A s w u' b:=λj w hw=>by
  have lj:j < ds.length:=by rw [rd.length,rv.length];exact (List.getElem?_eq_some_iff.mp hw).1
  have gd:ds[j]?=some ds[j]:=by simp [lj]
  obtain ⟨b,e1,e2⟩:=g2 j _ gd;obtain ⟨v,a1,a2⟩:=rd.get gd;exact ⟨b,e1,Jw I S 6 A _ _ v u w u' b hr a2 rx (Vals.Rk rv a1 hw) ru (Dn e2).2⟩
 classical
 refine ⟨λw=>if hw:∃ j:Nat,is[j]?=some w then (bs[hw.choose]?).getD false else false,λw hw=>?_,λj w hw=>?_⟩
 . obtain ⟨j,hj,e⟩:=List.getElem_of_mem (by simpa using hw:w∈is)
   have hex:∃ j:Nat,is[j]?=some w:=⟨j,by simp [hj,e]⟩;obtain ⟨b,e1,e2⟩:=at' hex.choose w hex.choose_spec;simp only [dif_pos hex,e1,Option.getD_some];exact e2
 . have hex:∃ j:Nat,is[j]?=some w:=⟨j,hw⟩
   obtain ⟨b,e1,e2⟩:=at' j w hw;obtain ⟨b',e3,e4⟩:=at' hex.choose w hex.choose_spec;simp only [dif_pos hex,e3,Option.getD_some];rw [e1]
   congr 1
   have lj:j < ds.length:=by rw [rd.length,rv.length];exact (List.getElem?_eq_some_iff.mp hw).1
   have lk:hex.choose < ds.length:=by rw [rd.length,rv.length];exact (List.getElem?_eq_some_iff.mp hex.choose_spec).1
   have gd:ds[j]?=some ds[j]:=by simp [lj]
   have gk:ds[hex.choose]?=some ds[hex.choose]:=by simp [lk]
   obtain ⟨c1,q1,q2⟩:=g2 j _ gd;obtain ⟨c2,q3,q4⟩:=g2 hex.choose _ gk;obtain ⟨v1,p1,p2⟩:=rd.get gd;obtain ⟨v2,p3,p4⟩:=rd.get gk;have hv:v1=v2:=RelV.inj (Vals.Rk rv p1 hw) (Vals.Rk rv p3 hex.choose_spec);subst hv;rw [e1] at q1;rw [e3] at q3;cases q1;cases q3;have hd:=V3 I S p2 p4;rw [hd,q4] at q2;exact (Option.some.inj q2).symm
theorem Ih {is:List Value} {bs:List Bool} {e:Value->Bool} (hl:bs.length=is.length) (h:∀ (j:Nat) (w:Value),is[j]?=some w->bs[j]?=some (e w)):bs=is.map e:=by
 apply List.ext_getElem?;intro j;rw [List.getElem?_map];cases q:is[j]? with
 | none=>rw [List.getElem?_eq_none (by rw [hl];exact List.getElem?_eq_none_iff.mp q)];rfl|some w=>rw [h j w q];rfl
theorem avo (hr:gm 8 X.A):jt X (compareOp .In) (Ky nm X.K .inn):=λpins s σ H v u v' u' Q I rv ru hh=>by
 obtain ⟨ι,M,x,y,b,S,rx,ry,e,q⟩:=hh;have e:MW.Ei M x y=some b:=e;have hu:X.A.units+1 < cLine:=Vl hr
 have seq:∀ ds,MW.gr M y=some ds->MW.memD M x ds=some b->wpAny (model X.prog X.w) X.A (compareOp .In v' u') (EP X pins σ Q) X.xe s:=λds h1 h2=>by
  obtain ⟨bs,e1,e2⟩:=Option.map_eq_some_iff.mp (show (MW.Gk M x ds).map (·.any id)=some b from h2);obtain ⟨p,vs,rfl,hp,r⟩:=xq S ry h1;cases ru;rcases hp with hp | hp
  . obtain ⟨is,r1,pl,_⟩:=I.list (uh.of hp)
    obtain ⟨f,g1,g2⟩:=Fd (A:=X.A.in1) I S ((hr.mono (by decide:7 <= 8)).in1) r r1 rx rv e1;refine SeqAt.in_listAt f pl.isList g1 ?_;have:=Ih (by rw [(m9 e1).1,r.length,r1.length]) g2;rw [this] at e2;rw [show is.toArray.any f=b by rw [<- e2];simp [List.any_map]];exact ⟨.bl b,H,I,rfl,q⟩
  . obtain ⟨is,r1,pl,_⟩:=I.tuple (yt.of hp)
    obtain ⟨f,g1,g2⟩:=Fd (A:=X.A.in1) I S ((hr.mono (by decide:7 <= 8)).in1) r r1 rx rv e1;refine SeqAt.in_tupleAt f (show s.heap.IsTuple p is.toArray from pl) g1 ?_;have:=Ih (by rw [(m9 e1).1,r.length,r1.length]) g2;rw [this] at e2;rw [show is.toArray.any f=b by rw [<- e2];simp [List.any_map]];exact ⟨.bl b,H,I,rfl,q⟩
 cases ry with
 | @ref n p e1 =>
  simp only [MW.Ei] at e;split at e
  . rename_i kvs hM
    obtain ⟨k,e2,e3⟩:=Option.map_eq_some_iff.mp e;obtain ⟨l,h1,h2⟩:=S.obj n _ p hM e1;obtain ⟨bb,rfl,hb⟩:=Jk rx e2;cases ru;refine aoe hu I (Di.t h1 hb) rv λs' I'=>⟨.bl b,H,I',?_,q⟩
    rw [<- e3];cases hk:MW.jo kvs k with
    | none=>rw [(h2.look (k:=k)).2 hk];rfl|some d=>obtain ⟨z,h3,_⟩:=(h2.look (k:=k)).1 d hk;rw [h3];rfl
  . rename_i kvs hM
    obtain ⟨k,e2,e3⟩:=Option.map_eq_some_iff.mp e;obtain ⟨l,h1,h2⟩:=S.obj n _ p hM e1;have hy:=Jj rx e2;subst hy;cases ru;refine aoe hu I (Di.k h1) rv λs' I'=>⟨.bl b,H,I',?_,q⟩
    rw [<- e3];cases hk:MW.jo kvs k with
    | none=>rw [(h2.look (k:=k)).2 hk];rfl|some d=>obtain ⟨z,h3,_⟩:=(h2.look (k:=k)).1 d hk;rw [h3];rfl
  . obtain ⟨ds,h1,h2⟩:=Option.bind_eq_some_iff.mp e
    exact seq ds h1 h2
 | _ =>
  simp only [MW.Ei] at e;obtain ⟨ds,h1,h2⟩:=Option.bind_eq_some_iff.mp e;exact seq ds h1 h2
theorem afm (hr:gm 8 X.A):jt X (compareOp .NotIn) (Ky nm X.K .Hc):=λpins s σ H v u v' u' Q I rv ru hh=>by
 obtain ⟨ι,M,x,y,b0,S,rx,ry,e,q⟩:=hh;obtain ⟨b,e',eb⟩:=Option.map_eq_some_iff.mp (show (MW.Ei M x y).map not=some b0 from e);subst eb;have hu:X.A.units+1 < cLine:=Vl hr
 have seq:∀ ds,MW.gr M y=some ds->MW.memD M x ds=some b->wpAny (model X.prog X.w) X.A (compareOp .NotIn v' u') (EP X pins σ Q) X.xe s:=λds h1 h2=>by
  obtain ⟨bs,e1,e2⟩:=Option.map_eq_some_iff.mp (show (MW.Gk M x ds).map (·.any id)=some b from h2);obtain ⟨p,vs,rfl,hp,r⟩:=xq S ry h1;cases ru;rcases hp with hp | hp
  . obtain ⟨is,r1,pl,_⟩:=I.list (uh.of hp)
    obtain ⟨f,g1,g2⟩:=Fd (A:=X.A.in1) I S ((hr.mono (by decide:7 <= 8)).in1) r r1 rx rv e1;refine SeqAt.notIn_listAt f pl.isList g1 ?_;have:=Ih (by rw [(m9 e1).1,r.length,r1.length]) g2;rw [this] at e2;rw [show is.toArray.any f=b by rw [<- e2];simp [List.any_map]];exact ⟨.bl !b,H,I,rfl,q⟩
  . obtain ⟨is,r1,pl,_⟩:=I.tuple (yt.of hp)
    obtain ⟨f,g1,g2⟩:=Fd (A:=X.A.in1) I S ((hr.mono (by decide:7 <= 8)).in1) r r1 rx rv e1;refine SeqAt.notIn_tupleAt f (show s.heap.IsTuple p is.toArray from pl) g1 ?_;have:=Ih (by rw [(m9 e1).1,r.length,r1.length]) g2;rw [this] at e2;rw [show is.toArray.any f=b by rw [<- e2];simp [List.any_map]];exact ⟨.bl !b,H,I,rfl,q⟩
 cases ry with
 | @ref n p e1 =>
  clear e;simp only [MW.Ei] at e';split at e'
  . rename_i kvs hM
    obtain ⟨k,e2,e3⟩:=Option.map_eq_some_iff.mp e';obtain ⟨l,h1,h2⟩:=S.obj n _ p hM e1;obtain ⟨bb,rfl,hb⟩:=Jk rx e2;cases ru;refine Vi hu I (Di.t h1 hb) rv λs' I'=>⟨.bl !b,H,I',?_,q⟩
    rw [<- e3];cases hk:MW.jo kvs k with
    | none=>rw [(h2.look (k:=k)).2 hk];rfl|some d=>obtain ⟨z,h3,_⟩:=(h2.look (k:=k)).1 d hk;rw [h3];rfl
  . rename_i kvs hM
    obtain ⟨k,e2,e3⟩:=Option.map_eq_some_iff.mp e';obtain ⟨l,h1,h2⟩:=S.obj n _ p hM e1;have hy:=Jj rx e2;subst hy;cases ru;refine Vi hu I (Di.k h1) rv λs' I'=>⟨.bl !b,H,I',?_,q⟩
    rw [<- e3];cases hk:MW.jo kvs k with
    | none=>rw [(h2.look (k:=k)).2 hk];rfl|some d=>obtain ⟨z,h3,_⟩:=(h2.look (k:=k)).1 d hk;rw [h3];rfl
  . obtain ⟨ds,h1,h2⟩:=Option.bind_eq_some_iff.mp e'
    exact seq ds h1 h2
 | _ =>
  simp only [MW.Ei] at e';obtain ⟨ds,h1,h2⟩:=Option.bind_eq_some_iff.mp e';exact seq ds h1 h2
end
open Qd (jx Gu)
def KH (H:Hp) (x:List Key×Addr):Prop:=H x.2=some (.tup (x.1.map kV))/\∀ k∈x.1,∃ i,k=.inl i
theorem Rn (P:Program) (w:World) (H:Hp):Qd.Gs (aj P w) (KH H):=λx hx k hk v n hv=>by
 obtain ⟨i,rfl⟩:=hx.2 k hk;rcases ie (show Im (Sum.inl i) v=true from hv) with ⟨j,t,e,rfl⟩ | ⟨y,t,e,_⟩
 . unfold hashByValue;rfl
 . cases e
section
variable {nm:Nm} {W:jz} {X:Cx} {a b c o:Expr} {a' b' c' o':Ex} {pos pos' apos:Pos} {ι:Io} {H:Hp} {σ:St} {ρ:En} {M M1 M2:Store} {x y:Dv} {es:List Expr} {es':ji}
theorem Gx:∀ ks:List Kx,MW.Gj (MW.Z3 ks)=some ks:=λks=>by
 show MW.Ny (ks.map MW.Z2)=some ks
 induction ks with
 | nil=>rfl|cons k ks ih=>cases k<;>simp [MW.Ny,MW.Z2,MW.K7,ih]
theorem Jx:∀ {l:List (List Kx×Dv)},MW.j5 (l.map λp=>MW.Z3 p.1)=some (l.map (·.1))
 | []=>rfl|p :: l=>by simp [MW.j5,Gx,Jx]
theorem V4 {K:Fg}:∀ {ds:List Dv} {vs:List V} {ks:List (List Kx)},bc K ι H ds vs->MW.j5 ds=some ks->∃ bs:List Addr,vs=bs.map V.ref/\bs.length=ks.length/\∀ x∈ks.zip bs,H x.2=some (.tup (x.1.map kV))
 | _,_,_,.nil,h=>by simp [MW.j5] at h;subst h;exact ⟨[],rfl,rfl,by simp⟩
 | _,_,_,.cons r t,h=>by
  simp only [MW.j5] at h;split at h
  . rename_i k ks' h1 h2
    cases h;obtain ⟨b,rfl,e⟩:=Jk r h1;obtain ⟨bs,rfl,hl,hz⟩:=V4 t h2;refine ⟨b :: bs,rfl,by simp [hl],λx hx=>?_⟩;simp only [List.zip_cons_cons,List.mem_cons] at hx;rcases hx with rfl | hx
    . exact e
    . exact hz x hx
  . cases h
theorem X5 {ks:List (List Kx)} (h:MW.j6 ks=true):ks.length <= 30/\∀ k∈ks,∀ x∈k,∃ i,x=Sum.inl i:=by
 simp only [MW.j6,Bool.and_eq_true,decide_eq_true_eq,List.all_eq_true] at h;refine ⟨h.1,λk hk x hx=>?_⟩;have:=h.2 k hk x hx;cases x with
 | inl i=>exact ⟨i,rfl⟩|inr s=>cases this
theorem abg {pins:List (Addr×Obj)} {s:Shared} {v:V} {u:Value} {ks:List (List Kx)} {ds:List Dv} {Q:Value->Shared->Prop} (hr:gm 8 X.A) (I:Inv X pins σ H s) (S:az nm X.K ι H M) (rx:Rep X.K ι H x v) (ru:RelV v u)
 (hk:MW.keysOf M x=some ds) (hd:MW.j5 ds=some ks) (pl:MW.j6 ks=true)
 (h:∀ p o n s',Inv X ((p,o) :: pins) σ H s'->jx (aj X.prog X.w) (KH H) s'.heap p (λk=>k∈ks) n->s'.heap.get? p=some o->Q (.ref p) s') :
 wpAny (model X.prog X.w) X.A (call (.type "set") [u]) Q X.xe s:=by
 obtain ⟨hlen,hint⟩:=X5 pl;have hu:X.A.in1.in1.in1.units+1 < cLine:=by have:=hr.un;show X.A.units+1+1+1+1 < cLine;omega
 have kept:∀ b o,s.heap.get? b=some o->(s.heap.push (Qd.je X.w)).get? b=some o:=λb o e=>Heap.get?_push_of_some _ e
 have I1:Inv X pins σ H { s with heap:=s.heap.push (Qd.je X.w) }:=I.kept (t':=s.toks) kept;have fr:jx (aj X.prog X.w) (KH H) (s.heap.push (Qd.je X.w)) s.heap.objs.size (λ_=>False) 0:=Qd.afh (Heap.get?_push_size _ rfl);have fin:∀ (h':Heap) (tk n':Nat),(∀ b o,b≠s.heap.objs.size->(s.heap.push (Qd.je X.w)).get? b=some o->h'.get? b=some o)->jx (aj X.prog X.w) (KH H) h' s.heap.objs.size (λk=>k∈ks) n'->Q (.ref s.heap.objs.size) { s with heap:=h',toks:=tk }:=λh' tk n' hkp hS=>by
  have I2:Inv X pins σ H { s with heap:=h',toks:=tk }:=I.kept λb o e=>hkp b o (Nat.ne_of_lt (Heap.lt_size e)) (kept b o e)
  obtain ⟨o,es,ep,t,hg,hc,hdt,_⟩:=hS.get;refine h _ o n' _ (I2.Eb λq hq=>?_) hS hg;rcases List.mem_cons.mp hq with rfl | hq
  . refine ⟨hg,I.hok.fresh (Nat.le_refl _),Nat.ne_of_gt I.lt,I.ah9 (Nat.le_refl _),λv hv=>?_⟩
    rw [show o.data=_ from hdt] at hv;cases hv
  . exact I2.pin q (List.mem_append_right _ hq)
 have lst:∀ p vs,v=.ref p->H p=some (.lst vs)->bc X.K ι H ds vs->wpAny (model X.prog X.w) X.A (call (.type "set") [u]) Q X.xe s:=λp vs ev hp r=>by
  subst ev;cases ru;obtain ⟨is,rv,pll,_⟩:=I1.list (uh.of hp);obtain ⟨bs,rfl,hbl,hz⟩:=V4 r hd;have his:is=(ks.zip bs).map λx=>Value.ref x.2:=by
   apply List.ext_getElem?;intro j;rw [List.getElem?_map]
   by_cases hj:j < bs.length
   . have e1:(bs.map V.ref)[j]?=some (.ref bs[j]):=by simp [hj]
     have hj2:j < is.length:=by have:=rv.length;simp at this;omega
     have e2:is[j]?=some is[j]:=by simp [hj2]
     have:=Vals.Rk rv e1 e2;rw [e2,show is[j]=Value.ref bs[j] from this];have hj3:j < ks.length:=by omega
     have hz2:(ks.zip bs)[j]?=some (ks[j],bs[j]):=by rw [List.getElem?_eq_getElem (by simp;omega)];simp
     rw [hz2];rfl
   . have hj2:¬ j < is.length:=by have:=rv.length;simp at this;omega
     rw [List.getElem?_eq_none (by omega),List.getElem?_eq_none (by simp;omega)];rfl
  refine Qd.Hl (R:=λs'=>Q (.ref s.heap.objs.size) s') ?_ λs' h=>h
  refine Qd.aa8 (Rn _ _ H) (ks:=ks.zip bs) (items:=is.toArray) (by have:=hr.hd;exact this) hu fr pll.isList (by simpa using his) (λx hx=>Dh I1.hok (hz x hx)) (λx hx=>⟨hz x hx,λk hk=>hint x.1 (List.of_mem_zip (a:=x.1) (b:=x.2) hx).1 k hk⟩) (by simp;omega) λh' tk n' hkp hS=>?_
  refine fin h' tk n' hkp (hS.congr λk=>?_);rw [List.map_fst_zip (by omega)]
 unfold MW.keysOf at hk;split at hk
 . rename_i n
   split at hk
   . rename_i kvs hM
     cases hk;rw [Jx] at hd;cases hd;cases rx with
     | @ref n p e1 =>
      obtain ⟨l,h1,h2⟩:=S.obj n _ p hM e1;cases ru;obtain ⟨_,hsm,xs,rel,dd⟩:=Qq I1.hok h1;obtain ⟨k1,k2⟩:=Ey rel;have k3:xs.map (·.1)=kvs.map (·.1):=k1.trans (m8 h2);have hl:xs.length=kvs.length:=by have:=congrArg List.length k3;simpa using this
      refine Qd.Hl (R:=λs'=>Q (.ref s.heap.objs.size) s') ?_ λs' h=>h
      refine Qd.aa7 (Rn _ _ H) (by have:=hr.un;show X.A.units+1+1 < cLine;omega) fr dd hsm (λx hx=>⟨k2 x hx,λk hk=>?_⟩) (by simp at hlen;omega) λh' n' sb hS=>?_
      . have:x.1∈kvs.map (·.1):=by rw [<- k3];exact List.mem_map.mpr ⟨x,hx,rfl⟩
        exact hint x.1 this k hk
      . refine fin h' s.toks n' (λb o hb e=>(sb.2 b hb).trans e) (hS.congr λk=>?_)
        rw [k3];simp
   . obtain ⟨p,vs,e1,e2,r⟩:=dg S rx hk
     exact lst p vs e1 e2 r
 . obtain ⟨p,vs,e1,e2,r⟩:=dg S rx hk
   exact lst p vs e1 e2 r
theorem aqf {P:Program} {w:World} {H':Hp} {h h':Heap} {p:Addr} {o:Obj} {T:List Key->Prop} {n:Nat} (hS:jx (aj P w) (KH H) h p T n) (hg:h.get? p=some o) (hg':h'.get? p=some o)
 (le:∀ a vs,H a=some (.tup vs)->H' a=some (.tup vs)) (ok:Cm P w H' h'):jx (aj P w) (KH H') h' p T n:=by
 obtain ⟨xs,o',es,ep,t,D,r⟩:=hS;have e:o'=o:=Option.some.inj (D.get.symm.trans hg);subst e;refine ⟨xs,o',es,ep,t,⟨hg',D.exa,D.dat,D.tab,D.ent,λx hx=>?_,D.nod,D.led,D.pla⟩,r⟩;obtain ⟨_,k1,k2⟩:=D.keys x hx;exact ⟨Dh ok (le _ _ k1),le _ _ k1,k2⟩
theorem Ro {xs ys:List (List Kx)}:MW.u9 xs ys=true ↔ ∀ k,k∈xs ↔ k∈ys:=by
 simp only [MW.u9,Bool.and_eq_true,List.all_eq_true,List.any_eq_true,decide_eq_true_eq];constructor
 . rintro ⟨h1,h2⟩ k
   exact ⟨λh=>by obtain ⟨y,hy,e⟩:=h1 k h;rw [<- e];exact hy,λh=>by obtain ⟨y,hy,e⟩:=h2 k h;rw [<- e];exact hy⟩
 . exact λh=>⟨λx hx=>⟨x,(h x).mp hx,rfl⟩,λy hy=>⟨y,(h y).mpr hy,rfl⟩⟩
theorem afn {xn:Str} {p1 p2 q1 q2:Pos} (hr:gm 8 X.A) (hg:Gl X xn) (hm:X.mg xn=none) (hv:bootBuiltins xn=some (.type "set")) (hn:xn ≠ "__name__") (hdb:(xn == ("__debug__" : Str))=false)
 (ha:PA X [a] (Lz nm W X.K (.cons a' .nil))) (hb:PA X [b] (Lz nm W X.K (.cons b' .nil)))
 (he:starEach [a] X.env=(false,eval a X.env) :: starEach [] X.env) (he2:starEach [b] X.env=(false,eval b X.env) :: starEach [] X.env)
 (hpl:(backTo q1 (starEach [] X.env)).any (·.1)=false) (akj:(backTo q2 (starEach [] X.env)).any (·.1)=false) :
 PC X .NotEq (.Call (.Name xn p1) [a] [] q1) (.Call (.Name xn p2) [b] [] q2) (tE nm W X.K (.Iu a' b')):=by
 intro pins s σ H Q I hh;obtain ⟨ι,ρ,M,d,M',S,R,e,q⟩:=hh;rw [MW.Ls] at e;obtain ⟨x,M1,e1,e⟩:=aa e;cases hk1:(MW.keysOf M1 x).bind MW.j5 with
 | none=>rw [hk1] at e;cases e
 | some ks =>
  rw [hk1] at e;simp only at e;split at e
  . rename_i pl1
    obtain ⟨y,M2,e2,e⟩:=aa e;cases hk2:(MW.keysOf M2 y).bind MW.j5 with
    | none=>rw [hk2] at e;cases e
    | some ls =>
     rw [hk2] at e;simp only at e;split at e
     . rename_i pl2
       cases e;obtain ⟨ds1,g1,g1'⟩:=Option.bind_eq_some_iff.mp hk1;obtain ⟨ds2,g2,g2'⟩:=Option.bind_eq_some_iff.mp hk2;refine wpAny_Call_Name_kw (j4 I hg hm hv ?_ hn hdb);refine PyProof.Rows.callWith_type1 (jb (ha q1 pins s σ H (λvs H1=>∃ ι1 v,vs=[v]/\Le ι H ι1 H1/\az nm X.K ι1 H1 M1/\Rep X.K ι1 H1 x v) I ⟨ι,ρ,M,[x],M1,S,R,by simp [e1,Res.bind],fun ι1 H1 vs le S1 r=>?_⟩) λus s1 ⟨vs,H1,I1,r1,ι1,v,ev,le1,S1,rx⟩=>?_) he hpl
       . obtain ⟨v,ev,rv⟩:=Es r rfl
         exact ⟨ι1,v,ev,le,S1,rv⟩
       subst ev;cases r1 with
       | cons rv rn =>
        cases rn;refine abg hr I1 S1 rx rv g1 g1' pl1 λp o n s2 I2 hS hgp=>?_
        refine wpAny_Call_Name_kw (j4 I2 hg hm hv ?_ hn hdb);refine PyProof.Rows.callWith_type1 (jb (hb q2 _ s2 σ H1 (λvs H2=>∃ ι2 v,vs=[v]/\Le ι1 H1 ι2 H2/\az nm X.K ι2 H2 M'/\Rep X.K ι2 H2 y v) I2 ⟨ι1,ρ,M1,[y],M',S1,R.mono le1,by simp [e2,Res.bind],fun ι2 H2 vs le S2 r=>?_⟩) λus s3 ⟨vs,H2,I3,r2,ι2,v2,ev2,le2,S2,ry⟩=>?_) he2 akj
        . obtain ⟨v,ev,rv⟩:=Es r rfl
          exact ⟨ι2,v,ev,le,S2,rv⟩
        subst ev2;cases r2 with
        | cons rv2 rn2 =>
         cases rn2;refine abg hr I3 S2 ry rv2 g2 g2' pl2 λp' o' n' s4 I4 hS' a4d=>?_
         have hp:s4.heap.get? p=some o:=(I4.pin (p,o) (List.mem_append_right _ (List.mem_cons_of_mem _ List.mem_cons_self))).1;have hS4:=aqf (H':=H2) hS hgp hp le2.tup I4.hok;refine Qd.ap9 (by have:=hr.un;show X.A.units+1 < cLine;omega) (by have:=hr.un;omega) hS4 hS' λc hc=>?_
         have ec:c=!MW.u9 ks ls:=by have:=Ro (xs:=ks) (ys:=ls);cases c<;>cases h:MW.u9 ks ls<;>simp_all
         refine ⟨.bl c,H2,(I4.Eb λz hz=>I4.pin z (List.mem_append_right _ (List.mem_cons_of_mem _ (List.mem_cons_of_mem _ hz)))),rfl,?_⟩;rw [ec];exact q ι2 H2 _ (le1.trans le2) S2 (.bl _)
     . cases e
  . cases e
end
section
variable {nm:Nm} {W:jz} {X:Cx} {a b c o e:Expr} {a' b' c' o':Ex} {pos pos' apos cpos:Pos} {ι:Io} {H:Hp} {σ:St} {ρ:En} {M M1 M2:Store} {x y:Dv} {es:List Expr} {es':ji}
def rM (nm:Nm) (K:Fg) (m:Bm):V->List V->Hp->VK->Prop:=λv vs H Q=>∃ ι M x ds d M',az nm K ι H M/\Rep K ι H x v/\bc K ι H ds vs/\MW.Dk m x ds M=.ok d M'/\(∀ ts,x=.tup ts->m≠.index) /\
 ∀ ι' H' w,Le ι H ι' H'->az nm K ι' H' M'->Rep K ι' H' d w->Q w H'
theorem aqg {m:Bm} {T id:String} {name:Str} (hT:∀ ι H M x v,az nm X.K ι H M->Rep X.K ι H x v->MW.Hy m x M=true->tyV X.K T v H) (pa:PlainAttrs T) (slot:Slot T name id) (hty:typeOf (.builtin id)=pure (.type "method_descriptor"))
 (hm:MtR X id (rM nm X.K m)) (ho:PE X o (tE nm W X.K o')) (ha:PA X (e :: es) (Lz nm W X.K es'))
 (hbase:attributeBase o name X.env (eval o X.env)=eval o X.env)
 (hfew:((backTo cpos (starEach (e :: es) X.env)).all (λx=>!x.1) && (backToKw cpos (keywordEach [] X.env)).all (λx=>x.1.isSome)
  && decide ((e :: es).length+([]:List Keyword).length+(if ([]:List Keyword).isEmpty then 0 else 1) < 30))=true)
 (hline:(apos.endLine == cpos.line)=true) (hs:starEach (e :: es) X.env=(false,eval e X.env) :: starEach es X.env) (hplain:(backTo cpos (starEach es X.env)).any (·.1)=false) :
 PE X (.Call (.Attribute o name apos) (e :: es) [] cpos) (tE nm W X.K (.bm m o' es')) :=
 PE.of (aob pa slot hty hm ho ha hbase hfew hline hs hplain) fun σ H Q ι ρ M d M' S R e q=>by
  rw [MW.ajl] at e;obtain ⟨x,M1,e1,e⟩:=aa e;split at e
  . rename_i ht
    obtain ⟨ds,M2,e2,e⟩:=aa e;exact one S R e1 fun ι1 H1 v le S1 R1 r=>⟨hT ι1 H1 M1 x v S1 r ht,ι1,ρ,M1,ds,M2,S1,R1,e2,fun ι2 H2 vs le2 S2 rs=>⟨ι2,M2,x,ds,d,M',S2,r.mono le2,rs,e,(λts hx hm=>by subst hx;subst hm;cases ht),fun ι' H' w Kw S' r'=>q ι' H' w ((le.trans le2).trans Kw) S' r'⟩⟩
  . cases e
theorem ty_list {m:Bm} (hm:m=.append \/ m=.pop \/ m=.index) (S:az nm X.K ι H M) {v:V} (r:Rep X.K ι H x v) (h:MW.Hy m x M=true):tyV X.K "list" v H:=by
 have go:∀ ds,MW.asList M x=some ds->tyV X.K "list" v H:=λds hd=>by obtain ⟨p,vs,rfl,e2,_⟩:=dg S r hd;exact .inl ⟨rfl,vs,uh.of e2⟩
 rcases hm with rfl | rfl | rfl
 . cases x<;>simp only [MW.Hy] at h<;>try cases h
   split at h
   . rename_i n ds hM
     exact go ds (by simp only [MW.asList,hM])
   . cases h
 . cases x<;>simp only [MW.Hy] at h<;>try cases h
   split at h
   . rename_i n ds hM
     exact go ds (by simp only [MW.asList,hM])
   . cases h
 . have h:(MW.asList M x).isSome=true:=h
   obtain ⟨ds,hd⟩:=Option.isSome_iff_exists.mp h;exact go ds hd
theorem afo {ds:List Dv} {d:Dv} {M':Store} (e:MW.Dk .append x ds M=.ok d M'):∃ n d0 xs,x=.ref n/\ds=[d0]/\M[n]?=some (.lst xs)/\xs.length < 100000/\d=.non/\M'=M.set n (.lst (xs ++ [d0])):=by
 unfold MW.Dk at e;split at e
 . rename_i n d0
   split at e
   . rename_i xs hM
     split at e
     . rename_i hl
       cases e;exact ⟨_,_,_,rfl,rfl,hM,hl,rfl,rfl⟩
     . cases e
   . cases e
 . rename_i h;cases h
 . rename_i h;cases h
 . rename_i h;cases h
 . cases e
theorem afp {ds:List Dv} {d:Dv} {M':Store} (e:MW.Dk .index x ds M=.ok d M'):∃ d0 xs j,ds=[d0]/\MW.gr M x=some xs/\MW.Qu M d0 xs=some j/\d=.int ((j:Nat):Int)/\M'=M:=by
 match ds,e with
 | [d0],e =>
  have e:Res.ofOpt (((MW.gr M x).bind (MW.Qu M d0)).map λj=>MW.D.int ((j:Nat):Int)) M=.ok d M':=by rw [<- e];cases x<;>simp only [MW.Dk]<;>first | rfl | (generalize (MW.gr M _).bind (MW.Qu M d0)=z;cases z<;>rfl)
  obtain ⟨e1,e2⟩:=cu e;obtain ⟨j,e3,e4⟩:=Option.map_eq_some_iff.mp e1;obtain ⟨xs,e6,e7⟩:=Option.bind_eq_some_iff.mp e3;exact ⟨d0,xs,j,rfl,e6,e7,e4.symm,e2⟩
 | [],e=>cases x<;>simp [MW.Dk] at e|_ :: _ :: _,e=>cases x<;>simp [MW.Dk] at e
theorem abh:MtR X "list.append" (rM nm X.K .append):=λpins s σ H v vs u us Q I ru rvs hh=>by
 obtain ⟨ι,M,x,ds,d,M',S,r,rs,e,_,q⟩:=hh;obtain ⟨n,d0,xs,rfl,rfl,hM,hl,rfl,rfl⟩:=afo e;cases r with
 | ref ha =>
  obtain ⟨ys,h3,h4⟩:=S.obj n _ _ hM ha;cases rs with
  | cons hd ht =>
   cases ht;refine Lh pins s σ H _ _ u us Q I ru rvs ⟨_,ys,_,rfl,rfl,h3,by rw [<- h4.length];exact Jo hl,?_⟩;obtain ⟨S2,le2⟩:=S.put (u:=.lst (ys ++ [_])) (o:=.lst (xs ++ [_])) hM ha λle=>⟨_,dh,(h4.mono le).append (.cons (hd.mono le) .nil)⟩
   exact q _ _ _ le2 S2 .non
theorem Ol:∀ {bs:List Bool} {j:Nat},bs.findIdx? id=some j->bs[j]?=some true/\∀ m,m < j->bs[m]?=some false:=fun {bs j} h=>by obtain ⟨h1,h2,h3⟩:=List.findIdx?_eq_some_iff_getElem.mp h;refine ⟨by rw [List.getElem?_eq_getElem h1];simpa using h2,λm hm=>?_⟩;have:=h3 m hm;rw [List.getElem?_eq_getElem (by omega)];simpa using this
theorem afq (hr:gm 8 X.A):MtR X "list.index" (rM nm X.K .index):=λpins s σ H v vs u us Q I ru rvs hh=>by
 obtain ⟨ι,M,x,ds,d,M',S,r,rs,e,nt,q⟩:=hh;obtain ⟨d0,xs,j,rfl,e1,e2,rfl,rfl⟩:=afp e;cases rs with
 | cons hd ht =>
  cases ht;cases rvs with
  | cons hu ht2 =>
   cases ht2;obtain ⟨bs,e3,e4⟩:=Option.bind_eq_some_iff.mp (show (MW.Gk M' d0 xs).bind (·.findIdx? id)=some j from e2);obtain ⟨p,ys,rfl,hp,rl⟩:=xq S r e1;cases ru;rcases hp with hp | hp
   . obtain ⟨z,is,n,rv,hl,hg⟩:=I.ad9 hp
     obtain ⟨f,g1,g2⟩:=Fd (A:=X.A.in1) I S ((hr.mono (by decide:7 <= 8)).in1) rl rv hd hu e3;obtain ⟨f1,f2⟩:=Ol e4;have hb:=(m9 e3).1;have hlen:is.length=bs.length:=by rw [hb,rl.length,hl]
     have lj:j < is.length:=by rw [hlen];exact (List.getElem?_eq_some_iff.mp f1).1
     have fa:∀ m (hm:m < is.length),bs[m]?=some (f is[m]):=λm hm=>g2 m _ (List.getElem?_eq_getElem hm)
     have hT:s.TypeIs (.ref p) "list" := ⟨_,hg,rfl⟩;have hsz:is.length <= sizeLine:=by rw [<- hl];exact z
     rw [sizeLine_eq] at hsz;refine call_meetsIn F.slot_list_index hT F.entry_list_index (F.args_list_index_2 _ _) (λA R s h=>SeqAt.list_indexAt p is.toArray n none #[] _ f j (by simpa using lj) (by omega) ?_ ?_ _ _ A R s h) ⟨hg,g1,?_⟩
     . have:=fa j lj;rw [f1] at this;simpa using (Option.some.inj this).symm
     . intro m hm hmj
       have hm:m < is.length:=by simpa using hm
       have:=fa m hm;rw [f2 m hmj] at this;simpa using (Option.some.inj this).symm
     . exact ⟨.int j,H,I.tok _,⟨_,rfl⟩,q ι H _ (Le.refl _ _) S (.int _)⟩
   . cases r with
     | tup e r=>exact absurd rfl (nt _ rfl)|vl e n r=>rw [hp] at e;cases e|fz e r=>simp [MW.gr,MW.asList] at e1
     | ref e =>
      obtain ⟨u',q',mu⟩:=S.mem (List.mem_of_getElem? e);rw [hp] at mu;exact mu.elim
end
section
variable {nm:Nm} {W:jz} {X:Cx} {a b c o e:Expr} {a' b' c' o':Ex} {pos pos' apos cpos:Pos} {ι:Io} {H:Hp} {σ:St} {ρ:En} {M M1 M2:Store} {x y:Dv} {es:List Expr} {es':ji}
theorem afr {l:List (List Kx×Dv)} (h:MW.T9 l=true):∀ k∈l.map (·.1),Qd.SmK k:=λk hk=>by
 obtain ⟨p,hp,rfl⟩:=List.mem_map.mp hk;simp only [MW.T9,List.all_eq_true] at h;have:=h p hp;split at this
 . rename_i i j e
   simp only [Bool.and_eq_true,decide_eq_true_eq] at this;exact ⟨i,j,this.1.1.1,this.1.1.2,this.1.2,this.2,e⟩
 . cases this
theorem akk {kvs:List (List Kx×Dv)} {l:List (List Key×V)} {p:Addr} (S:az nm X.K ι H M) (hp:H p=none) (r:bu X.K ι H (λk k'=>k=k') kvs l) :
 az nm X.K (ι.add p) (upd H p (.dT l)) (M ++ [.dT kvs])/\Le ι H (ι.add p) (upd H p (.dT l))/\Rep X.K (ι.add p) (upd H p (.dT l)) (.ref M.length) (.ref p):=by
 obtain ⟨S1,le⟩:=S.new (H':=upd H p (.dT l)) (o:=.dT kvs) hp (λa u e=>by rw [aq (au e hp)];exact e) λle=>⟨l,dh,r.mono le⟩
 exact ⟨S1,le,.ref (by show (ι.l ++ [p])[M.length]?=some p;rw [<- S.len];simp)⟩
theorem akl {kvs:List (Kx×Dv)} {l:List (Key×V)} {p:Addr} (S:az nm X.K ι H M) (hp:H p=none) (r:bu X.K ι H (λk k'=>k=k') kvs l) :
 az nm X.K (ι.add p) (upd H p (.dK l)) (M ++ [.dK kvs])/\Le ι H (ι.add p) (upd H p (.dK l))/\Rep X.K (ι.add p) (upd H p (.dK l)) (.ref M.length) (.ref p):=by
 obtain ⟨S1,le⟩:=S.new (H':=upd H p (.dK l)) (o:=.dK kvs) hp (λa u e=>by rw [aq (au e hp)];exact e) λle=>⟨l,dh,r.mono le⟩
 exact ⟨S1,le,.ref (by show (ι.l ++ [p])[M.length]?=some p;rw [<- S.len];simp)⟩
theorem akm:jy X (.type "dict") (rB nm X.K .dict):=λpins s σ H vs us Q I rvs hh=>by
 obtain ⟨ι,M,ds,d,M',S,r,e,q⟩:=hh;cases r with
 | nil=>simp [MW.dj] at e
 | @cons x v _ _ h t =>
  cases t with
  | cons h2 t2=>cases x<;>simp [MW.dj] at e
  | nil =>
   cases rvs with
   | cons ru rn =>
    cases rn;cases h with
    | @ref n p hp =>
     cases ru;have e:(match M[n]? with | some (.dT kvs)=>if MW.T9 kvs then MW.new (.dT kvs) M else .bad | some (.dK kvs)=>MW.new (.dK kvs) M | _=>.bad)=.ok d M':=e;split at e
     . rename_i kvs hM
       split at e
       . rename_i hs
         cases e;obtain ⟨l,h1,h2⟩:=S.obj n _ p hM hp;obtain ⟨z,hsm,xs,rel,dd⟩:=Qq I.hok h1;obtain ⟨k1,k2⟩:=Ey rel;have hl:xs.length=l.length:=by have:=congrArg List.length k1;simpa using this
         refine Qd.aqb hsm dd (λx hx=>?_) (by rw [hl];exact z) λh' dd' keep=>?_
         . refine afr hs x.1 ?_
           rw [<- m8 h2,<- k1];exact List.mem_map.mpr ⟨x,hx,rfl⟩
         . have hf:H s.heap.objs.size=none:=I.hok.fresh (Nat.le_refl _)
           obtain ⟨S2,le2,r2⟩:=akk (X:=X) S hf h2;refine ⟨.ref s.heap.objs.size,upd H s.heap.objs.size (.dT l),I.laid (a:=s.heap.objs.size) (o:=.dT l) (t':=s.toks) keep (Nat.le_refl _) ?_,rfl,q _ _ _ le2 S2 r2⟩;obtain ⟨o,es,ep,g1,g2,g3,g4,g5,g6⟩:=dd';exact ⟨z,beq_eq_false_iff_ne.mpr (Ne.symm (Nat.ne_of_lt I.big)),xs,rel.keeps (λb ys e=>by rw [aq (au e hf)];exact e),o,es,ep,g1,g2,g3,g4,g6⟩
       . cases e
     . rename_i kvs hM
       cases e;obtain ⟨l,h1,h2⟩:=S.obj n _ p hM hp;refine Zw I (.inl h1) λp' s' hp' I'=>?_
       obtain ⟨S2,le2,r2⟩:=akl (X:=X) S hp' h2;exact ⟨.ref p',_,I',rfl,q _ _ _ le2 S2 r2⟩
     . cases e
    | _=>cases e
end
section
variable {nm:Nm} {W:jz} {X:Cx} {a b c o e:Expr} {a' b' c' o':Ex} {pos pos' apos cpos:Pos} {ι:Io} {H:Hp} {σ:St} {ρ:En} {M M1 M2:Store} {x y:Dv} {es:List Expr} {es':ji}
theorem ints_rep {K:Fg}:∀ {ds:List Dv} {vs:List V} {is:List Value} {ns:List Int},bc K ι H ds vs->Vals vs is->MW.Vo ds=some ns->∃ xs:Array (Int×Tok),is.toArray=intItems xs/\xs.toList.map (·.1)=ns
 | _,_,_,_,.nil,.nil,h=>by cases h;exact ⟨#[],by simp [intItems],rfl⟩
 | _,_,_,_,.cons r t,.cons rv tv,h=>by
  cases r<;>simp only [MW.Vo] at h<;>try cases h
  rename_i i;obtain ⟨ns',e1,e2⟩:=Option.map_eq_some_iff.mp h;obtain ⟨xs,g1,g2⟩:=ints_rep t tv e1;obtain ⟨tk,rfl⟩:=rv;refine ⟨#[(i,tk)] ++ xs,?_,by simp [g2,e2]⟩;have h3:=congrArg Array.toList g1;apply Array.toList_inj.mp;simp [intItems] at h3 ⊢;exact h3
theorem Rp:∀ (l:List Int) (z m:Int),(m=z \/ m∈l)->z <= m->(∀ a∈l,a <= m)->l.foldl (λm x=>if m < x then x else m) z=m
 | [],z,m,h,_,_=>by rcases h with h | h;exact h.symm;cases h
 | a :: l,z,m,h,hz,hall=>by
  rw [List.foldl_cons];have ha:=hall a List.mem_cons_self;refine Rp l _ m ?_ (by split<;>omega) (λb hb=>hall b (List.mem_cons_of_mem _ hb));rcases h with h | h
  . subst h;left;split<;>omega
  . rcases List.mem_cons.mp h with h | h
    . subst h
      by_cases hc:z < m
      . left;rw [if_pos hc]
      . left;rw [if_neg hc];omega
    . exact .inr h
theorem afs {ds:List Dv} {d:Dv} {M':Store} {f:Int->Int->Int} {g:Dv->Option Int} (e:MW.two ds f g M=.ok d M'):M'=M/\((∃ i j,ds=[.int i,.int j]/\d=.int (f i j)) \/ ∃ x m,ds=[x]/\g x=some m/\d=.int m):=by
 cases ds with
 | nil=>cases e
 | cons x r=>cases r with
  | nil =>
   obtain ⟨e1,e2⟩:=cu (show Res.ofOpt ((g x).map MW.D.int) M=.ok d M' from e);obtain ⟨m,e3,e4⟩:=Option.map_eq_some_iff.mp e1;exact ⟨e2,.inr ⟨x,m,rfl,e3,e4.symm⟩⟩
  | cons y r=>cases r with
   | nil =>
    cases x<;>try cases e
    cases y<;>cases e;exact ⟨rfl,.inl ⟨_,_,rfl,rfl⟩⟩
   | cons _ _=>cases e
theorem X6 {x:Dv} {h:List Int->Option Int} {m:Int} (e:((MW.asList M x).bind MW.Vo).bind h=some m):∃ xs ns,MW.asList M x=some xs/\MW.Vo xs=some ns/\h ns=some m:=by obtain ⟨ns,e5,e6⟩:=Option.bind_eq_some_iff.mp e;obtain ⟨xs,e7,e8⟩:=Option.bind_eq_some_iff.mp e5;exact ⟨xs,ns,e7,e8,e6⟩
theorem aft {ds:List Dv} {d:Dv} {M':Store} (e:MW.dj .max ds M=.ok d M'):M'=M/\((∃ i j,ds=[.int i,.int j]/\d=.int (if i < j then j else i)) \/ ∃ x xs ns m,ds=[x]/\MW.asList M x=some xs/\MW.Vo xs=some ns/\MW.aji ns=some m/\d=.int m):=by
 obtain ⟨h,h2 | ⟨x,m,h3,h4,h5⟩⟩:=afs e
 . exact ⟨h,.inl h2⟩
 . obtain ⟨xs,ns,g1,g2,g3⟩:=X6 h4
   exact ⟨h,.inr ⟨x,xs,ns,m,h3,g1,g2,g3,h5⟩⟩
theorem Um {v:V} {us:List Value} (h:Vals [v] us):∃ u,us=[u]/\RelV v u:=L2.Vals.one h
theorem Mq {xs:Array (Int×Tok)} {i:Nat} (h:i < xs.size):(xs.toList.map (·.1))[i]?=some (numAt xs i):=by simp [numAt,h]
theorem aqh (hc:X.calm=true):jy X (.builtin "max") (rB nm X.K .max):=λpins s σ H vs us Q I rvs hh=>by
 obtain ⟨ι,M,ds,d,M',S,r,e,q⟩:=hh;obtain ⟨rfl,⟨i,j,rfl,rfl⟩ | ⟨x,xs,ns,m,rfl,e1,e2,e3,rfl⟩⟩:=aft e
 . cases r with
   | cons h1 t1 =>
    cases t1 with
    | cons h2 t2 =>
     cases t2;cases h1;cases h2;refine W4 hc pins s σ H _ us Q I rvs ⟨i,j,rfl,?_⟩;have:=q ι H _ (Le.refl _ _) S (.int (if i < j then j else i));exact this
 . obtain ⟨v,rfl,rv⟩:=Es r rfl
   obtain ⟨u,rfl,ru⟩:=Um rvs;obtain ⟨p,ws,rfl,hp,rl⟩:=dg S rv e1;cases ru;obtain ⟨is,rvl,pl,_⟩:=I.list (uh.of hp);obtain ⟨xa,g1,g2⟩:=ints_rep rl rvl e2;have hne:0 < xa.size:=by
    cases ns with
    | nil=>cases e3|cons n ns=>have:=congrArg List.length g2;simp at this;omega
   refine max_intList (I.ok.hd hc) (by rw [<- g1];exact pl.isList) hne λw h' tk hw keep=>?_
   obtain ⟨t,rfl⟩:=intItems_at hw;obtain ⟨b1,b2⟩:=argBest_gt (numAt xa) (xa.size - 1);have hm:m=numAt xa (argBest (λi j=>decide (numAt xa i > numAt xa j)) (xa.size - 1)):=by
    cases hns:ns with
    | nil=>rw [hns] at e3;cases e3
    | cons n ns' =>
     rw [hns] at e3;cases e3;have mem:∀ i,i < xa.size->numAt xa i∈n :: ns':=λi hi=>by rw [<- hns,<- g2];exact List.mem_of_getElem? (Mq hi)
     have le:∀ a∈n :: ns',a <= numAt xa (argBest (λi j=>decide (numAt xa i > numAt xa j)) (xa.size - 1)):=λa ha=>by
      rw [<- hns,<- g2] at ha;obtain ⟨i,hi⟩:=List.mem_iff_getElem?.mp ha;have li:i < xa.size:=by have:=(List.getElem?_eq_some_iff.mp hi).1;simpa using this
      rw [Mq li] at hi;cases hi;exact b2 i (by omega)
     exact Rp ns' n _ (List.mem_cons.mp (mem _ (by omega))) (le n List.mem_cons_self) (λa ha=>le a (List.mem_cons_of_mem _ ha))
   subst hm;exact ⟨.int _,H,I.kept keep,⟨t,rfl⟩,q ι H _ (Le.refl _ _) S (.int _)⟩
end
section
variable {nm:Nm} {W:jz} {X:Cx} {a b c o e:Expr} {a' b' c' o':Ex} {pos pos' apos cpos p2:Pos} {ι:Io} {H:Hp} {σ:St} {ρ:En} {M M1 M2:Store} {x y:Dv} {es:List Expr} {es':ji}
theorem xu (n d:Nat) (o:Option Int):HT.qj n d o=MW.clip n d o:=by
 cases o with
 | none=>rfl
 | some i =>
  show (if i < 0 then (i+(n:Int)).toNat else min i.toNat n)=(if 0 <= i then min i.toNat n else (i+(n:Int)).toNat)
  by_cases h:i < 0
  . rw [if_pos h,if_neg (by omega)]
  . rw [if_neg h,if_pos (by omega)]
def tO (nm:Nm) (W:jz) (K:Fg) (o:Qc):TO:=fun σ H Q=>∃ ι ρ M d M',az nm K ι H M/\cg K ι H ρ σ/\o.den W ρ M=.ok d M'/\∀ ι' H',Le ι H ι' H'->az nm K ι' H' M'->Q d H'
theorem PO.weak {e:Option Expr} {t t':TO} (h:PO X e t) (w:∀ σ H Q,t' σ H Q->t σ H Q):PO X e t':=λpins s σ H Q I q=>h pins s σ H Q I (w σ H Q q)
theorem PO.of {e:Option Expr} {o':Qc} {t:TO} (h:PO X e t) (w:∀ σ H Q ι ρ M d M',az nm X.K ι H M->cg X.K ι H ρ σ->o'.den W ρ M=.ok d M'->(∀ ι' H',Le ι H ι' H'->az nm X.K ι' H' M'->Q d H')->t σ H Q):PO X e (tO nm W X.K o'):=PO.weak h fun σ H Q ⟨ι,ρ,M,d,M',S,R,e,q⟩=>w σ H Q ι ρ M d M' S R e q
theorem afu:PO X none (tO nm W X.K .none):=PO.of ad5 fun σ H Q ι ρ M d M' S R e q=>by rw [MW.Xh] at e;cases e;exact q ι H (Le.refl _ _) S
theorem afv (ha:PE X a (tE nm W X.K a')):PO X (some a) (tO nm W X.K (.some a')):=PO.of (ad6 ha) fun σ H Q ι ρ M d M' S R e q=>by rw [MW.Xi] at e;obtain ⟨x,M1,e1,e⟩:=aa e;split at e<;>cases e;rename_i i;exact one S R e1 fun ι1 H1 v le S1 R1 r=>by cases r;exact ⟨i,rfl,q ι1 H1 le S1⟩
theorem aqi {lo hi:Option Expr} {lo' hi':Qc} (ha:PE X a (tE nm W X.K a')) (hl:PO X lo (tO nm W X.K lo')) (hh:PO X hi (tO nm W X.K hi')):PE X (.Subscript a (.Slice lo hi none p2) pos) (tE nm W X.K (.cut a' lo' hi')) :=
 PE.of (Zq (SlR.or ad8 ajc) ha hl hh) fun σ H Q ι ρ M d M' S R e q=>by
  rw [MW.aej] at e;obtain ⟨x,M1,e1,e⟩:=aa e;obtain ⟨l,M2,e2,e⟩:=aa e;obtain ⟨h,M3,e3,e⟩:=aa e;obtain ⟨e4,e5⟩:=cu e;subst e5;refine one S R e1 fun ι1 H1 v le S1 R1 r=>⟨ι1,ρ,M1,l,M2,S1,R1,e2,fun ι2 H2 le2 S2=>⟨ι2,ρ,M2,h,_,S2,R1.mono le2,e3,fun ι3 H3 Mf S3=>?_⟩⟩
  have r3:=(r.mono le2).mono Mf;have fin:=fun ι' H' w Kw S' r'=>q ι' H' w (((le.trans le2).trans Mf).trans Kw) S' r'
  have lst:∀ ds,MW.asList M' x=some ds->d=.vl (MW.Nz ds l h)->anz X.K v l h H3 Q:=λds hd ed=>by
   obtain ⟨p,vs,rfl,hp,rl⟩:=dg S3 r3 hd;refine ⟨p,vs,rfl,uh.of hp,λp' hp'=>?_⟩;have:bc X.K ι3 H3 (MW.Nz ds l h) (K4 vs l h):=by unfold MW.Nz K4;rw [xu,xu,<- rl.length];exact (rl.drop _).take _
   obtain ⟨S4,le4,r4⟩:=Ud (X:=X) S3 hp' this;subst ed;exact fin _ _ _ le4 S4 r4
  cases x with
  | tup ds =>
   right
   simp only [MW.cutOp] at e4;split at e4
   . cases e4
   . rename_i hw
     cases e4;cases r3 with
     | @tup p _ vs hp rl =>
      refine ⟨p,vs,rfl,yt.of hp,?_,λp' hp'=>?_⟩
      . rw [xu,xu,<- rl.length];exact hw
      . have:bc X.K ι3 H3 (MW.Nz ds l h) (K4 vs l h):=by
         unfold MW.Nz K4;rw [xu,xu,<- rl.length];exact (rl.drop _).take _
        obtain ⟨S4,le4,r4⟩:=za (X:=X) S3 hp' this;exact fin _ _ _ le4 S4 r4
  | _ =>
   left
   simp only [MW.cutOp] at e4;obtain ⟨ds,hd,ed⟩:=Option.map_eq_some_iff.mp e4;exact lst ds hd ed.symm
end
section
variable {nm:Nm} {W:jz} {X:Cx} {a b c o e:Expr} {a' b' c' o':Ex} {pos pos' apos cpos p2:Pos} {ι:Io} {H:Hp} {σ:St} {ρ:En} {M M1 M2:Store} {x y:Dv} {es:List Expr} {es':ji}
theorem abi {t:Nx} {T:String} {n tn:Str} {p p':Pos} (hk:∀ ι H M M' x v d,az nm X.K ι H M->Rep X.K ι H x v->MW.dj t [x] M=.ok d M'->M'=M/\∃ b ty,d=.bl b/\Am X.K H v ty/\PySem.W.kitOne X.K ty (.type T)=some b)
 (hg:Gl X n) (hm:X.mg n=none) (hv:bootBuiltins n=some (.builtin "isinstance")) (hn:n ≠ "__name__") (hdb:(n == ("__debug__" : Str))=false)
 (hg2:Gl X tn) (hm2:X.mg tn=none) (hv2:bootBuiltins tn=some (.type T)) (hn2:tn ≠ "__name__") (akn:(tn == ("__debug__" : Str))=false)
 (ha:PE X a (tE nm W X.K a')) (he:starEach [a,.Name tn p'] X.env=(false,eval a X.env) :: starEach [.Name tn p'] X.env) (he2:starEach [.Name tn p'] X.env=(false,eval (.Name tn p') X.env) :: starEach [] X.env)
 (hpl:(backTo pos (starEach [.Name tn p'] X.env)).any (·.1)=false):PE X (.Call (.Name n p) [a,.Name tn p'] [] pos) (tE nm W X.K (.blt t (.cons a' .nil))):=by
 intro pins s σ H Q I hh;obtain ⟨ι,ρ,M,d,M',S,R,e,q⟩:=hh;rw [MW.N5] at e;obtain ⟨ds,M1,e1,e⟩:=aa e;rw [MW.m6] at e1;obtain ⟨x,M2,e2,e1⟩:=aa e1;rw [MW.Aq] at e1;cases e1;refine wpAny_Call_Name_kw (j4 I hg hm hv ?_ hn hdb);refine PyProof.Rows.callWith_builtin1 (Q:=EP X pins σ Q) ?_ he hpl;rw [he];show wpAny _ _ (spliced ((false,eval a X.env) :: backTo pos (starEach [.Name tn p'] X.env))) _ _ s;refine Calls.spliced_cons (jb (ha pins s σ H (λv H1=>∃ ι1,Le ι H ι1 H1/\az nm X.K ι1 H1 M1/\Rep X.K ι1 H1 x v) I ⟨ι,ρ,M,x,M1,S,R,e2,fun ι1 H1 v le S1 r=>⟨ι1,le,S1,r⟩⟩) λu s1 ⟨v,H1,I1,r1,ι1,le,S1,r⟩=>?_);rw [he2];show wpAny _ _ (spliced ((false,eval (.Name tn p') X.env) :: backTo pos (starEach [] X.env))) _ _ s1;refine Calls.spliced_cons (j4 I1 hg2 hm2 hv2 ?_ hn2 akn);refine Calls.spliced_nil ?_;obtain ⟨rfl,b,ty,rfl,h1,h2⟩:=hk ι1 H1 _ _ x v d S1 r e;exact W7 I1 r1 h1 h2 λtk=>⟨.bl b,H1,I1.tok _,rfl,q ι1 H1 _ le S1 (.bl b)⟩
theorem abj (hno:∀ T∈["NoneType", "bool", "int", "str", "tuple", "dict"],PySem.W.kitOne X.K (.type T) (.type "list")=some false):∀ ι H M M' x v d,az nm X.K ι H M->Rep X.K ι H x v->MW.dj .isList [x] M=.ok d M'->M'=M/\∃ b ty,d=.bl b/\Am X.K H v ty/\PySem.W.kitOne X.K ty (.type "list")=some b:=fun ι H M M' x v d S r e=>by
 have yes:PySem.W.kitOne X.K (.type "list") (.type "list")=some true:=by unfold PySem.W.kitOne;rw [if_pos (by decide)]
 have e:Res.ofOpt ((MW.isL M x).map MW.D.bl) M=.ok d M':=by rw [<- e];cases x<;>rfl
 obtain ⟨e1,e2⟩:=cu e;obtain ⟨b,e3,rfl⟩:=Option.map_eq_some_iff.mp e1;refine ⟨e2,b,?_⟩;cases r with
 | non=>cases e3;exact ⟨_,rfl,.non,hno _ (by simp)⟩|bl b=>cases e3;exact ⟨_,rfl,.bl _,hno _ (by simp)⟩|int i=>cases e3;exact ⟨_,rfl,.int _,hno _ (by simp)⟩|str z=>cases e3;exact ⟨_,rfl,.str _,hno _ (by simp)⟩|tup h r=>cases e3;exact ⟨_,rfl,.tup h,hno _ (by simp)⟩|vl h n r=>cases e3;exact ⟨_,rfl,.lst h,yes⟩|fz e r=>cases e3
 | @ref n p hp =>
  have e3:(match M[n]? with | some (.lst _)=>some true | some (.dT _)=>some false | some (.dK _)=>some false | _=>none)=some b:=e3;split at e3
  . rename_i hM
    cases e3;obtain ⟨vs,h1,_⟩:=S.obj n _ p hM hp;exact ⟨_,rfl,.lst h1,yes⟩
  . rename_i hM
    cases e3;obtain ⟨vs,h1,_⟩:=S.obj n _ p hM hp;exact ⟨_,rfl,.dT h1,hno _ (by simp)⟩
  . rename_i hM
    cases e3;obtain ⟨vs,h1,_⟩:=S.obj n _ p hM hp;exact ⟨_,rfl,.dK h1,hno _ (by simp)⟩
  . cases e3
end
section
variable {prog:Program} {w:World} {A:Around} {E:Value->Shared->Prop} {s:Shared}
theorem K9 {r:Addr} {a b c:Int} {t u v:Tok} {n:Nat} {Q:List Value->Shared->Prop} (hh:A.handled=none) (hr:IsRange s.heap r a b c t u v) (hsmall:Builtin.Range.small a b c=true) (hn:Builtin.Range.rangeSize a b c=n) (hlen:n <= 2 ^ 24)
 (hQ:∀ (h':Heap) (tk:Nat) (acc:Array Value),(∀ b o,s.heap.get? b=some o->h'.get? b=some o)->ItemsOf (λi v=>∃ t,v=.int (a+i * c) t) acc n->Q acc.toList { s with heap:=h',toks:=tk }):wpAny (model prog w) A (collect (.ref r)) Q E s:=by
 unfold collect;refine wpAny_bind (wpAny_runValue (codeAny_builtin F.entry_proto_collect ?_));rw [Around.under_plainId F.plain_proto_collect _];show wpAny _ A.in1 (newList [] >>= λl=>again (.builtin "list.__iadd__" ⟨[l,.ref r],[]⟩)) _ _ s;refine wpAny_bind (wpAny_newObj_type ?_);refine wpAny_pure ⟨plainId_quiet F.plain_list_iadd _,codeAny_builtin F.entry_list_iadd ?_⟩;rw [Around.under_plainId F.plain_list_iadd _];show wpAny _ A.in1 (Builtin.List.listExtendWith (.ref s.heap.objs.size) (.ref r) (.ref s.heap.objs.size)) _ _ _;have keep:∀ b o,s.heap.get? b=some o->(s.heap.push { cls:=.type "list",data:=.seq ([]:List Value).toArray }).get? b=some o:=λb o e=>Heap.get?_push_of_some _ e
 have hS0:(s.heap.push { cls:=.type "list",data:=.seq ([]:List Value).toArray }).get? s.heap.objs.size=some { cls:=.type "list",data:=.seq #[] 0 }:=Heap.get?_push_size _ rfl;have ext:=wpAny_extend_range (prog:=prog) (w:=w) (A:=A) (R:=λr' s'=>∃ (h':Heap) (tk:Nat) (acc:Array Value) (c':Nat),r'=.ok (.ret (.ref s.heap.objs.size))/\s'={ s with heap:=h',toks:=tk }/\(∀ b o,s.heap.get? b=some o->h'.get? b=some o)
  /\ h'.get? s.heap.objs.size=some { cls:=.type "list",dict:=none,data:=.seq acc c',slots:=#[] }/\ItemsOf (λi v=>∃ t,v=.int (a+i * c) t) acc n)
  (s:={ s with heap:=s.heap.push { cls:=.type "list",data:=.seq ([]:List Value).toArray } }) hh (keep _ _ hr) hsmall hn hlen s.heap.objs.size (.ref s.heap.objs.size) 0 hS0
  λh' tk acc c' hk hS hacc=>⟨h',tk,acc,c',rfl,rfl,λb o e=>hk b o (Nat.ne_of_lt (Heap.lt_size e)) (keep b o e),hS,hacc⟩
 have last:∀ {r':Result} {s':Shared},(∃ (h':Heap) (tk:Nat) (acc:Array Value) (c':Nat),r'=.ok (.ret (.ref s.heap.objs.size))/\s'={ s with heap:=h',toks:=tk }/\(∀ b o,s.heap.get? b=some o->h'.get? b=some o)
  /\ h'.get? s.heap.objs.size=some { cls:=.type "list",dict:=none,data:=.seq acc c',slots:=#[] }/\ItemsOf (λi v=>∃ t,v=.int (a+i * c) t) acc n)->∃ (h':Heap) (tk:Nat) (acc:Array Value) (c':Nat),r'=.ok (.ret (.ref s.heap.objs.size))/\s'={ s with heap:=h',toks:=tk }/\h'.get? s.heap.objs.size=some { cls:=.type "list",dict:=none,data:=.seq acc c',slots:=#[] }/\Q acc.toList s':=λ⟨h',tk,acc,c',e1,e2,e3,e4,e5⟩=>⟨h',tk,acc,c',e1,e2,e4,by rw [e2];exact hQ h' tk acc e3 e5⟩
 refine wpAny_mono ext (λfin s' hf=>?_) (λe s' he=>?_)
 . cases fin with
   | done f =>
    obtain ⟨h',tk,acc,c',e1,rfl,e4,e5⟩:=last hf;cases e1;exact wpAny_bind (wpAny_load e4 (wpAny_pure e5))
   | again c' =>
    refine ⟨hf.1,codeAny_mono hf.2 λr' s'' hr'=>?_⟩;obtain ⟨h',tk,acc,c',e1,rfl,e4,e5⟩:=last hr';subst e1;exact wpAny_bind (wpAny_load e4 (wpAny_pure e5))
 . obtain ⟨_,_,_,_,e1,_⟩:=last he
   cases e1
theorem Gy {Q₁:Value->Shared->Prop} {r:Addr} {a b c:Int} {t u v:Tok} {n:Nat} (hh:A.handled=none) (hr:IsRange s.heap r a b c t u v) (hsmall:Builtin.Range.small a b c=true) (hn:Builtin.Range.rangeSize a b c=n) (hlen:n <= 2 ^ 24)
 (h:∀ (h':Heap) (tk:Nat) (acc:Array Value),(∀ b o,s.heap.get? b=some o->h'.get? b=some o)->ItemsOf (λi v=>∃ t,v=.int (a+i * c) t) acc n->Q₁ (.ref h'.objs.size) { s with heap:=h'.push { cls:=.type "tuple",data:=.seq acc },toks:=tk }) :
 codeAny (model prog w) A (.call (.builtin "tuple.__new__") ⟨[.type "tuple",.ref r],[]⟩) (wants Q₁ E) s:=by
 refine codeAny_of_tree ?_;show wpAny _ A.in1 (do checkBuiltinCall "tuple.__new__" ⟨[.type "tuple",.ref r],[]⟩;again (.builtin "tuple.__new__" ⟨[.type "tuple",.ref r],[]⟩)) _ _ s;refine wpAny_bind (wpAny_of_eq (F.newCall_tuple_1 _) (wpAny_pure ⟨plainId_quiet F.plain_tuple_new _,codeAny_builtin F.entry_tuple_new ?_⟩));rw [Around.under_plainId F.plain_tuple_new _];have hsub:=sub_tuple_self;have hinit:=init_tuple_lookup;have hmh:=madeHere_tuple;have hTI:s.TypeIs (.ref r) "range" := ⟨_,hr,rfl⟩
 wp_walk using wpAny_typeOf hTI,K9 (A:=A.in1) hh hr hsmall hn hlen
 intro h' tk acc hk hacc;show wpAny _ _ (Builtin.Tuple.tupleExact acc.toList.toArray >>= λv=>ret v) _ _ _;unfold Builtin.Tuple.tupleExact;refine wpAny_bind (wpAny_newObj_type ?_ (by show acc.toList.toArray.size <= sizeLine;simp only [Array.toArray_toList];rw [hacc.1,sizeLine_eq];exact hlen));refine wpAny_pure ?_;have e:acc.toList.toArray=acc:=by simp
 rw [e];exact h h' tk acc hk hacc
theorem Gz {Q:Value->Shared->Prop} {r:Addr} {a b c:Int} {t u v:Tok} {n:Nat} (hh:A.handled=none) (hr:IsRange s.heap r a b c t u v) (hsmall:Builtin.Range.small a b c=true) (hn:Builtin.Range.rangeSize a b c=n) (hlen:n <= 2 ^ 24)
 (hQ:∀ (h':Heap) (tk:Nat) (acc:Array Value),(∀ b o,s.heap.get? b=some o->h'.get? b=some o)->ItemsOf (λi v=>∃ t,v=.int (a+i * c) t) acc n->Q (.ref h'.objs.size) { s with heap:=h'.push { cls:=.type "tuple",data:=.seq acc },toks:=tk }) :
 wpAny (model prog w) A (call (.type "tuple") [.ref r]) Q E s:=by
 refine callType_codes (Q₁:=λobj s₁=>s₁.TypeIs obj "tuple" /\ Q obj s₁) F.called_tuple (F.typeCall_tuple_1 _) F.entry_object_init
  (Gy (A:=A.in1) hh hr hsmall hn hlen λh' tk acc hk hacc=>⟨⟨_,Heap.get?_push_size _ rfl,rfl⟩,hQ h' tk acc hk hacc⟩) λobj s₁ h₁=>?_
 exact ⟨h₁.1,F.args_object_init_2 obj _,object_init_meets F.called_tuple.init.lookup F.called_tuple.made (by decide) prog w A.in1 _ s₁ ⟨h₁.1,rfl,h₁.2⟩⟩
end
section
variable {nm:Nm} {W:jz} {X:Cx} {a b c o e:Expr} {a' b' c' o':Ex} {pos pos' apos cpos p2:Pos} {ι:Io} {H:Hp} {σ:St} {ρ:En} {M M1 M2:Store} {x y:Dv} {es:List Expr} {es':ji}
theorem Uo {acc:Array Value} {n:Nat} (h:ItemsOf (λi v=>∃ t,v=.int (0+(i:Int) * 1) t) acc n):Vals ((List.range n).map λ(k:Nat)=>V.int (k:Int)) acc.toList:=by
 have go:∀ (l:List Value) (k:Nat),(∀ (j:Nat) (v:Value),l[j]?=some v->∃ t,v=Value.int ((k+j:Nat):Int) t)->Vals ((List.range' k l.length).map λ(k:Nat)=>V.int (k:Int)) l:=by
  intro l
  induction l with
  | nil=>intro k _;exact .nil
  | cons v l ih =>
   intro k hk;rw [List.length_cons,List.range'_succ,List.map_cons];refine .cons ?_ (ih (k+1) λj v hj=>?_)
   . exact hk 0 v rfl
   . obtain ⟨t,e⟩:=hk (j+1) v (by simpa using hj)
     exact ⟨t,by rw [e];congr 1;omega⟩
 have:=go acc.toList 0 (λj v hj=>by
  obtain ⟨t,e⟩:=h.2 j v (by simpa using hj);exact ⟨t,by rw [e];congr 1;omega⟩)
 rw [Array.length_toList,h.1,<- List.range_eq_range'] at this;exact this
theorem Uq {K:Fg} (n:Nat):bc K ι H ((List.range n).map λ(k:Nat)=>MW.D.int (k:Int)) ((List.range n).map λ(k:Nat)=>V.int (k:Int)):=by
 generalize List.range n=l
 induction l with
 | nil=>exact .nil|cons k l ih=>exact .cons (.int _) ih
theorem ako {n tn:Str} {p p' q1 q2:Pos} (hr:gm 8 X.A) (hg:Gl X n) (hm:X.mg n=none) (hv:bootBuiltins n=some (.type "tuple")) (hn:n ≠ "__name__") (hdb:(n == ("__debug__" : Str))=false)
 (hg2:Gl X tn) (hm2:X.mg tn=none) (hv2:bootBuiltins tn=some (.type "range")) (hn2:tn ≠ "__name__") (akn:(tn == ("__debug__" : Str))=false)
 (ha:PA X [a] (Lz nm W X.K (.cons a' .nil)))
 (he:starEach [.Call (.Name tn p') [a] [] q2] X.env=(false,eval (.Call (.Name tn p') [a] [] q2) X.env) :: starEach [] X.env) (hpl:(backTo q1 (starEach [] X.env)).any (·.1)=false)
 (he2:starEach [a] X.env=(false,eval a X.env) :: starEach [] X.env) (akj:(backTo q2 (starEach [] X.env)).any (·.1)=false) :
 PE X (.Call (.Name n p) [.Call (.Name tn p') [a] [] q2] [] q1) (tE nm W X.K (.T5 a')):=by
 intro pins s σ H Q I hh;obtain ⟨ι,ρ,M,d,M',S,R,e,q⟩:=hh;rw [MW.aaa] at e;obtain ⟨x,M1,e1,e⟩:=aa e;split at e<;>try cases e
 rename_i i;split at e<;>cases e;rename_i hi;refine wpAny_Call_Name_kw (j4 I hg hm hv ?_ hn hdb);refine PyProof.Rows.callWith_type1 (Q:=EP X pins σ Q) ?_ he hpl;rw [he];show wpAny _ _ (spliced ((false,eval (.Call (.Name tn p') [a] [] q2) X.env) :: backTo q1 (starEach [] X.env))) _ _ s;refine Calls.spliced_cons ?_;refine wpAny_Call_Name_kw (j4 I hg2 hm2 hv2 ?_ hn2 akn);refine PyProof.Rows.callWith_type1 (jb (ha q2 pins s σ H (λvs H1=>∃ ι1,vs=[.int i]/\Le ι H ι1 H1/\az nm X.K ι1 H1 M') I ⟨ι,ρ,M,[.int i],M',S,R,by simp [e1,Res.bind],fun ι1 H1 vs le S1 r=>?_⟩) λus s1 ⟨vs,H1,I1,r1,ι1,ev,le1,S1⟩=>?_) he2 akj
 . obtain ⟨v,ev,rv⟩:=Es r rfl
   cases rv;exact ⟨ι1,ev,le,S1⟩
 subst ev;obtain ⟨u,rfl,ru⟩:=Um r1;obtain ⟨t,rfl⟩:=ru;refine call_range_1 ?_;show wpAny _ _ (spliced []) _ _ _;refine Calls.spliced_nil ?_;have keep:∀ b o,s1.heap.get? b=some o->(s1.heap.push { cls:=.type "range",data:=.fields #[.int 0 s1.toks,.int i t,.int 1 (s1.toks+1)] }).get? b=some o:=λb o e=>Heap.get?_push_of_some _ e
 refine Gz (n:=i.toNat) hr.hd (Heap.get?_push_size _ rfl) (small_one (by omega) (by omega) (by omega) (by omega)) (by rw [rangeSize_one];split<;>omega) (by omega) λh' tk acc hk hacc=>?_
 have I2:Inv X pins σ H1 { s1 with heap:=h',toks:=tk }:=I1.kept λb o e=>hk b o (keep b o e)
 have hz:((List.range i.toNat).map λ(k:Nat)=>V.int (k:Int)).length <= sizeLine:=by simp [sizeLine_eq];omega
 have hf:H1 h'.objs.size=none:=I2.hok.fresh (Nat.le_refl _);have I3:Inv X pins σ (upd H1 h'.objs.size (.tup ((List.range i.toNat).map λ(k:Nat)=>V.int (k:Int)))) { s1 with heap:=h'.push { cls:=.type "tuple",data:=.seq acc },toks:=tk } :=
  I2.laid (a:=h'.objs.size) (t':=tk) (λb o e=>Heap.get?_push_of_some _ e) (Nat.le_refl _) (show iw X.prog X.w _ _ _ (.tup _) from ⟨hz,acc.toList,Uo hacc,by simpa using PyProof.Rows.IsTup.new _ _⟩)
 obtain ⟨S2,le2,r2⟩:=za (X:=X) S1 hf (Uq i.toNat);exact ⟨.ref h'.objs.size,_,I3,rfl,q ι1 _ _ (le1.trans le2) S2 r2⟩
end
end Sm
namespace EnT
open PySem PySem.Spec
open AutoSeq1 (wpAny_loadPart')
section
variable {prog:Program} {w:World} {A:Around} {E:Value->Shared->Prop} {s:Shared}
theorem abk {it t:Addr} {i:Nat} {xs:Array Value} {x:Value} {Q:Value->Shared->Prop} (a:s.heap.IsTupleIter it t i) (b:s.heap.IsTuple t xs) (e:xs[i]?=some x)
 (q:∀ h',h'.IsTupleIter it t (i+1)->Heap.SameBut it s.heap h'->Q x { s with heap:=h' }):wpAny (model prog w) A (Builtin.SmallTypes.nextOf (.ref it)) Q E s:=by
 obtain ⟨o,o1,o2,o3⟩:=id a;obtain ⟨ol,l1,l2,nl,l3⟩:=b;unfold Builtin.SmallTypes.nextOf;refine wpAny_bind (wpAny_callSpecial?_slot (name:=Str.ofString "__next__") a.typeIs F.slot_tuple_iterator_next (wpAny_call_entry F.slot_tuple_iterator_next a.typeIs F.entry_tuple_iterator_next ?_ (F.args_tuple_iterator_next_1 _)));show wpAny _ _ (field (.ref it) 0 >>= _) _ _ s;refine wpAny_bind (wpAny_field o1 o3 (x:=.ref t) rfl ?_);show wpAny _ _ (if (Value.ref t == Value.none)=true then _ else field (.ref it) 1 >>= _) _ _ s;rw [if_neg (show ¬ ((Value.ref t == Value.none)=true) by exact Bool.false_ne_true)];refine wpAny_bind (wpAny_field o1 o3 (x:=.int i 0) rfl (wpAny_bind (wpAny_seqItems l1 l3 ?_)));simp only [Int.toNat_natCast,e];refine wpAny_bind (wpAny_setField o1 o3 (by simp) (wpAny_pure ⟨x,rfl,wpAny_pure (q _ ⟨_,Heap.get?_update_self _ o1 (Obj.isFreed_of_fields (Obj.data_mapFields o3 _)),(Obj.cls_mapFields ..).trans o2,?_⟩ (Heap.SameBut.update ..))⟩));rw [Obj.data_mapFields o3];simp [rawInt]
theorem afw {it t:Addr} {i:Nat} {xs:Array Value} {Q:Value->Shared->Prop} (hd:A.handled=none) (a:s.heap.IsTupleIter it t i) (b:s.heap.IsTuple t xs) (e:xs[i]?=none)
 (q:∀ h' x,Heap.ExtBut it s.heap h'->(∃ o,h'.get? x=some o/\o.cls=.type "StopIteration")->E (.ref x) { s with heap:=h' }):wpAny (model prog w) A (Builtin.SmallTypes.nextOf (.ref it)) Q E s:=by
 obtain ⟨o,o1,o2,o3⟩:=id a;obtain ⟨ol,l1,l2,nl,l3⟩:=b;unfold Builtin.SmallTypes.nextOf;refine wpAny_bind (wpAny_callSpecial?_slot (name:=Str.ofString "__next__") a.typeIs F.slot_tuple_iterator_next (wpAny_call_entry F.slot_tuple_iterator_next a.typeIs F.entry_tuple_iterator_next ?_ (F.args_tuple_iterator_next_1 _)));show wpAny _ _ (field (.ref it) 0 >>= _) _ _ s;refine wpAny_bind (wpAny_field o1 o3 (x:=.ref t) rfl ?_);show wpAny _ _ (if (Value.ref t == Value.none)=true then _ else field (.ref it) 1 >>= _) _ _ s;rw [if_neg (show ¬ ((Value.ref t == Value.none)=true) by exact Bool.false_ne_true)];refine wpAny_bind (wpAny_field o1 o3 (x:=.int i 0) rfl (wpAny_bind (wpAny_seqItems l1 l3 ?_)));simp only [Int.toNat_natCast,e];refine wpAny_bind (wpAny_rule (wpAny_bind (wpAny_setField o1 o3 (by simp) ?_)));show wpAny _ _ (newExc (.type "StopIteration") [] >>= raiseNew) _ _ _;refine wpAny_bind ?_;simp only [newExc,newTuple];refine wpAny_bind (wpAny_newObj_type ?_ (by size_fits));refine wpAny_bind (m:=firstArgMember _ _) (wpAny_of_eq (a:=Value.none) (by first | rfl | (simp only [firstArgMember];rfl)) (wpAny_newObj_type ?_ (by size_fits)));simp only [raiseNew];refine wpAny_bind (wpAny_handled ?_)
 first | rw [show A.in1.handled=none by exact hd] | rw [hd]
 exact wpAny_bind (wpAny_pure (wpAny_throw (q _ _ (((Heap.SameBut.update ..).extBut.push _).push _) ⟨_,Heap.get?_push_size _ rfl,rfl⟩)))
end
def Ab (b:Bool) (h:Heap) (it a:Addr) (i:Nat):Prop:=cond b (h.IsTupleIter it a i) (h.IsListIter it a i)
def G3 (b:Bool) (h:Heap) (a:Addr) (xs:Array Value):Prop:=cond b (h.IsTuple a xs) (h.IsList a xs)
theorem Ab.at {b:Bool} {h h':Heap} {it a:Addr} {i:Nat} (x:Ab b h it a i) (k:∀ o,h.get? it=some o->h'.get? it=some o):Ab b h' it a i:=by
 cases b with
 | true=>obtain ⟨o,e,r⟩:=x;exact ⟨o,k o e,r⟩
 | false=>obtain ⟨o,e,r⟩:=x;exact ⟨o,k o e,r⟩
theorem Ab.obj {b:Bool} {h:Heap} {it a:Addr} {i:Nat} (x:Ab b h it a i):∃ o,h.get? it=some o/\∀ v,o.data≠.cell v:=by
 cases b with
 | true=>obtain ⟨o,e,c,d⟩:=x;exact ⟨o,e,λv z=>by rw [d] at z;cases z⟩
 | false=>obtain ⟨o,e,c,d⟩:=x;exact ⟨o,e,λv z=>by rw [d] at z;cases z⟩
section
variable {prog:Program} {w:World} {A:Around} {E:Value->Shared->Prop} {s:Shared} {b:Bool}
theorem Fe {it t:Addr} {i:Nat} {xs:Array Value} {x:Value} {Q:Value->Shared->Prop} (a:Ab b s.heap it t i) (c:G3 b s.heap t xs) (e:xs[i]?=some x)
 (q:∀ h',Ab b h' it t (i+1)->Heap.SameBut it s.heap h'->Q x { s with heap:=h' }):wpAny (model prog w) A (Builtin.SmallTypes.nextOf (.ref it)) Q E s:=by
 cases b with
 | true=>exact abk a c e q|false=>exact wpAny_nextOf_list_item a c e q
theorem Om {it t:Addr} {i:Nat} {xs:Array Value} {Q:Value->Shared->Prop} (hd:A.handled=none) (a:Ab b s.heap it t i) (c:G3 b s.heap t xs) (e:xs[i]?=none)
 (q:∀ h' x,Heap.ExtBut it s.heap h'->(∃ o,h'.get? x=some o/\o.cls=.type "StopIteration")->E (.ref x) { s with heap:=h' }):wpAny (model prog w) A (Builtin.SmallTypes.nextOf (.ref it)) Q E s:=by
 cases b with
 | true=>exact afw hd a c e q|false=>exact wpAny_nextOf_list_end hd a c e q
theorem afx {e it t:Addr} {i:Nat} {xs:Array Value} {x old:Value} {Q:Value->Shared->Prop} (he:IsEnum s.heap e it i old) (a:Ab b s.heap it t i) (c:G3 b s.heap t xs) (ex:xs[i]?=some x) (ne:e≠it)
 (q:∀ h',IsEnumOut h' e it ((i:Int)+1) x s.heap.objs.size->Ab b h' it t (i+1)->h'.get? s.heap.objs.size=some { cls:=.type "tuple",data:=.seq #[.int i s.toks,x] }->h'.objs.size=s.heap.objs.size+1 ->
  (∀ y o,y≠e->y≠it->s.heap.get? y=some o->h'.get? y=some o)->Q (.ref s.heap.objs.size) { s with heap:=h',toks:=s.toks+1 }) :
 wpAny (model prog w) A (Builtin.«enumerate.__next__» ⟨[.ref e],[]⟩) (λfin s'=>∃ v,fin=.done (.ret v)/\Q v s') E s:=by
 obtain ⟨hp,g,d,tk,os⟩:=s;show wpAny _ _ (field (.ref e) 2 >>= _) _ _ _;refine wpAny_bind (wpAny_field he rfl (x:=.ref it) rfl (wpAny_bind (Fe a c ex λh1 a1 s1=>?_)));have s1:Heap.SameBut it hp h1:=s1;have e1:IsEnum h1 e it i old:=(s1.2 e ne).trans he;refine wpAny_bind (wpAny_field e1 rfl (x:=rawInt i) rfl (wpAny_bind (wpAny_field e1 rfl (x:=.none) rfl (wpAny_bind (wpAny_mkInt ?_)))));show wpAny _ _ (setField (.ref e) 3 (rawInt ((i:Int)+1)) >>= _) _ _ ⟨h1,g,d,tk+1,os⟩;refine wpAny_bind (wpAny_setField_rec e1 (by simp) λh2 e2 s2=>?_);have s2:Heap.SameBut e h1 h2:=s2;have e2:IsEnum h2 e it ((i:Int)+1) old:=e2;refine wpAny_bind (wpAny_setField_rec e2 (by simp) λh3 e3 s3=>?_);have s3:Heap.SameBut e h2 h3:=s3;have e3:IsEnum h3 e it ((i:Int)+1) old:=e3;refine wpAny_bind (wpAny_newTuple ?_);have n3:h3.objs.size=hp.objs.size:=by rw [s3.1,s2.1,s1.1]
 obtain ⟨h4,d4⟩:∃ h4,h4=h3.push { cls:=.type "tuple",data:=.seq #[.int i tk,x] }:=⟨_,rfl⟩;have e4:IsEnum h4 e it ((i:Int)+1) old:=by rw [d4];exact Heap.get?_push_of_some _ e3
 have t4:h4.get? hp.objs.size=some { cls:=.type "tuple",data:=.seq #[.int i tk,x] }:=by rw [d4,<- n3];exact Heap.get?_push_size _ rfl
 have n4:h4.objs.size=hp.objs.size+1:=by rw [d4,Heap.size_push,n3]
 have k3:∀ y o,y≠e->h1.get? y=some o->h4.get? y=some o:=λy o hy z=>by rw [d4];exact Heap.get?_push_of_some _ (s3.extBut y o hy (s2.extBut y o hy z))
 have a4:Ab b h4 it t (i+1):=a1.at λo z=>k3 it o (Ne.symm ne) z
 have lt:e < hp.objs.size:=Heap.lt_size he
 show wpAny _ _ (Builtin.SmallTypes.ownedTupleIsFree (.ref e) >>= _) _ _ ⟨h3.push _,g,d,tk+1,os⟩;rw [n3,<- d4];refine wpAny_bind ?_;unfold Builtin.SmallTypes.ownedTupleIsFree;refine wpAny_bind (wpAny_field e4 rfl (x:=.none) rfl (wpAny_pure ?_));simp only [if_true];refine wpAny_bind (wpAny_rule (wpAny_bind (wpAny_field e4 rfl (x:=old) rfl (wpAny_bind (wpAny_setField_rec e4 (by simp) λh5 e5 s5=>?_)))));have s5:Heap.SameBut e h4 h5:=s5;have e5:IsEnum h5 e it ((i:Int)+1) x:=e5;refine wpAny_bind ?_;unfold Builtin.SmallTypes.ownedTupleHandOut;refine wpAny_bind (wpAny_setField_rec e5 (by simp) λh6 e6 s6=>?_);have s6:Heap.SameBut e h5 h6:=s6;have e6:IsEnumOut h6 e it ((i:Int)+1) x hp.objs.size:=e6;refine wpAny_setField_rec e6 (by simp) λh7 e7 s7=>?_
 have s7:Heap.SameBut e h6 h7:=s7;have k7:∀ y o,y≠e->h4.get? y=some o->h7.get? y=some o:=λy o hy z=>s7.extBut y o hy (s6.extBut y o hy (s5.extBut y o hy z))
 exact wpAny_bind (wpAny_letGo (wpAny_pure ⟨_,rfl,q h7 e7 (a4.at λo z=>k7 it o (Ne.symm ne) z) (k7 _ _ (Nat.ne_of_gt lt) t4) (by rw [s7.1,s6.1,s5.1,n4]) λy o y1 y2 z=>k7 y o y1 (k3 y o y1 (s1.extBut y o y2 z))⟩))
theorem afy {e it t:Addr} {i:Nat} {xs:Array Value} {x old:Value} {Q:Option Value->Shared->Prop} (he:IsEnum s.heap e it i old) (a:Ab b s.heap it t i) (c:G3 b s.heap t xs) (ex:xs[i]?=some x) (ne:e≠it)
 (q:∀ h',IsEnumOut h' e it ((i:Int)+1) x s.heap.objs.size->Ab b h' it t (i+1)->h'.get? s.heap.objs.size=some { cls:=.type "tuple",data:=.seq #[.int i s.toks,x] }->h'.objs.size=s.heap.objs.size+1 ->
  (∀ y o,y≠e->y≠it->s.heap.get? y=some o->h'.get? y=some o)->Q (some (.ref s.heap.objs.size)) { s with heap:=h',toks:=s.toks+1 }):wpAny (model prog w) A (pyNext (.ref e)) Q E s:=by
 have ty:s.TypeIs (.ref e) "enumerate" := ⟨_,he,rfl⟩;unfold pyNext;refine wpAny_bind (wpAny_attempt (wpAny_callSpecial?_slot (name:=Str.ofString "__next__") ty F.slot_enumerate_next (wpAny_call_entry F.slot_enumerate_next ty F.entry_enumerate_next ?_ (F.args_enumerate_next_1 _))));exact afx he a c ex ne λh' y1 y2 y3 y4 y5=>wpAny_pure (q h' y1 y2 y3 y4 y5)
theorem afz {e it t:Addr} {i:Nat} {xs:Array Value} {old:Value} {Q:Option Value->Shared->Prop} (hd:A.handled=none) (he:IsEnum s.heap e it i old) (a:Ab b s.heap it t i) (c:G3 b s.heap t xs) (ex:xs[i]?=none)
 (q:∀ h',Heap.ExtBut it s.heap h'->Q none { s with heap:=h' }):wpAny (model prog w) A (pyNext (.ref e)) Q E s:=by
 have ty:s.TypeIs (.ref e) "enumerate" := ⟨_,he,rfl⟩;unfold pyNext;refine wpAny_bind (wpAny_attempt (wpAny_callSpecial?_slot (name:=Str.ofString "__next__") ty F.slot_enumerate_next (wpAny_call_entry F.slot_enumerate_next ty F.entry_enumerate_next ?_ (F.args_enumerate_next_1 _))));show wpAny _ _ (field (.ref e) 2 >>= _) _ _ _;refine wpAny_bind (wpAny_field he rfl (x:=.ref it) rfl (wpAny_bind (Om hd a c ex λh' z k ⟨o,o1,o2⟩=>?_)));exact wpAny_bind (wpAny_isInstance (T := "StopIteration") (b:=true) ⟨o,o1,o2⟩ isSubtype_stop (wpAny_pure (q _ k)))
theorem af0 (t:Addr) (xs:Array Value) (n:Nat) (dct:Option Addr) (sl:Array (Option Value)) :
 Meets (Builtin.«enumerate.__new__» ⟨[.type "enumerate",.ref t],[]⟩) (λ_ R s=>s.heap.get? t=some { cls:=.type "tuple",dict:=dct,data:=.seq xs n,slots:=sl } /\
  R (.ok (.ret (.ref (s.heap.push { cls:=.type "tuple_iterator",data:=.fields #[.ref t,.int 0 0] }).objs.size)))
   { s with heap:=(s.heap.push { cls:=.type "tuple_iterator",data:=.fields #[.ref t,.int 0 0] }).push { cls:=.type "enumerate",data:=.fields #[.none,.bool false,.ref s.heap.objs.size,rawInt 0,.none,.none] } }) :=
 .of_wp λprog w A R s h=>by
  obtain ⟨hp,g,d,tk,os⟩:=s;obtain ⟨hl,h⟩:=h;have hsub:=sub_enumerate;have hT:Heap.IsTuple (Shared.heap ⟨hp,g,d,tk,os⟩) t xs:=⟨_,hl,rfl,n,rfl⟩
  wp_walk using wpAny_loadPart' hl
  refine wpAny_stack_any λst=>wpAny_pure ?_
  split
  . rename_i c _ _ _ _ _
    cases (c == Value.type "enumerate")<;>(wp_walk using wpAny_loadPart' hl,wpAny_pyIter_tuple hT)<;>exact ⟨_,rfl,h⟩
  . wp_walk using wpAny_loadPart' hl,wpAny_pyIter_tuple hT
    exact ⟨_,rfl,h⟩
theorem abl {t:Addr} {xs:Array Value} {Q:Value->Shared->Prop} (c:s.heap.IsTuple t xs)
 (q:∀ h',IsEnum h' (s.heap.objs.size+1) s.heap.objs.size 0 .none->h'.IsTupleIter s.heap.objs.size t 0->h'.objs.size=s.heap.objs.size+2 ->
  (∀ y o,s.heap.get? y=some o->h'.get? y=some o)->Q (.ref (s.heap.objs.size+1)) { s with heap:=h' }):wpAny (model prog w) A (call (.type "enumerate") [.ref t]) Q E s:=by
 obtain ⟨⟨c0,dct,dt,sl⟩,hl,hc,n,hd⟩:=c;have hc:c0=.type "tuple" := hc;have hd:dt=.seq xs n:=hd;subst hc hd;have n1:(s.heap.push { cls:=.type "tuple_iterator",data:=.fields #[.ref t,.int 0 0] }).objs.size=s.heap.objs.size+1:=Heap.size_push ..;refine callType_new F.called_enumerate (by decide) (F.typeCall_enumerate_1 _) (F.newCall_enumerate_1 _) (λobj=>F.args_object_init_2 obj _) F.entry_enumerate_new (af0 t xs n dct sl) ⟨hl,?_⟩;show _/\_;rw [n1];have e1:IsEnum ((s.heap.push { cls:=.type "tuple_iterator",data:=.fields #[.ref t,.int 0 0] }).push { cls:=.type "enumerate",data:=.fields #[.none,.bool false,.ref s.heap.objs.size,rawInt 0,.none,.none] }) (s.heap.objs.size+1) s.heap.objs.size 0 .none:=by rw [<- n1];exact Heap.get?_push_size _ rfl
 exact ⟨⟨_,e1,rfl⟩,q _ e1 ⟨_,Heap.get?_push_of_some _ (Heap.get?_push_size _ rfl),rfl,rfl⟩ (by rw [Heap.size_push,n1]) λy o z=>Heap.get?_push_of_some _ (Heap.get?_push_of_some _ z)⟩
end
end EnT
namespace L2
open PySem PySem.Spec EnT
theorem Inv.Mr {X:Cx} {pins:List (Addr×Obj)} {σ:St} {H:Hp} {s:Shared} {h':Heap} {t':Nat} {ch:List Addr} {n:Addr} {vs:List V} (I:Inv X pins σ H s) (hf:∀ b∈ch,Hw X pins H b)
 (k:∀ b o,b ∉ ch->s.heap.get? b=some o->h'.get? b=some o) (hn:s.heap.objs.size <= n) (new:iw X.prog X.w (upd H n (.tup vs)) h' n (.tup vs)):Inv X pins σ (upd H n (.tup vs)) { s with heap:=h',toks:=t' }:=by
 have fr:H n=none:=I.hok.fresh hn;have Y4:∀ b u,H b=some u->b ∉ ch:=λb u e z=>by rw [(hf b z).1] at e;cases e
 have old:∀ b o,s.heap.get? b=some o->b≠n:=λb o e=>Nat.ne_of_lt (Nat.lt_of_lt_of_le (Heap.lt_size e) hn)
 refine I.step (g':=s.gens) (d':=s.drawn) (ch:=ch) (λb hb=>⟨(hf b hb).2.2.2.1,(hf b hb).2.1,(hf b hb).2.2.2.2.1,(hf b hb).2.2.2.2.2⟩) (λb o _ _ hc e _=>k b o hc e) (λb o _ _ hc e _=>⟨o.slots,k b o hc e⟩) (λb o _ e n0=>by rw [aq (old b o e)];exact n0)
  (λb o hc e=>⟨o,k b o hc e⟩) (λb xs e=>by rw [aq (au e fr)];exact e) (λb o u e=>by rw [aq (au e fr)];exact e) (λb ps e=>⟨#[],by rw [aq (au e fr),e];simp⟩) (λm hm=>?_) (λb u e=>?_) I.bare
 . obtain ⟨o,es,ep,ho,r⟩:=hm
   exact ⟨o,es,ep,k _ o (λz=>(hf _ z).2.1 rfl) ho,r⟩
 . by_cases z:b=n
   . subst z;rw [dh] at e;cases e;exact new
   . rw [aq z] at e
     refine (I.hok b u e).stay (λc v hc q=>k c v ?_ q) (λc q=>by rw [aq (au q fr)];exact q) λc xs q=>by rw [aq (au q fr)];exact q
     rcases hc with y | y
     . rw [y];exact Y4 b u e
     . exact Y4 c _ y
theorem Inv.V5 {X:Cx} {pins:List (Addr×Obj)} {σ:St} {H:Hp} {s:Shared} {h':Heap} {t':Nat} {ch:List Addr} (I:Inv X pins σ H s) (hf:∀ b∈ch,Hw X pins H b)
 (k:∀ b o,b ∉ ch->s.heap.get? b=some o->h'.get? b=some o):Inv X pins σ H { s with heap:=h',toks:=t' }:=by
 have Y4:∀ b u,H b=some u->b ∉ ch:=λb u e z=>by rw [(hf b z).1] at e;cases e
 refine I.step (g':=s.gens) (d':=s.drawn) (ch:=ch) (λb hb=>⟨(hf b hb).2.2.2.1,(hf b hb).2.1,(hf b hb).2.2.2.2.1,(hf b hb).2.2.2.2.2⟩) (λb o _ _ hc e _=>k b o hc e) (λb o _ _ hc e _=>⟨o.slots,k b o hc e⟩) (λb o _ e n0=>n0)
  (λb o hc e=>⟨o,k b o hc e⟩) (λb xs e=>e) (λb o u e=>e) (λb ps e=>⟨#[],by rw [e];simp⟩) (λm hm=>?_) (λb u e=>?_) I.bare
 . obtain ⟨o,es,ep,ho,r⟩:=hm
   exact ⟨o,es,ep,k _ o (λz=>(hf _ z).2.1 rfl) ho,r⟩
 . refine (I.hok b u e).stay (λc v hc q=>k c v ?_ q) (λ_ q=>q) λ_ _ q=>q
   rcases hc with y | y
   . rw [y];exact Y4 b u e
   . exact Y4 c _ y
def Ms (b:Bool) (K:Fg) (H:Hp) (a:Addr) (xs:List V):Prop:=cond b (yt K H a xs) (uh K H a xs)
theorem Inv.Oo {X:Cx} {pins:List (Addr×Obj)} {σ:St} {H:Hp} {s:Shared} {b:Bool} {a:Addr} {xs:List V} (I:Inv X pins σ H s) (h:Ms b X.K H a xs):∃ its,Vals xs its/\G3 b s.heap a its.toArray:=by
 cases b with
 | true=>obtain ⟨its,rv,p,hz⟩:=I.tuple h;exact ⟨its,rv,show s.heap.IsTuple a its.toArray from p⟩
 | false=>obtain ⟨its,rv,p,hz⟩:=I.list h;exact ⟨its,rv,p.isList⟩
theorem Inv.Jy {X:Cx} {pins:List (Addr×Obj)} {σ:St} {H:Hp} {s:Shared} {b:Bool} {a:Addr} {xs ys:List V} (I:Inv X pins σ H s) (h:Ms b X.K H a xs) (g:Ms b X.K H a ys):xs=ys:=by
 cases b with
 | true=>exact I.La h g|false=>exact I.Qk h g
def Ien (b:Bool) (K:Fg) (a:Addr):It :=
 ⟨λi H=>∃ xs x,Ms b K H a xs/\xs[i]?=some x,λi H v H'=>∃ p x,v=.ref p/\H p=none/\H'=upd H p (.tup [.int (i:Nat),x])/\∀ xs,Ms b K H a xs->xs[i]?=some x,λi H=>∃ xs,Ms b K H a xs/\xs.length <= i⟩
theorem af1 {P:Program} {w:World} {K:Fg} {b:Bool} {ts:List Expr} {k0:Nat} {pt:Pos} (a e it:Addr) (ne:e≠it):Turn P w K (.Tuple ts k0 pt) (Ien b K a) [e,it] e (λi h=>(∃ old,IsEnum h e it ((i:Nat):Int) old)/\Ab b h it a i) where
 mem:=by simp
 obj:=λi h st c hc=>by
  obtain ⟨⟨old,e1⟩,e2⟩:=st;rcases List.mem_cons.mp hc with z | z
  . subst z;exact ⟨_,e1,λv z=>by cases z⟩
  . have z:c=it:=by simpa using z
    subst z;exact e2.obj
 keep:=λi h h' st k=>by obtain ⟨⟨old,e1⟩,e2⟩:=st;exact ⟨⟨old,k e (by simp) _ e1⟩,e2.at λo z=>k it (by simp) o z⟩
 item:=by
  intro X hP hw hK hc i pins s σ H E I hf st hg;subst hP hw hK;obtain ⟨xs,x,hq,hx⟩:=hg;obtain ⟨its,rv,p⟩:=I.Oo hq;obtain ⟨u,hu,ru⟩:=rv.get hx;obtain ⟨⟨old,e1⟩,e2⟩:=st;have lt:e < s.heap.objs.size:=Heap.lt_size e1
  refine afy e1 e2 p (x:=u) (by simpa using hu) ne λh1 o1 a1 t1 n1 k1=>⟨_,rfl,?_⟩
  refine wpAny_letOwnedTupleGo_enum o1 λh2 o2 s2=>?_
  have s2:Heap.SameBut e h1 h2:=s2;have t2:h2.get? s.heap.objs.size=some { cls:=.type "tuple",data:=.seq #[.int i s.toks,u] }:=(s2.2 _ (Nat.ne_of_gt lt)).trans t1;refine ⟨.ref s.heap.objs.size,upd H s.heap.objs.size (.tup [.int (i:Nat),x]),I.Mr (t':=s.toks+1) hf (λc o hc z=>?_) (Nat.le_refl _) ⟨by show 2 <= sizeLine;decide,[.int i s.toks,u],.cons ⟨s.toks,rfl⟩ (.cons ru .nil),⟨_,t2,rfl,_,rfl⟩⟩,rfl,
   ⟨_,x,rfl,I.hok.fresh (Nat.le_refl _),rfl,λys hy=>by rw [I.Jy hy hq];exact hx⟩,⟨⟨u,?_⟩,a1.at λo z=>s2.extBut it o (Ne.symm ne) z⟩,λc hc=>?_⟩
  . have c1:c≠e:=λz=>hc (by simp [z])
    have c2:c≠it:=λz=>hc (by simp [z])
    exact s2.extBut c o c1 (k1 c o c1 c2 z)
  . have q:((i+1:Nat):Int)=(i:Int)+1:=by push_cast;rfl
    rw [q];exact o2
  . have lt2:c < s.heap.objs.size:=by
     rcases List.mem_cons.mp hc with z | z
     . rw [z];exact lt
     . have z:c=it:=by simpa using z
       obtain ⟨o,z2,_⟩:=e2.obj;rw [z];exact Heap.lt_size z2
    rw [aq (Nat.ne_of_lt lt2)];exact (hf c hc).1
 done:=by intro X hP hw hK hc i pins s σ H E I hf st hg;subst hP hw hK;obtain ⟨xs,hq,hx⟩:=hg;obtain ⟨its,rv,p⟩:=I.Oo hq;obtain ⟨⟨old,e1⟩,e2⟩:=st;have hl:=rv.length;refine afz (I.ok.hd hc) e1 e2 p (by simp;omega) λh' eb=>⟨rfl,I.V5 (t':=s.toks) hf λc o hc z=>eb c o (λy=>hc (by simp [y])) z⟩
 self:=λ_ _ _ _ _ st h=>by obtain ⟨⟨old,e1⟩,e2⟩:=st;exact wpAny_pyIter_enum e1 h
theorem aqk {X:Cx} {ts:List Expr} {k0:Nat} {pt p pos:Pos} {a:Expr} {ta:TA} (hg:Gl X "enumerate") (hm:X.mg "enumerate" = none) (ha:PA X [a] ta) (hs:starEach [a] X.env=[(false,eval a X.env)]) :
 PI X (.Tuple ts k0 pt) (.Call (.Name "enumerate" p) [a] [] pos) (fun σ H R=>ta σ H λvs H1=>∃ b q,vs=[.ref q]/\(∃ xs,Ms b X.K H1 q xs)/\R (Ien b X.K q) H1):=by
 intro pins s σ H R I h;refine PyProof.Rows.Call_ (j4 I hg hm (show bootBuiltins "enumerate" = some (.type "enumerate") by decide +kernel) (PyProof.Rows.callWith_type1 (jb (ha pos pins s σ H _ I h) λus s1 ⟨vs,H1,I1,r1,q1⟩=>?_) hs rfl));obtain ⟨b,q,rfl,⟨xs,hq⟩,hR⟩:=q1;cases r1 with
 | cons r rr =>
  cases rr;cases r;obtain ⟨its,rv,p⟩:=I1.Oo hq;have fin:∀ h',IsEnum h' (s1.heap.objs.size+1) s1.heap.objs.size 0 .none->Ab b h' s1.heap.objs.size q 0->(∀ y o,s1.heap.get? y=some o->h'.get? y=some o) ->
   wpAny (model X.prog X.w) X.A (pyIter (.ref (s1.heap.objs.size+1))) (PIE X pins σ (.Tuple ts k0 pt) R) X.xe { s1 with heap:=h' }:=λh' e1 e2 kk=>by
   refine wpAny_pyIter_enum e1 ?_;refine ⟨s1.heap.objs.size+1,[s1.heap.objs.size+1,s1.heap.objs.size],_,_,H1,rfl,I1.kept (t':=s1.toks) kk,af1 (b:=b) q _ _ (Nat.succ_ne_self _),⟨⟨.none,e1⟩,e2⟩,λc hc=>?_,hR⟩;have hle:s1.heap.objs.size <= c:=by
    rcases List.mem_cons.mp hc with z | z
    . rw [z];exact Nat.le_succ _
    . have z:c=s1.heap.objs.size:=by simpa using z
      rw [z];exact Nat.le_refl _
   exact I1.Zb hle (I1.hok.fresh hle)
  cases b with
  | true=>exact abl p λh' e1 e2 _ kk=>fin h' e1 e2 kk
  | false=>exact call_enumerate_list p λh' e1 e2 _ kk=>fin h' e1 e2 kk
end L2
namespace Sm
open PySem L2
open MW (Ex ji Qc xg mj bw Lv Tg Res Store MO jz Cp Vm Nx Bm Kx Src)
section
variable {nm:Nm} {W:jz} {X:Cx} {a b c o:Expr} {a' b' c' o':Ex} {pos pos' apos:Pos} {ι:Io} {H:Hp} {σ:St} {ρ:En} {M M1 M2:Store} {x y:Dv} {es:List Expr} {es':ji} {k n f:Nat} {fa C:Addr} {fd:FuncData} {ps:List Str} {m:Str}
theorem X7 {ds:List Dv} {i:Nat} {d:Dv} (h:(MW.jj ds 0)[i]?=some d):∃ z,ds[i]?=some z/\d=.tup [.int (i:Nat),z]:=by
 unfold MW.jj at h;rw [List.getElem?_map,List.getElem?_zipIdx] at h;cases e:ds[i]? with
 | none=>rw [e] at h;simp at h|some z=>rw [e] at h;simp at h;exact ⟨z,rfl,h.symm⟩
theorem V6 {bb:Bool} {q:Addr} {ds:List Dv} {vs:List V} (r:bc X.K ι H ds vs) (hk:∀ ι1 H1,Uc ι H ι1 H1->Ms bb X.K H1 q vs):aam nm X.K ι H (.con (MW.jj ds 0)) (Ien bb X.K q):=fun ι1 H1 M1 le S1=>by
 refine ⟨λi d hi hd=>?_,λ_=>⟨vs,hk ι1 H1 le,?_⟩⟩
 . obtain ⟨z,e1,rfl⟩:=X7 (show (MW.jj ds 0)[i]?=some d from hd)
   obtain ⟨v,g1,g2⟩:=(r.mz le).get e1;refine ⟨⟨vs,v,hk ι1 H1 le,g1⟩,λu H2 ⟨p,x,e2,e3,e4,e5⟩=>?_⟩;have ex:x=v:=by have:=e5 vs (hk ι1 H1 le);rw [g1] at this;cases this;rfl
   subst ex e2 e4;obtain ⟨S2,le2,r2⟩:=za (X:=X) S1 e3 (.cons (.int _) (.cons g2 .nil));exact ⟨le2,S2,r2⟩
 . show vs.length <= (MW.jj ds 0).length
   rw [<- r.length];simp [MW.jj]
theorem aql {ts:List Expr} {k0:Nat} {pt pr:Pos} (hg:Gl X "enumerate") (hm:X.mg "enumerate" = none) (ha:PE X a (tE nm W X.K a')) (hst:noStar a=true):PI X (.Tuple ts k0 pt) (.Call (.Name "enumerate" pr) [a] [] pos) (tI nm W X.K (.Z1 a')):=by
 intro pins s0 σ H R' I hh;obtain ⟨ι,ρ,M,s,M',S,R,e,q⟩:=hh;rw [MW.N7] at e;obtain ⟨x,M1,e1,e⟩:=aa e;refine PI.weak (aqk (ts:=ts) (k0:=k0) (pt:=pt) (p:=pr) (pos:=pos) hg hm (Ax ha Jh (bh hst _ _)) (bh hst _ _)) (wi':=fun σ0 H0 R0=>σ0=σ/\H0=H/\R0=R') (fun σ0 H0 R0 ⟨z1,z2,z3⟩=>?_) pins s0 σ H R' I ⟨rfl,rfl,rfl⟩;subst z1 z2 z3;refine Ji (es':=.cons a' .nil) (ds:=[x]) (M1:=M1) S R (by rw [MW.m6,e1];simp) fun ι1 H1 vs le S1 R1 r=>?_
 cases r with
 | cons r1 r2 =>
  cases r2;cases r1 with
  | @tup p ds us h1 rr =>
   cases e;exact ⟨true,p,rfl,⟨us,yt.of h1⟩,q ι1 H1 _ le S1 (V6 rr fun ι2 H2 le2=>yt.of (le2.tup _ _ h1))⟩
  | @vl p ds us h1 n1 rr =>
   cases e;exact ⟨false,p,rfl,⟨us,uh.of h1⟩,q ι1 H1 _ le S1 (V6 rr fun ι2 H2 le2=>uh.of (le2.lst _ _ n1.1 h1))⟩
  | _=>cases e
theorem akp:jt X (binaryOp .Add) (rOp nm X.K (MW.qp .Xd)) :=
 jt.of Zr λv u H Q ι M x y d M' S rv ru e q=>by
  have e:MW.T7 x y M=.ok d M':=e;unfold MW.T7 at e;split at e<;>try cases e
  rename_i xs ys h1 h2
  by_cases hl:xs.length+ys.length <= 100000
  case neg=>rw [if_neg hl] at e;cases e
  rw [if_pos hl] at e;obtain ⟨p,vs,rfl,g1,r1⟩:=dg S rv h1;obtain ⟨p2,vs2,rfl,g2,r2⟩:=dg S ru h2;refine ⟨p,p2,vs,vs2,rfl,rfl,g1,g2,by rw [<- r1.length,<- r2.length];exact Nat.le_trans hl Eo,λp3 h3=>?_⟩;have e:Res.ok (MW.D.ref M.length) (M ++ [.lst (xs ++ ys)])=.ok d M':=e;cases e;obtain ⟨z1,z2,z3⟩:=Vv S h3 (r1.append r2);exact q _ _ _ z2 z1 z3
theorem af2 {mi ci:Nat} {cl:MW.Cl} {pl:Sem Bool} (ho:PE X o (tE nm W X.K o')) (c0:Qa X.K C) (hme:Meth X.K C m fa) (F:m5 X.prog X.w X.K X.mg X.base Nv k fa fd ps (Xu nm W X.K 1 f)) (hr:gm k X.A) (hb:Binds X.K fd ps [])
 (aka:∀ c' Q9,W.cls[c']?=some Q9->∀ g,Q9.meths.lookup mi=some g->nm.cls c'=some C/\g=f) (hno:∀ i,nm.fld i≠m)
 (ht:eval (.Call (.Attribute o m apos) [] [] pos) X.env=(do
  let ov <- eval o X.env
  standAt apos.atName
  let (f,first) <- holding [ov] (getMethod ov m pl)
  callWith pos f first (backTo pos (starEach [] X.env)) (backToKw pos (keywordEach [] X.env)))) :
 PE X (.Call (.Attribute o m apos) [] [] pos) (tE nm W X.K (.meth o' mi .nil)) :=
 PE.of (Zk (E:=E0) ho c0 hme F hr hb .nil Vk ht) fun σ H Q ι ρ M d M' S R e q=>by
  rw [MW.Em] at e;obtain ⟨x,M1,e1,e⟩:=aa e;rw [MW.Aq] at e;refine one S R e1 fun ι1 H1 v le S1 R1 r=>?_
  obtain ⟨j,hx⟩:∃ j,x=.ref j:=by cases x<;>first | exact ⟨_,rfl⟩ | cases e
  subst hx;obtain ⟨p,rfl,hp⟩:∃ p,v=.ref p/\ι1.l[j]?=some p:=by cases r with | ref z=>exact ⟨_,rfl,z⟩
  have e:(match M1[j]? with
   | some (.ins c _)=>(match (W.cls[c]?).bind λC=>C.meths.lookup mi with
    | some f=>W.call f [.ref j] M1|none=>.bad)
   | _=>.bad)=Res.ok d M':=e
  cases hM:M1[j]? with
  | none=>rw [hM] at e;cases e
  | some ob =>
   rw [hM] at e;cases ob with
   | ins ci fs =>
    have e:(match (W.cls[ci]?).bind λC=>C.meths.lookup mi with | some f=>W.call f [.ref j] M1 | none=>.bad)=Res.ok d M':=e;cases hL:(W.cls[ci]?).bind λC=>C.meths.lookup mi with
    | none=>rw [hL] at e;cases e
    | some g =>
     rw [hL] at e;have e:W.call g [.ref j] M1=.ok d M':=e;obtain ⟨Q9,h1,h2⟩:=Option.bind_eq_some_iff.mp hL;obtain ⟨h3,rfl⟩:=aka ci Q9 h1 g h2;obtain ⟨C',dx,l,g1,g2,g3⟩:=S1.obj j _ p hM hp;rw [h3] at g1;cases g1;exact ⟨p,dx,l,rfl,g2,Jm hno g3,ι1,M1,[.ref j],d,M',S1,.cons r .nil,rfl,e,fun ι' H' v Kw S' r'=>q ι' H' v (le.trans Kw) S' r'⟩
   | _=>cases e
theorem af3 {st:Stmt} {ci:Nat}:PS X st (tS nm W X.K (.raise ci es')):=λpins s σ H D I hh=>by obtain ⟨ι,ρ,M,fl,ρ',M',S,R,e,q⟩:=hh;rw [MW.aab] at e;obtain ⟨x,M1,e1,e⟩:=aa e;cases e
theorem ahv {op:BoolOp} {t:TE} (h:PE X a t):PE X (.BoolOp op [a] pos) t:=λpins s σ H Q I q=>PyProof.Rows.BoolOp_one (h pins s σ H Q I q)
end
end Sm
namespace EnT
open PySem PySem.Spec
theorem G3.at {b:Bool} {h h':Heap} {a:Addr} {xs:Array Value} (x:G3 b h a xs) (k:∀ o,h.get? a=some o->h'.get? a=some o):G3 b h' a xs:=by
 cases b with
 | true=>obtain ⟨o,e,r⟩:=x;exact ⟨o,k o e,r⟩
 | false=>obtain ⟨o,e,r⟩:=x;exact ⟨o,k o e,r⟩
theorem G3.obj {b:Bool} {h:Heap} {a:Addr} {xs:Array Value} (x:G3 b h a xs):∃ o,h.get? a=some o:=by
 cases b with
 | true=>obtain ⟨o,e,_⟩:=x;exact ⟨o,e⟩
 | false=>obtain ⟨o,e,_⟩:=x;exact ⟨o,e⟩
def itO (b:Bool) (a:Addr):Obj:={ cls:=.type (cond b "tuple_iterator" "list_iterator"),data:=.fields #[.ref a,.int 0 0] }
section
variable {prog:Program} {w:World} {A:Around} {E:Value->Shared->Prop} {s:Shared} {b1 b2:Bool}
theorem abm {b:Bool} {a:Addr} {xs:Array Value} {Q:Value->Shared->Prop} (c:G3 b s.heap a xs) (q:Q (.ref s.heap.objs.size) { s with heap:=s.heap.push (itO b a) }):wpAny (model prog w) A (pyIter (.ref a)) Q E s:=by
 cases b with
 | true=>exact wpAny_pyIter_tuple c q|false=>exact wpAny_pyIter_list c q
theorem af4 {z TI TO i1 i2 l1 l2:Addr} {k:Nat} {xs ys:Array Value} {x y p q:Value} {Q:Value->Shared->Prop} (D:ZipApart z TI TO i1 i2 l1 l2) (hz:IsZip s.heap z TI TO .none) (hI:IsPair s.heap TI (.ref i1) (.ref i2)) (hO:IsPair s.heap TO p q)
 (a1:Ab b1 s.heap i1 l1 k) (a2:Ab b2 s.heap i2 l2 k) (c1:G3 b1 s.heap l1 xs) (c2:G3 b2 s.heap l2 ys) (ex:xs[k]?=some x) (ey:ys[k]?=some y)
 (hq:∀ h',IsZip h' z TI TO (rawInt s.heap.objs.size)->IsPair h' TO x y->Ab b1 h' i1 l1 (k+1)->Ab b2 h' i2 l2 (k+1)->IsPair h' s.heap.objs.size x y->h'.objs.size=s.heap.objs.size+1 ->
  (∀ c o,c≠z->c≠TO->c≠i1->c≠i2->s.heap.get? c=some o->h'.get? c=some o)->Q (.ref s.heap.objs.size) { s with heap:=h' }) :
 wpAny (model prog w) A (Builtin.«zip.__next__» ⟨[.ref z],[]⟩) (λfin s'=>∃ v,fin=.done (.ret v)/\Q v s') E s:=by
 show wpAny _ _ (field (.ref z) 2 >>= _) _ _ _;refine wpAny_bind (wpAny_field hz rfl (x:=.bool false) rfl (wpAny_bind (wpAny_field hz rfl (x:=.ref TI) rfl (wpAny_bind (wpAny_seqItems hI rfl (wpAny_bind ?_))))));unfold Builtin.SmallTypes.ownedTupleIsFree;refine wpAny_bind (wpAny_field hz rfl (x:=.none) rfl (wpAny_pure ?_));simp only [if_true];refine wpAny_bind (wpAny_rule (wpAny_bind (wpAny_field hz rfl (x:=.ref TO) rfl (wpAny_bind (wpAny_setField_rec hz (by simp) λg1 z1 s1=>?_)))));have z1:IsZip g1 z TI TO .ellipsis:=z1;refine wpAny_bind ?_;simp only [List.zipIdx_cons,List.zipIdx_nil,List.forIn_cons,List.forIn_nil];refine wpAny_bind (wpAny_bind (wpAny_onRaise ?_));refine wpAny_bind (Fe (s:={ s with heap:=g1 }) (a1.at λo e=>s1.extBut _ o D.i1z e) (c1.at λo e=>s1.extBut _ o D.l1z e) ex λg2 e2 s2=>wpAny_pure ?_);have O2:IsPair g2 TO p q:=s2.extBut _ _ D.TOi1 (s1.extBut _ _ D.TOz hO);refine wpAny_bind (wpAny_seqItems O2 rfl (wpAny_bind (wpAny_updateSeq_pair O2 λg3 O3 s3=>?_)));have O3:IsPair g3 TO x q:=O3;have k3:∀ c o,c≠z->c≠TO->c≠i1->s.heap.get? c=some o->g3.get? c=some o:=λc o y1 y2 y3 e=>s3.extBut _ _ y2 (s2.extBut _ _ y3 (s1.extBut _ _ y1 e))
 refine wpAny_bind (wpAny_letGo (wpAny_pure (wpAny_bind (wpAny_bind (wpAny_onRaise ?_)))));refine wpAny_bind (Fe (s:={ s with heap:=g3 }) (a2.at λo e=>k3 _ o D.i2z D.TOi2.symm D.i12.symm e) (c2.at λo e=>k3 _ o D.l2z D.l2TO D.l2i1 e) ey λg4 e4 s4=>wpAny_pure ?_);have O4:IsPair g4 TO x q:=s4.extBut _ _ D.TOi2 O3;refine wpAny_bind (wpAny_seqItems O4 rfl (wpAny_bind (wpAny_updateSeq_pair O4 λg5 O5 s5=>?_)));have O5:IsPair g5 TO x y:=O5;refine wpAny_bind (wpAny_letGo (wpAny_pure (wpAny_pure (wpAny_bind (wpAny_seqItems O5 rfl (wpAny_bind (wpAny_newTuple ?_)))))));have n5:g5.objs.size=s.heap.objs.size:=by rw [s5.1,s4.1,s3.1,s2.1,s1.1]
 have k5:∀ c o,c≠z->c≠TO->c≠i1->c≠i2->s.heap.get? c=some o->g5.get? c=some o:=λc o y1 y2 y3 y4 e=>s5.extBut _ _ y2 (s4.extBut _ _ y4 (k3 c o y1 y2 y3 e))
 have z5:IsZip g5 z TI TO .ellipsis:=s5.extBut _ _ D.TOz.symm (s4.extBut _ _ D.i2z.symm (s3.extBut _ _ D.TOz.symm (s2.extBut _ _ D.i1z.symm z1)));have f1:Ab b1 g5 i1 l1 (k+1):=e2.at λo e=>s5.extBut _ _ D.TOi1.symm (s4.extBut _ _ D.i12 (s3.extBut _ _ D.TOi1.symm e))
 have f2:Ab b2 g5 i2 l2 (k+1):=e4.at λo e=>s5.extBut _ _ D.TOi2.symm e
 have zl:z < g5.objs.size:=Heap.lt_size z5
 have z6:IsZip (g5.push { cls:=.type "tuple",data:=.seq #[x,y] }) z TI TO .ellipsis:=Heap.get?_push_of_some _ z5;refine wpAny_bind ?_;unfold Builtin.SmallTypes.ownedTupleHandOut;refine wpAny_bind (wpAny_setField_rec z6 (by simp) λg7 z7 s7=>?_);have z7:IsZip g7 z TI TO (rawInt g5.objs.size):=z7;refine wpAny_setField_rec z7 (by simp) λg8 z8 s8=>?_
 have z8:IsZip g8 z TI TO (rawInt g5.objs.size):=z8;have up:∀ c o,c≠z->g5.get? c=some o->g8.get? c=some o:=λc o y1 e=>s8.extBut _ _ y1 (s7.extBut _ _ y1 (Heap.get?_push_of_some _ e))
 have t8:IsPair g8 g5.objs.size x y:=s8.extBut _ _ (Nat.ne_of_gt zl) (s7.extBut _ _ (Nat.ne_of_gt zl) (Heap.get?_push_size _ rfl));have n8:g8.objs.size=g5.objs.size+1:=by rw [s8.1,s7.1,Heap.size_push]
 rw [n5] at z8 t8 n8;refine wpAny_pure ⟨_,rfl,?_⟩;show Q (.ref g5.objs.size) _;rw [n5];exact hq g8 z8 (up _ _ D.TOz O5) (f1.at λo e=>up _ o D.i1z e) (f2.at λo e=>up _ o D.i2z e) t8 n8 λc o y1 y2 y3 y4 e=>up c o y1 (k5 c o y1 y2 y3 y4 e)
theorem akq {z TI TO i1 i2 l1 l2:Addr} {k:Nat} {xs ys:Array Value} {p q:Value} {Q:Fin->Shared->Prop} (hd:A.handled=none) (D:ZipApart z TI TO i1 i2 l1 l2) (hz:IsZip s.heap z TI TO .none) (hI:IsPair s.heap TI (.ref i1) (.ref i2)) (hO:IsPair s.heap TO p q)
 (a1:Ab b1 s.heap i1 l1 k) (a2:Ab b2 s.heap i2 l2 k) (c1:G3 b1 s.heap l1 xs) (c2:G3 b2 s.heap l2 ys) (he:xs[k]?=none \/ ys[k]?=none)
 (hE:∀ h' e,(∀ c o,c≠z->c≠TO->c≠i1->c≠i2->s.heap.get? c=some o->h'.get? c=some o)->(∃ o,h'.get? e=some o/\o.cls=.type "StopIteration")->E (.ref e) { s with heap:=h' }) :
 wpAny (model prog w) A (Builtin.«zip.__next__» ⟨[.ref z],[]⟩) Q E s:=by
 show wpAny _ _ (field (.ref z) 2 >>= _) _ _ _;refine wpAny_bind (wpAny_field hz rfl (x:=.bool false) rfl (wpAny_bind (wpAny_field hz rfl (x:=.ref TI) rfl (wpAny_bind (wpAny_seqItems hI rfl (wpAny_bind ?_))))));unfold Builtin.SmallTypes.ownedTupleIsFree;refine wpAny_bind (wpAny_field hz rfl (x:=.none) rfl (wpAny_pure ?_));simp only [if_true];refine wpAny_bind (wpAny_rule (wpAny_bind (wpAny_field hz rfl (x:=.ref TO) rfl (wpAny_bind (wpAny_setField_rec hz (by simp) λg1 z1 s1=>?_)))));have z1:IsZip g1 z TI TO .ellipsis:=z1;have stop:∀ (g:Heap) (x:Addr) (o:Obj),IsZip g z TI TO .ellipsis->g.get? x=some o->o.cls=.type "StopIteration" -> x≠z:=λg x o e1 e2 e3 y=>by subst y;rw [e1] at e2;cases e2;simp at e3
 refine wpAny_bind ?_;simp only [List.zipIdx_cons,List.zipIdx_nil,List.forIn_cons,List.forIn_nil];refine wpAny_bind (wpAny_bind (wpAny_onRaise ?_));have A1:=a1.at (h':=g1) λo e=>s1.extBut _ o D.i1z e
 have C1:=c1.at (h':=g1) λo e=>s1.extBut _ o D.l1z e
 cases hx:xs[k]? with
 | none =>
  refine wpAny_bind (Om (s:={ s with heap:=g1 }) hd A1 C1 hx λg2 x s2 ⟨o,o1,o2⟩=>?_);have z2:IsZip g2 z TI TO .ellipsis:=s2 _ _ D.i1z.symm z1;exact wpAny_setField_rec z2 (by simp) λg3 _ s3=>hE g3 x (λc o y1 _ y3 _ e=>s3.extBut _ _ y1 (s2 _ _ y3 (s1.extBut _ _ y1 e))) ⟨o,s3.extBut _ _ (stop _ _ _ z2 o1 o2) o1,o2⟩
 | some x =>
  have ey:ys[k]?=none:=by rcases he with h | h;rw [hx] at h;cases h;exact h
  refine wpAny_bind (Fe (s:={ s with heap:=g1 }) A1 C1 hx λg2 e2 s2=>wpAny_pure ?_);have O2:IsPair g2 TO p q:=s2.extBut _ _ D.TOi1 (s1.extBut _ _ D.TOz hO);refine wpAny_bind (wpAny_seqItems O2 rfl (wpAny_bind (wpAny_updateSeq_pair O2 λg3 O3 s3=>?_)));have k3:∀ c o,c≠z->c≠TO->c≠i1->s.heap.get? c=some o->g3.get? c=some o:=λc o y1 y2 y3 e=>s3.extBut _ _ y2 (s2.extBut _ _ y3 (s1.extBut _ _ y1 e))
  refine wpAny_bind (wpAny_letGo (wpAny_pure (wpAny_bind (wpAny_bind (wpAny_onRaise ?_)))));refine wpAny_bind (Om (s:={ s with heap:=g3 }) hd (a2.at λo e=>k3 _ o D.i2z D.TOi2.symm D.i12.symm e) (c2.at λo e=>k3 _ o D.l2z D.l2TO D.l2i1 e) ey λg4 x s4 ⟨o,o1,o2⟩=>?_);have z4:IsZip g4 z TI TO .ellipsis:=s4 _ _ D.i2z.symm (s3.extBut _ _ D.TOz.symm (s2.extBut _ _ D.i1z.symm z1));exact wpAny_setField_rec z4 (by simp) λg5 _ s5=>hE g5 x (λc o y1 y2 y3 y4 e=>s5.extBut _ _ y1 (s4 _ _ y4 (k3 c o y1 y2 y3 e))) ⟨o,s5.extBut _ _ (stop _ _ _ z4 o1 o2) o1,o2⟩
theorem af5 {z TI TO i1 i2 l1 l2:Addr} {k:Nat} {xs ys:Array Value} {x y p q:Value} {Q:Option Value->Shared->Prop} (D:ZipApart z TI TO i1 i2 l1 l2) (hz:IsZip s.heap z TI TO .none) (hI:IsPair s.heap TI (.ref i1) (.ref i2)) (hO:IsPair s.heap TO p q)
 (a1:Ab b1 s.heap i1 l1 k) (a2:Ab b2 s.heap i2 l2 k) (c1:G3 b1 s.heap l1 xs) (c2:G3 b2 s.heap l2 ys) (ex:xs[k]?=some x) (ey:ys[k]?=some y)
 (hq:∀ h',IsZip h' z TI TO (rawInt s.heap.objs.size)->IsPair h' TO x y->Ab b1 h' i1 l1 (k+1)->Ab b2 h' i2 l2 (k+1)->IsPair h' s.heap.objs.size x y->h'.objs.size=s.heap.objs.size+1 ->
  (∀ c o,c≠z->c≠TO->c≠i1->c≠i2->s.heap.get? c=some o->h'.get? c=some o)->Q (some (.ref s.heap.objs.size)) { s with heap:=h' }):wpAny (model prog w) A (pyNext (.ref z)) Q E s:=by
 have ty:s.TypeIs (.ref z) "zip" := ⟨_,hz,rfl⟩;unfold pyNext;refine wpAny_bind (wpAny_attempt (wpAny_callSpecial?_slot (name:=Str.ofString "__next__") ty F.slot_zip_next (wpAny_call_entry F.slot_zip_next ty F.entry_zip_next ?_ (F.args_zip_next_1 _))));exact af4 D hz hI hO a1 a2 c1 c2 ex ey λh' y1 y2 y3 y4 y5 y6 y7=>wpAny_pure (hq h' y1 y2 y3 y4 y5 y6 y7)
theorem af6 {z TI TO i1 i2 l1 l2:Addr} {k:Nat} {xs ys:Array Value} {p q:Value} {Q:Option Value->Shared->Prop} (hd:A.handled=none) (D:ZipApart z TI TO i1 i2 l1 l2) (hz:IsZip s.heap z TI TO .none) (hI:IsPair s.heap TI (.ref i1) (.ref i2)) (hO:IsPair s.heap TO p q)
 (a1:Ab b1 s.heap i1 l1 k) (a2:Ab b2 s.heap i2 l2 k) (c1:G3 b1 s.heap l1 xs) (c2:G3 b2 s.heap l2 ys) (he:xs[k]?=none \/ ys[k]?=none)
 (hq:∀ h',(∀ c o,c≠z->c≠TO->c≠i1->c≠i2->s.heap.get? c=some o->h'.get? c=some o)->Q none { s with heap:=h' }):wpAny (model prog w) A (pyNext (.ref z)) Q E s:=by
 have ty:s.TypeIs (.ref z) "zip" := ⟨_,hz,rfl⟩;unfold pyNext;refine wpAny_bind (wpAny_attempt (wpAny_callSpecial?_slot (name:=Str.ofString "__next__") ty F.slot_zip_next (wpAny_call_entry F.slot_zip_next ty F.entry_zip_next ?_ (F.args_zip_next_1 _))));refine akq hd D hz hI hO a1 a2 c1 c2 he λh' e k ⟨o,o1,o2⟩=>?_
 exact wpAny_bind (wpAny_isInstance (T := "StopIteration") (b:=true) ⟨o,o1,o2⟩ isSubtype_stop (wpAny_pure (hq _ k)))
end
def zH2 (b1 b2:Bool) (h:Heap) (l1 l2:Addr):Heap:=(h.push (itO b1 l1)).push (itO b2 l2)
def zH3 (b1 b2:Bool) (h:Heap) (l1 l2:Addr):Heap:=(zH2 b1 b2 h l1 l2).push { cls:=.type "tuple",data:=.seq #[.ref h.objs.size,.ref (h.push (itO b1 l1)).objs.size] }
def zH4 (b1 b2:Bool) (h:Heap) (l1 l2:Addr):Heap:=(zH3 b1 b2 h l1 l2).push { cls:=.type "tuple",data:=.seq #[.none,.none] }
def zH5 (b1 b2:Bool) (h:Heap) (l1 l2:Addr):Heap:=(zH4 b1 b2 h l1 l2).push { cls:=.type "zip",data:=.fields #[.none,.bool false,.bool false,.ref (zH2 b1 b2 h l1 l2).objs.size,.ref (zH3 b1 b2 h l1 l2).objs.size] }
theorem Oq (b1 b2:Bool) (l1 l2:Addr) (xs ys:Array Value) :
 Meets (Builtin.«zip.__new__» ⟨[.type "zip",.ref l1,.ref l2],[]⟩) (λ_ R s=>G3 b1 s.heap l1 xs/\G3 b2 s.heap l2 ys /\
  R (.ok (.ret (.ref (zH4 b1 b2 s.heap l1 l2).objs.size))) { s with heap:=zH5 b1 b2 s.heap l1 l2 }) :=
 .of_wp λprog w A R s h=>by
  obtain ⟨hp,g,d,tk,os⟩:=s;obtain ⟨hl1,hl2,h⟩:=h;have hsub:=sub_zip;have hL1:G3 b1 (Shared.heap ⟨hp,g,d,tk,os⟩) l1 xs:=hl1;have hL2:G3 b2 (Shared.heap ⟨hp.push (itO b1 l1),g,d,tk,os⟩) l2 ys:=G3.at hl2 λo e=>Heap.get?_push_of_some _ e
  wp_walk using abm hL1,abm hL2
  exact ⟨_,rfl,h⟩
section
variable {prog:Program} {w:World} {A:Around} {E:Value->Shared->Prop} {s:Shared} {b1 b2:Bool}
theorem Ab.new {b:Bool} {h:Heap} {i a:Addr} (e:h.get? i=some (itO b a)):Ab b h i a 0:=by
 cases b with
 | true=>exact ⟨_,e,rfl,rfl⟩|false=>exact ⟨_,e,rfl,rfl⟩
theorem af7 {l1 l2:Addr} {xs ys:Array Value} {Q:Value->Shared->Prop} (hl1:G3 b1 s.heap l1 xs) (hl2:G3 b2 s.heap l2 ys)
 (h:∀ h',IsZip h' (s.heap.objs.size+4) (s.heap.objs.size+2) (s.heap.objs.size+3) .none->IsPair h' (s.heap.objs.size+2) (.ref s.heap.objs.size) (.ref (s.heap.objs.size+1)) ->
  IsPair h' (s.heap.objs.size+3) .none .none->Ab b1 h' s.heap.objs.size l1 0->Ab b2 h' (s.heap.objs.size+1) l2 0 ->
  (∀ c o,s.heap.get? c=some o->h'.get? c=some o)->Q (.ref (s.heap.objs.size+4)) { s with heap:=h' }) :
 wpAny (model prog w) A (call (.type "zip") [.ref l1,.ref l2]) Q E s:=by
 refine callType_new F.called_zip (by decide) (F.typeCall_zip_2 _ _) (F.newCall_zip_2 _ _) (λobj=>F.args_object_init_3 obj _ _) F.entry_zip_new
  (Oq b1 b2 l1 l2 xs ys) ⟨hl1,hl2,?_⟩
 have z1:(s.heap.push (itO b1 l1)).objs.size=s.heap.objs.size+1:=Heap.size_push ..;have z2:(zH2 b1 b2 s.heap l1 l2).objs.size=s.heap.objs.size+2:=by unfold zH2;rw [Heap.size_push,z1]
 have z3:(zH3 b1 b2 s.heap l1 l2).objs.size=s.heap.objs.size+3:=by unfold zH3;rw [Heap.size_push,z2]
 have z4:(zH4 b1 b2 s.heap l1 l2).objs.size=s.heap.objs.size+4:=by unfold zH4;rw [Heap.size_push,z3]
 have g5:(zH5 b1 b2 s.heap l1 l2).get? (zH4 b1 b2 s.heap l1 l2).objs.size=some _:=Heap.get?_push_size _ rfl;have g4:(zH5 b1 b2 s.heap l1 l2).get? (zH3 b1 b2 s.heap l1 l2).objs.size=some _:=Heap.get?_push_of_some _ (Heap.get?_push_size _ rfl);have g3:(zH5 b1 b2 s.heap l1 l2).get? (zH2 b1 b2 s.heap l1 l2).objs.size=some _:=Heap.get?_push_of_some _ (Heap.get?_push_of_some _ (Heap.get?_push_size _ rfl));have g2:(zH5 b1 b2 s.heap l1 l2).get? (s.heap.push (itO b1 l1)).objs.size=some _:=Heap.get?_push_of_some _ (Heap.get?_push_of_some _ (Heap.get?_push_of_some _ (Heap.get?_push_size _ rfl)));have g1:(zH5 b1 b2 s.heap l1 l2).get? s.heap.objs.size=some _:=Heap.get?_push_of_some _ (Heap.get?_push_of_some _ (Heap.get?_push_of_some _ (Heap.get?_push_of_some _ (Heap.get?_push_size _ rfl))));show _/\_;rw [z2,z3,z4] at g5;rw [z1,z2] at g3;rw [z3] at g4;rw [z1] at g2;rw [z4];exact ⟨⟨_,g5,rfl⟩,h _ g5 g3 g4 (Ab.new g1) (Ab.new g2) λc o x =>
  Heap.get?_push_of_some _ (Heap.get?_push_of_some _ (Heap.get?_push_of_some _ (Heap.get?_push_of_some _ (Heap.get?_push_of_some _ x))))⟩
end
end EnT
namespace L2
open PySem PySem.Spec EnT
def Izp (b1 b2:Bool) (K:Fg) (a c:Addr):It :=
 ⟨λi H=>∃ xs x ys y,Ms b1 K H a xs/\xs[i]?=some x/\Ms b2 K H c ys/\ys[i]?=some y,λi H v H'=>∃ p x y,v=.ref p/\H p=none/\H'=upd H p (.tup [x,y])/\(∀ xs,Ms b1 K H a xs->xs[i]?=some x)/\∀ ys,Ms b2 K H c ys->ys[i]?=some y,
  λi H=>∃ xs ys,Ms b1 K H a xs/\Ms b2 K H c ys/\(xs.length <= i \/ ys.length <= i)⟩
theorem af8 {P:Program} {w:World} {K:Fg} {b1 b2:Bool} {ts:List Expr} {k0:Nat} {pt:Pos} {a c z TI TO i1 i2:Addr} (D:ZipApart z TI TO i1 i2 a c):Turn P w K (.Tuple ts k0 pt) (Izp b1 b2 K a c) [z,TI,TO,i1,i2] z
 (λi h=>IsZip h z TI TO .none/\IsPair h TI (.ref i1) (.ref i2)/\(∃ p q,IsPair h TO p q)/\Ab b1 h i1 a i/\Ab b2 h i2 c i) where
 mem:=by simp
 obj:=λi h st e hc=>by
  obtain ⟨e1,e2,⟨p,q,e3⟩,e4,e5⟩:=st;simp only [List.mem_cons,List.not_mem_nil,or_false] at hc;rcases hc with rfl | rfl | rfl | rfl | rfl
  . exact ⟨_,e1,λv z=>by cases z⟩
  . exact ⟨_,e2,λv z=>by cases z⟩
  . exact ⟨_,e3,λv z=>by cases z⟩
  . exact e4.obj
  . exact e5.obj
 keep:=λi h h' st k=>by obtain ⟨e1,e2,⟨p,q,e3⟩,e4,e5⟩:=st;exact ⟨k z (by simp) _ e1,k TI (by simp) _ e2,⟨p,q,k TO (by simp) _ e3⟩,e4.at λo x=>k i1 (by simp) o x,e5.at λo x=>k i2 (by simp) o x⟩
 item:=by
  intro X hP hw hK hc i pins s σ H E I hf st hg;subst hP hw hK;obtain ⟨xs,x,ys,y,hq,hx,hq2,hy⟩:=hg;obtain ⟨its,rv,p⟩:=I.Oo hq;obtain ⟨its2,rv2,p2⟩:=I.Oo hq2;obtain ⟨u,hu,ru⟩:=rv.get hx;obtain ⟨u2,hu2,ru2⟩:=rv2.get hy;obtain ⟨e1,e2,⟨o1,o2,e3⟩,e4,e5⟩:=st;have lt:∀ b∈[z,TI,TO,i1,i2],b < s.heap.objs.size:=λb hb=>by
   simp only [List.mem_cons,List.not_mem_nil,or_false] at hb;rcases hb with rfl | rfl | rfl | rfl | rfl
   . exact Heap.lt_size e1
   . exact Heap.lt_size e2
   . exact Heap.lt_size e3
   . obtain ⟨o,z2,_⟩:=e4.obj;exact Heap.lt_size z2
   . obtain ⟨o,z2,_⟩:=e5.obj;exact Heap.lt_size z2
  refine af5 D e1 e2 e3 e4 e5 p p2 (x:=u) (y:=u2) (by simpa using hu) (by simpa using hu2) λh1 y1 y2 y3 y4 y5 y6 y7=>⟨_,rfl,?_⟩
  refine wpAny_letOwnedTupleGo_zip y1 λh2 w1 s2=>?_
  have s2:Heap.SameBut z h1 h2:=s2;have zl:=lt z (by simp);have t2:h2.get? s.heap.objs.size=some { cls:=.type "tuple",data:=.seq #[u,u2] }:=(s2.2 _ (Nat.ne_of_gt zl)).trans y5;refine ⟨.ref s.heap.objs.size,upd H s.heap.objs.size (.tup [x,y]),I.Mr (t':=s.toks) hf (λc o hc zz=>?_) (Nat.le_refl _) ⟨by show 2 <= sizeLine;decide,[u,u2],.cons ru (.cons ru2 .nil),⟨_,t2,rfl,_,rfl⟩⟩,rfl,
   ⟨_,x,y,rfl,I.hok.fresh (Nat.le_refl _),rfl,λys hy=>by rw [I.Jy hy hq];exact hx,λys hy'=>by rw [I.Jy hy' hq2];exact hy⟩,
   ⟨w1,s2.extBut _ _ D.TIz (y7 TI _ D.TIz D.TITO D.TIi1 D.TIi2 e2),⟨u,u2,s2.extBut _ _ D.TOz y2⟩,y3.at λo zz=>s2.extBut _ o D.i1z zz,y4.at λo zz=>s2.extBut _ o D.i2z zz⟩,λc hc=>?_⟩
  . have c1:c≠z:=λq=>hc (by simp [q])
    exact s2.extBut c o c1 (y7 c o c1 (λq=>hc (by simp [q])) (λq=>hc (by simp [q])) (λq=>hc (by simp [q])) zz)
  . rw [aq (Nat.ne_of_lt (lt c hc))]
    exact (hf c hc).1
 done:=by intro X hP hw hK hc i pins s σ H E I hf st hg;subst hP hw hK;obtain ⟨xs,ys,hq,hq2,hx⟩:=hg;obtain ⟨its,rv,p⟩:=I.Oo hq;obtain ⟨its2,rv2,p2⟩:=I.Oo hq2;obtain ⟨e1,e2,⟨o1,o2,e3⟩,e4,e5⟩:=st;have hl:=rv.length;have hl2:=rv2.length;refine af6 (I.ok.hd hc) D e1 e2 e3 e4 e5 p p2 (by simp;omega) λh' eb=>⟨rfl,I.V5 (t':=s.toks) hf λc o hc zz=>eb c o (λq=>hc (by simp [q])) (λq=>hc (by simp [q])) (λq=>hc (by simp [q])) (λq=>hc (by simp [q])) zz⟩
 self:=λ_ _ _ _ _ st h=>by obtain ⟨e1,_⟩:=st;exact wpAny_pyIter_zip e1 h
theorem aqp {X:Cx} {ts:List Expr} {k0:Nat} {pt p pos:Pos} {a c:Expr} {ta:TA} (hg:Gl X "zip") (hm:X.mg "zip" = none) (ha:PA X [a,c] ta) (hs:starEach [a,c] X.env=(false,eval a X.env) :: starEach [c] X.env) (hpl:(backTo pos (starEach [c] X.env)).any (·.1)=false) :
 PI X (.Tuple ts k0 pt) (.Call (.Name "zip" p) [a,c] [] pos) (fun σ H R=>ta σ H λvs H1=>∃ b1 b2 q1 q2,vs=[.ref q1,.ref q2]/\(∃ xs,Ms b1 X.K H1 q1 xs)/\(∃ ys,Ms b2 X.K H1 q2 ys)/\R (Izp b1 b2 X.K q1 q2) H1):=by
 intro pins s σ H R I h;refine PyProof.Rows.Call_ (j4 I hg hm (show bootBuiltins "zip" = some (.type "zip") by decide +kernel) (PyProof.Rows.callWith_type1 (jb (ha pos pins s σ H _ I h) λus s1 ⟨vs,H1,I1,r1,q1⟩=>?_) hs hpl));obtain ⟨b1,b2,q1,q2,rfl,⟨xs,hq⟩,⟨ys,hq2⟩,hR⟩:=q1;cases r1 with
 | cons r rr =>
  cases rr with
  | cons r2 rr =>
   cases rr;cases r;cases r2;obtain ⟨its,rv,p⟩:=I1.Oo hq;obtain ⟨its2,rv2,p2⟩:=I1.Oo hq2;refine af7 p p2 λh' e1 e2 e3 e4 e5 kk=>?_
   refine wpAny_pyIter_zip e1 ?_;have l1:q1 < s1.heap.objs.size:=by obtain ⟨o,e⟩:=p.obj;exact Heap.lt_size e
   have l2:q2 < s1.heap.objs.size:=by obtain ⟨o,e⟩:=p2.obj;exact Heap.lt_size e
   refine ⟨s1.heap.objs.size+4,_,_,_,H1,rfl,I1.kept (t':=s1.toks) kk,af8 (b1:=b1) (b2:=b2) (PyProof.Rows.zipApart_new l1 l2),⟨e1,e2,⟨_,_,e3⟩,e4,e5⟩,λc hc=>?_,hR⟩;have hle:s1.heap.objs.size <= c:=by simp only [List.mem_cons,List.not_mem_nil,or_false] at hc;rcases hc with rfl | rfl | rfl | rfl | rfl<;>omega
   exact I1.Zb hle (I1.hok.fresh hle)
end L2
namespace Sm
open PySem L2
open MW (Ex ji Qc xg mj bw Lv Tg Res Store MO jz Cp Vm Nx Bm Kx Src)
section
variable {nm:Nm} {W:jz} {X:Cx} {a b c o:Expr} {a' b' c' o':Ex} {pos pos' apos:Pos} {ι:Io} {H:Hp} {σ:St} {ρ:En} {M M1 M2:Store} {x y:Dv} {es:List Expr} {es':ji} {k n f:Nat}
theorem abn {ds es:List Dv} {i:Nat} {d:Dv} (h:((ds.zip es).map λp=>MW.D.tup [p.1,p.2])[i]?=some d):∃ x y,ds[i]?=some x/\es[i]?=some y/\d=.tup [x,y]:=by rw [List.getElem?_map] at h;obtain ⟨p,hp,rfl⟩:=Option.map_eq_some_iff.mp h;obtain ⟨h1,h2⟩:=List.getElem?_zip_eq_some.mp hp;exact ⟨_,_,h1,h2,rfl⟩
theorem V7 {ds:List Dv} {v:V} (r:Rep X.K ι H x v) (e:MW.Iz x=some ds):∃ b p us,v=.ref p/\bc X.K ι H ds us/\Ms b X.K H p us/\∀ ι2 H2,Uc ι H ι2 H2->Ms b X.K H2 p us:=by
 cases r with
 | @tup p ds us h1 rr=>cases e;exact ⟨true,p,us,rfl,rr,yt.of h1,fun ι2 H2 le2=>yt.of (le2.tup _ _ h1)⟩
 | @vl p ds us h1 n1 rr=>cases e;exact ⟨false,p,us,rfl,rr,uh.of h1,fun ι2 H2 le2=>uh.of (le2.lst _ _ n1.1 h1)⟩
 | _=>cases e
theorem af9 {b1 b2:Bool} {q1 q2:Addr} {ds es:List Dv} {vs ws:List V} (r1:bc X.K ι H ds vs) (r2:bc X.K ι H es ws) (hk1:∀ ι1 H1,Uc ι H ι1 H1->Ms b1 X.K H1 q1 vs) (hk2:∀ ι1 H1,Uc ι H ι1 H1->Ms b2 X.K H1 q2 ws) :
 aam nm X.K ι H (.con ((ds.zip es).map λp=>MW.D.tup [p.1,p.2])) (Izp b1 b2 X.K q1 q2):=fun ι1 H1 M1 le S1=>by
 refine ⟨λi d hi hd=>?_,λ_=>⟨vs,ws,hk1 ι1 H1 le,hk2 ι1 H1 le,?_⟩⟩
 . obtain ⟨x,y,e1,e2,rfl⟩:=abn hd
   obtain ⟨v,g1,g2⟩:=(r1.mz le).get e1;obtain ⟨w,g3,g4⟩:=(r2.mz le).get e2;refine ⟨⟨vs,v,ws,w,hk1 ι1 H1 le,g1,hk2 ι1 H1 le,g3⟩,λu H2 ⟨p,x',y',e5,e6,e7,e8,e9⟩=>?_⟩;have ex:x'=v:=by have:=e8 vs (hk1 ι1 H1 le);rw [g1] at this;cases this;rfl
   have ey:y'=w:=by have:=e9 ws (hk2 ι1 H1 le);rw [g3] at this;cases this;rfl
   subst ex ey e5 e7;obtain ⟨S2,le2,r2⟩:=za (X:=X) S1 e6 (.cons g2 (.cons g4 .nil));exact ⟨le2,S2,r2⟩
 . show vs.length <= ((ds.zip es).map λp=>MW.D.tup [p.1,p.2]).length \/ ws.length <= ((ds.zip es).map λp=>MW.D.tup [p.1,p.2]).length
   rw [<- r1.length,<- r2.length,List.length_map,List.length_zip];omega
theorem aga {s:Src} {M':Store} (e:(xg.zip a' c').den W ρ M=.ok s M'):∃ x y ds es M1,a'.den W ρ M=.ok x M1/\c'.den W ρ M1=.ok y M'/\MW.Iz x=some ds/\MW.Iz y=some es/\s=.con ((ds.zip es).map λp=>MW.D.tup [p.1,p.2]):=by
 rw [MW.ael] at e;obtain ⟨x,N1,e1,e⟩:=aa e;obtain ⟨y,N2,e2,e⟩:=aa e;obtain ⟨ds,N3,e3,e⟩:=aa e;obtain ⟨es,N4,e4,e⟩:=aa e;obtain ⟨e3,h3⟩:=cu e3;obtain ⟨e4,h4⟩:=cu e4;injection e with e5 e6
 exact ⟨x,y,ds,es,N1,e1,by rw [e2,<- h3,<- h4,e6],e3,e4,e5.symm⟩
theorem aqq {ts:List Expr} {k0:Nat} {pt pr:Pos} (hg:Gl X "zip") (hm:X.mg "zip" = none) (ha:PE X a (tE nm W X.K a')) (hst:noStar a=true) (hb:PE X c (tE nm W X.K c')) (hst2:noStar c=true) (hpl:(backTo pos (starEach [c] X.env)).any (·.1)=false) :
 PI X (.Tuple ts k0 pt) (.Call (.Name "zip" pr) [a,c] [] pos) (tI nm W X.K (.zip a' c')):=by
 intro pins s0 σ H R' I hh;obtain ⟨ι,ρ,M,s,M',S,R,e,q⟩:=hh;obtain ⟨x,y,ds,es,N1,e1,e2,e3,e4,rfl⟩:=aga e;refine PI.weak (aqp (ts:=ts) (k0:=k0) (pt:=pt) (p:=pr) (pos:=pos) hg hm (Ax ha (Ax hb Jh (bh hst2 _ _)) (bh hst _ _)) (bh hst _ _) hpl) (wi':=fun σ0 H0 R0=>σ0=σ/\H0=H/\R0=R') (fun σ0 H0 R0 ⟨z1,z2,z3⟩=>?_) pins s0 σ H R' I ⟨rfl,rfl,rfl⟩;subst z1 z2 z3;refine Ji (es':=.cons a' (.cons c' .nil)) (ds:=[x,y]) (M1:=M') S R (by rw [MW.m6,e1];simp [e2]) fun ι1 H1 vs le S1 R1 r=>?_
 cases r with
 | cons r1 r2 =>
  cases r2 with
  | cons r2 r3 =>
   cases r3;obtain ⟨b1,p1,us1,rfl,g1,g2,g3⟩:=V7 r1 e3;obtain ⟨b2,p2,us2,rfl,g4,g5,g6⟩:=V7 r2 e4;exact ⟨b1,b2,p1,p2,rfl,⟨_,g2⟩,⟨_,g5⟩,q ι1 H1 _ le S1 (af9 g1 g4 g3 g6)⟩
theorem Rq:∀ {xs:List Dv} {b:Bool},MW.allB xs=some b->∃ bs:List Bool,xs=bs.map MW.D.bl/\b=bs.all id
 | [],b,e=>by cases e;exact ⟨[],rfl,rfl⟩
 | .bl k :: r,b,e=>by
  obtain ⟨c,e1,rfl⟩:=Option.map_eq_some_iff.mp (show (MW.allB r).map (k && ·)=some b from e);obtain ⟨bs,rfl,rfl⟩:=Rq e1;exact ⟨k :: bs,rfl,by simp⟩
theorem Mt {K:Fg}:∀ {bs:List Bool} {vs:List V} {is:List Value},bc K ι H (bs.map MW.D.bl) vs->Vals vs is->is=bs.map Value.bool
 | [],_,_,r,h=>by cases r;cases h;rfl
 | k :: bs,_,_,r,h=>by
  cases r with
  | cons r1 r2 =>
   cases h with
   | cons h1 h2 =>
    cases r1;cases h1;rw [Mt r2 h2];rfl
theorem aqr (hc:X.calm=true):jy X (.builtin "all") (rB nm X.K .all):=λpins s σ H vs us Q I rvs hh=>by
 obtain ⟨ι,M,ds,d,M',S,r,e,q⟩:=hh;obtain ⟨x,rfl,e⟩:∃ x,ds=[x]/\Res.ofOpt (((MW.asList M x).bind MW.allB).map MW.D.bl) M=.ok d M':=by
  cases ds with
  | nil=>cases e
  | cons x l=>cases l with
   | nil=>exact ⟨x,rfl,e⟩|cons _ _=>cases e
 obtain ⟨e1,rfl⟩:=cu e;obtain ⟨b,e2,rfl⟩:=Option.map_eq_some_iff.mp e1;obtain ⟨xs,e3,e4⟩:=Option.bind_eq_some_iff.mp e2;obtain ⟨bs,rfl,rfl⟩:=Rq e4;obtain ⟨v,rfl,rv⟩:=Es r rfl;obtain ⟨u,rfl,ru⟩:=Um rvs;obtain ⟨p,ws,rfl,hp,rl⟩:=dg S rv e3;cases ru;obtain ⟨is,rvl,pl,_⟩:=I.list (uh.of hp);have his:=Mt rl rvl;have hlt:p < s.heap.objs.size:=by obtain ⟨_,e,_⟩:=pl.isList;exact Heap.lt_size e
 refine call_all_walk (wpAny_pyIter_list pl.isList ?_);refine ⟨_,_,_,_,_,_,λi=>bs.getD i true,rfl,Walks.list (A:=X.A.in1) (I.ok.hd hc) s.heap.objs.size p (Nat.ne_of_lt hlt) is.toArray,⟨⟨_,Heap.get?_push_size _ rfl,rfl,rfl⟩,pl.isList.push _⟩,λi v s Q E hP hQ=>?_,λh' tk hk=>?_⟩
 . have hv:is[i]?=some v:=by simpa using hP
   rw [his,List.getElem?_map] at hv;obtain ⟨k,hk,rfl⟩:=Option.map_eq_some_iff.mp hv;refine wpAny_truthy_bool ?_;have hQ:Q (bs.getD i true) s:=hQ;rw [List.getD_eq_getElem?_getD,hk] at hQ;exact hQ
 . have ha:(List.range is.toArray.size).all (λi=>bs.getD i true)=bs.all id:=by
    rw [his];simp only [List.size_toArray,List.length_map];rw [Bool.eq_iff_iff,List.all_eq_true,List.all_eq_true];constructor
    . intro h k hk
      obtain ⟨i,hi,rfl⟩:=List.getElem_of_mem hk;have:=h i (List.mem_range.mpr hi);simpa [List.getD_eq_getElem?_getD,hi] using this
    . intro h i hi
      have hi':=List.mem_range.mp hi;have:=h bs[i] (List.getElem_mem hi');simpa [List.getD_eq_getElem?_getD,hi'] using this
   rw [ha];exact ⟨.bl _,H,I.kept (t':=tk) (old_kept hk),rfl,q ι H _ (Le.refl _ _) S (.bl _)⟩
end
section
variable {nm:Nm} {W:jz} {X:Cx} {a b c o e:Expr} {a' b' c' o':Ex} {pos pos' apos cpos p2:Pos} {ι:Io} {H:Hp} {σ:St} {ρ:En} {M M1 M2:Store} {x y:Dv} {es:List Expr} {es':ji}
theorem Ff (K:Fg) (T:String):PySem.W.kitOne K (.type T) (.type T)=some true:=by unfold PySem.W.kitOne;rw [if_pos (by simp)]
theorem X8 (hno:∀ T∈["NoneType", "bool", "int", "str", "list", "dict"],PySem.W.kitOne X.K (.type T) (.type "tuple")=some false):∀ ι H M M' x v d,az nm X.K ι H M->Rep X.K ι H x v->MW.dj .isTuple [x] M=.ok d M'->M'=M/\∃ b ty,d=.bl b/\Am X.K H v ty/\PySem.W.kitOne X.K ty (.type "tuple")=some b:=fun ι H M M' x v d S r e=>by
 have e:Res.ofOpt ((MW.isT M x).map MW.D.bl) M=.ok d M':=e;obtain ⟨e1,e2⟩:=cu e;obtain ⟨b,e3,rfl⟩:=Option.map_eq_some_iff.mp e1;refine ⟨e2,b,?_⟩;cases r with
 | non=>cases e3;exact ⟨_,rfl,.non,hno _ (by simp)⟩|bl b=>cases e3;exact ⟨_,rfl,.bl _,hno _ (by simp)⟩|int i=>cases e3;exact ⟨_,rfl,.int _,hno _ (by simp)⟩|str z=>cases e3;exact ⟨_,rfl,.str _,hno _ (by simp)⟩|tup h r=>cases e3;exact ⟨_,rfl,.tup h,Ff _ _⟩|vl h n r=>cases e3;exact ⟨_,rfl,.lst h,hno _ (by simp)⟩|fz e r=>cases e3
 | @ref n p hp =>
  have e3:(match M[n]? with | some (.lst _)=>some false | some (.dT _)=>some false | some (.dK _)=>some false | _=>none)=some b:=e3;split at e3
  . rename_i hM
    cases e3;obtain ⟨vs,h1,_⟩:=S.obj n _ p hM hp;exact ⟨_,rfl,.lst h1,hno _ (by simp)⟩
  . rename_i hM
    cases e3;obtain ⟨vs,h1,_⟩:=S.obj n _ p hM hp;exact ⟨_,rfl,.dT h1,hno _ (by simp)⟩
  . rename_i hM
    cases e3;obtain ⟨vs,h1,_⟩:=S.obj n _ p hM hp;exact ⟨_,rfl,.dK h1,hno _ (by simp)⟩
  . cases e3
theorem abo (hno:∀ T∈["NoneType", "int", "str", "list", "tuple"],PySem.W.kitOne X.K (.type T) (.type "bool")=some false):∀ ι H M M' x v d,az nm X.K ι H M->Rep X.K ι H x v->MW.dj .isBool [x] M=.ok d M'->M'=M/\∃ b ty,d=.bl b/\Am X.K H v ty/\PySem.W.kitOne X.K ty (.type "bool")=some b:=fun ι H M M' x v d S r e=>by
 have e:Res.ofOpt ((MW.isB x).map MW.D.bl) M=.ok d M':=e;obtain ⟨e1,e2⟩:=cu e;obtain ⟨b,e3,rfl⟩:=Option.map_eq_some_iff.mp e1;refine ⟨e2,b,?_⟩;cases r with
 | non=>cases e3;exact ⟨_,rfl,.non,hno _ (by simp)⟩|bl b=>cases e3;exact ⟨_,rfl,.bl _,Ff _ _⟩|int i=>cases e3;exact ⟨_,rfl,.int _,hno _ (by simp)⟩|str z=>cases e3;exact ⟨_,rfl,.str _,hno _ (by simp)⟩|tup h r=>cases e3;exact ⟨_,rfl,.tup h,hno _ (by simp)⟩|vl h n r=>cases e3;exact ⟨_,rfl,.lst h,hno _ (by simp)⟩|fz e r=>cases e3|ref hp=>cases e3
theorem agb {n:Str} {p pt p1 p2:Pos} {k:Nat} (hT:PySem.W.kitAny X.K (.type "tuple") [.type "tuple",.type "list"]=some true) (hL:PySem.W.kitAny X.K (.type "list") [.type "tuple",.type "list"]=some true)
 (hno:∀ T∈["NoneType", "bool", "int", "str"],PySem.W.kitAny X.K (.type T) [.type "tuple",.type "list"]=some false)
 (hg:Gl X n) (hm:X.mg n=none) (hv:bootBuiltins n=some (.builtin "isinstance")) (hn:n ≠ "__name__") (hdb:(n == ("__debug__" : Str))=false)
 (hg1:Gl X "tuple") (hm1:X.mg "tuple" = none) (hg2:Gl X "list") (hm2:X.mg "list" = none)
 (ha:PE X a (tE nm W X.K a')) (he:starEach [a,.Tuple [.Name "tuple" p1,.Name "list" p2] k pt] X.env=(false,eval a X.env) :: starEach [.Tuple [.Name "tuple" p1,.Name "list" p2] k pt] X.env)
 (hpl:(backTo pos (starEach [.Tuple [.Name "tuple" p1,.Name "list" p2] k pt] X.env)).any (·.1)=false):PE X (.Call (.Name n p) [a,.Tuple [.Name "tuple" p1,.Name "list" p2] k pt] [] pos) (tE nm W X.K (.blt .isSeq (.cons a' .nil))):=by
 intro pins s σ H Q I hh;obtain ⟨ι,ρ,M,d,M',S,R,e,q⟩:=hh;rw [MW.N5] at e;obtain ⟨ds,M1,e1,e⟩:=aa e;rw [MW.m6] at e1;obtain ⟨x,M2,e2,e1⟩:=aa e1;rw [MW.Aq] at e1;cases e1;refine wpAny_Call_Name_kw (j4 I hg hm hv ?_ hn hdb);refine PyProof.Rows.callWith_builtin1 (Q:=EP X pins σ Q) ?_ he hpl;rw [he];show wpAny _ _ (spliced ((false,eval a X.env) :: backTo pos (starEach [.Tuple [.Name "tuple" p1,.Name "list" p2] k pt] X.env))) _ _ s;refine Calls.spliced_cons (jb (ha pins s σ H (λv H1=>∃ ι1,Le ι H ι1 H1/\az nm X.K ι1 H1 M1/\Rep X.K ι1 H1 x v) I ⟨ι,ρ,M,x,M1,S,R,e2,fun ι1 H1 v le S1 r=>⟨ι1,le,S1,r⟩⟩) λu s1 ⟨v,H1,I1,r1,ι1,le,S1,r⟩=>?_);show wpAny _ _ (spliced ((false,eval (.Tuple [.Name "tuple" p1,.Name "list" p2] k pt) X.env) :: backTo pos (starEach [] X.env))) _ _ s1;refine Calls.spliced_cons (wpAny_Tuple ?_);show wpAny _ _ (spliced ((false,eval (.Name "tuple" p1) X.env) :: backTo pt (starEach [.Name "list" p2] X.env))) _ _ s1;refine Calls.spliced_cons (j4 I1 hg1 hm1 (show bootBuiltins "tuple" = some (.type "tuple") by decide +kernel) ?_ (by decide +kernel) (by decide +kernel));show wpAny _ _ (spliced ((false,eval (.Name "list" p2) X.env) :: backTo pt (starEach [] X.env))) _ _ s1;refine Calls.spliced_cons (j4 I1 hg2 hm2 (show bootBuiltins "list" = some (.type "list") by decide +kernel) ?_ (by decide +kernel) (by decide +kernel));refine Calls.spliced_nil ⟨by show 2 <= sizeLine;decide,?_⟩;refine Calls.spliced_nil ?_;have I2:Inv X pins σ H1 { s1 with heap:=s1.heap.push { cls:=.type "tuple",data:=.seq #[.type "tuple",.type "list"] } }:=I1.kept (t':=s1.toks) λb u e=>Heap.get?_push_of_some _ e
 have htp:(s1.heap.push { cls:=.type "tuple",data:=.seq #[.type "tuple",.type "list"] }).get? s1.heap.objs.size=some { cls:=.type "tuple",data:=.seq #[.type "tuple",.type "list"] }:=Heap.get?_push_size _ rfl;have e:Res.ofOpt ((MW.isS x).map MW.D.bl) M1=.ok d M':=e;obtain ⟨e4,e5⟩:=cu e;subst e5;obtain ⟨b,e3,rfl⟩:=Option.map_eq_some_iff.mp e4;have fin:∀ tk,EP X pins σ Q (.bool b) { s1 with heap:=s1.heap.push { cls:=.type "tuple",data:=.seq #[.type "tuple",.type "list"] },toks:=tk }:=λtk=>⟨.bl b,H1,I2.tok _,rfl,q ι1 H1 _ le S1 (.bl b)⟩
 cases r with
 | non=>cases e3;cases (show u=Value.none from r1);exact PySem.W.kia_tup PySem.W.kitx_none I2.Df True.intro htp (hno _ (by simp)) (λz=>nomatch z) fin
 | bl k=>cases e3;cases (show u=Value.bool k from r1);exact PySem.W.kia_tup PySem.W.kitx_bool I2.Df True.intro htp (hno _ (by simp)) (λz=>nomatch z) fin
 | int i=>cases e3;obtain ⟨t,q⟩:=(show ∃ t,u=Value.int i t from r1);cases q;exact PySem.W.kia_tup PySem.W.kitx_int I2.Df True.intro htp (hno _ (by simp)) (λz=>nomatch z) fin
 | str y=>cases e3;obtain ⟨t,q⟩:=(show ∃ t,u=Value.str y t from r1);cases q;exact PySem.W.kia_tup PySem.W.kitx_str I2.Df True.intro htp (hno _ (by simp)) (λz=>nomatch z) fin
 | @tup p ds us h1 rr =>
  cases e3;cases (show u=Value.ref p from r1);obtain ⟨_,_,_,h1⟩:=(show iw X.prog X.w H1 _ p (.tup us) from I2.hok p _ h1);obtain ⟨o,g1,g2,_⟩:=h1;exact PySem.W.kia_tup PySem.W.kitx_tuple I2.Df ⟨o,g1,g2⟩ htp hT (λz=>nomatch z) fin
 | @vl p ds us h1 n1 rr =>
  cases e3;cases (show u=Value.ref p from r1);obtain ⟨_,_,n,_,h1⟩:=(show iw X.prog X.w H1 _ p (.lst us) from I2.hok p _ h1);exact PySem.W.kia_tup PySem.W.kitx_list I2.Df ⟨_,h1,rfl⟩ htp hL (λz=>nomatch z) fin
 | fz e r=>cases e3|ref hp=>cases e3
end
end Sm
namespace Ck
open PySem L2 Sm
open MW (Ex ji Qc xg mj bw Lv Tg Res Store MO jz Cp Vm Nx Bm Kx Src)
structure Tab where
 fns:List (Option (Str×Nat))
 cls:List (Option (Str×Nat))
 Tf:List (Str×Nat)
 Cj:List Str
 agc:List (Str×Int)
noncomputable def Ba:List Str:=["len", "tuple", "list", "dict", "max", "min", "isinstance", "range", "enumerate", "set", "zip", "all", "bool"]
structure TabOk (T:Tab) (nm:Nm) (W:jz) (k:Nat) (P:Program) (w:World) (K:Fg) (mg:Str->Option Value) (base:Heap):Prop where
 fn:∀ f x n,T.fns[f]?=some (some (x,n))->∃ fa fd ps,m5 P w K mg base Nv k fa fd ps (Xu nm W K n f)/\mg x=some (.ref fa)/\PySem.W.keepIn K (.ref fa)=true/\Binds K fd ps []
 cl:∀ c x n,T.cls[c]?=some (some (x,n))->∃ C fa fd ps cl,Mk K C fa/\m5 P w K mg base Nv k fa fd ps (Xu nm W K (n+1) cl.init)/\mg x=some (.ref C)/\Binds K fd ps []/\W.cls[c]?=some cl/\nm.cls c=some C
 mt:∀ m x n,T.Tf[m]?=some (x,n)->∃ C fa fd ps f,Qa K C/\Meth K C x fa/\m5 P w K mg base Nv k fa fd ps (Xu nm W K (n+1) f)/\Binds K fd ps [] /\
  (∀ c' Q9,W.cls[c']?=some Q9->∀ g,Q9.meths.lookup m=some g->nm.cls c'=some C/\g=f)/\∀ i,nm.fld i≠x
 fl:∀ f x,T.Cj[f]?=some x->x=nm.fld f/\∀ c C,nm.cls c=some C->Qa K C/\ql K C x
 cs:∀ x i,(x,i)∈T.agc->∃ t,mg x=some (.int i t)
 bt:∀ x∈Ba,mg x=none
structure Ctx where
 N:List Str
 sc:List (Str×NameKind)
 fn:Bool
structure mq (T:Tab) (nm:Nm) (W:jz) (k:Nat) (c:Ctx) (X:Cx):Prop where
 N:X.N=c.N
 nd:c.N.Nodup
 sc:X.env.scope.names=c.sc
 kd:X.env.scope.kind=.function
 calm:X.calm=true
 room:gm (k+16) X.A
 fnl:c.fn=true->(∀ n,X.fn n=true)/\PassesOwn (model X.prog X.w) X.A X.env X.xe
 tab:TabOk T nm W k X.prog X.w X.K X.mg X.base
theorem Ot (K:Fg) (Ty U:String):PySem.W.kitOne K (.type Ty) (.type U)=(if (Value.type Ty == Value.type U)=true then some true else if PySem.W.kitMeta U=true then (fastBuiltinMro Ty).map (·.contains (.type U)) else none):=rfl
theorem Jz (K:Fg):∀ Ty∈["NoneType", "bool", "int", "str", "tuple", "dict"],PySem.W.kitOne K (.type Ty) (.type "list")=some false:=λTy m=>by simp only [List.mem_cons,List.not_mem_nil,or_false] at m;rcases m with rfl | rfl | rfl | rfl | rfl | rfl<;>rw [Ot]<;>decide +kernel
theorem kit_tuple (K:Fg):∀ Ty∈["NoneType", "bool", "int", "str", "list", "dict"],PySem.W.kitOne K (.type Ty) (.type "tuple")=some false:=λTy m=>by simp only [List.mem_cons,List.not_mem_nil,or_false] at m;rcases m with rfl | rfl | rfl | rfl | rfl | rfl<;>rw [Ot]<;>decide +kernel
theorem abp (K:Fg):∀ Ty∈["NoneType", "int", "str", "list", "tuple"],PySem.W.kitOne K (.type Ty) (.type "bool")=some false:=λTy m=>by simp only [List.mem_cons,List.not_mem_nil,or_false] at m;rcases m with rfl | rfl | rfl | rfl | rfl<;>rw [Ot]<;>decide +kernel
theorem J0 {K:Fg} {Ty:String} {a b:Bool} (h1:PySem.W.kitOne K (.type Ty) (.type "tuple")=some a) (h2:PySem.W.kitOne K (.type Ty) (.type "list")=some b):PySem.W.kitAny K (.type Ty) [.type "tuple",.type "list"]=some (a || b):=by cases a<;>cases b<;>simp [PySem.W.kitAny,h1,h2]
theorem agd (K:Fg):∀ Ty∈["NoneType", "bool", "int", "str"],PySem.W.kitAny K (.type Ty) [.type "tuple",.type "list"]=some false:=λTy m=>by simp only [List.mem_cons,List.not_mem_nil,or_false] at m;rcases m with rfl | rfl | rfl | rfl<;>exact J0 (kit_tuple K _ (by simp)) (Jz K _ (by simp))
noncomputable def J1 (n:Str):Bool:=!(n == ("__debug__" : Str)) && (!(n == ("__classdict__" : Str)) && !(n == ("__name__" : Str)))
noncomputable def Yb (c:Ctx) (n:Str):Bool:=match c.sc.lookup n with | some .local=>true | some .cell=>true | some .free=>true | _=>false
noncomputable def akr (c:Ctx) (n:Str):Bool:=match c.sc.lookup n with | some .local=>true | some .cell=>c.fn | _=>false
noncomputable def Ge (c:Ctx) (n:Str):Bool:=J1 n && (match c.sc.lookup n with | some .globalImplicit=>true | _=>false)
noncomputable def V8 (c:Ctx) (i:Nat) (n:Str):Bool:=match c.N[i]? with | some m=>m == n | none=>false
noncomputable def fc:List Expr->Bool
 | []=>true|e :: r=>noStar e && fc r
noncomputable def Dr:Expr->Bool
 | .Name ..=>true|.Attribute ..=>true|.Subscript ..=>true|.Call (.Attribute ..) ..=>true|_=>false
theorem dm {n:Str} (h:J1 n=true):(n == ("__debug__" : Str))=false/\(n == ("__classdict__" : Str))=false/\n ≠ "__name__" := by simp only [J1,Bool.and_eq_true,Bool.not_eq_true'] at h;exact ⟨h.1,h.2.1,λz=>by have:=h.2.2;rw [z] at this;simp at this⟩
section
variable {T:Tab} {nm:Nm} {W:jz} {k:Nat} {c:Ctx} {X:Cx}
theorem aks (h:mq T nm W k c X) {n:Str} (hv:Yb c n=true):Vis X.env.scope n:=by unfold Vis;rw [h.sc];unfold Yb at hv;split at hv<;>rename_i e<;>first | exact .inl e | exact .inr (.inl e) | exact .inr (.inr e) | cases hv
theorem akt (h:mq T nm W k c X) {n:Str} (hv:akr c n=true):L2.Loc X.env.scope n/\(X.fn n=true \/ X.env.scope.names.lookup n=some .local):=by
 unfold L2.Loc;rw [h.sc];unfold akr at hv;split at hv
 . rename_i e;exact ⟨.inl e,.inr e⟩
 . rename_i e;exact ⟨.inr e,.inl ((h.fnl hv).1 n)⟩
 . cases hv
theorem uq (h:mq T nm W k c X) {n:Str} (hv:Ge c n=true):Gl X n/\J1 n=true:=by
 unfold Ge at hv;rw [Bool.and_eq_true] at hv;refine ⟨?_,hv.1⟩;have hv:=hv.2;unfold Gl Env.kindOf;rw [h.sc];split at hv
 . rename_i e;exact e
 . cases hv
theorem slot_of (h:mq T nm W k c X) {i:Nat} {n:Str} (hv:V8 c i n=true):X.N[i]?=some n:=by
 rw [h.N];unfold V8 at hv;split at hv
 . rename_i m e;rw [e,eq_of_beq hv]
 . cases hv
theorem J2 {env:Env}:∀ {es:List Expr},fc es=true->starEach es env=es.map λe=>(false,eval e env)
 | [],_=>rfl
 | e :: r,h=>by
  simp only [fc,Bool.and_eq_true] at h;rw [bh h.1,J2 h.2];rfl
theorem fj {env:Env} {pos:Pos} {es:List Expr} (h:fc es=true):(backTo pos (starEach es env)).any (·.1)=false:=by rw [J2 h];simp [backTo]
theorem J5 {env:Env} {pos:Pos} {es:List Expr} (h:fc es=true):(backTo pos (starEach es env)).all (λx=>!x.1)=true:=by rw [J2 h];simp [backTo]
theorem yx {o:Expr} {n:Str} {env:Env} (h:Dr o=true):attributeBase o n env (eval o env)=eval o env:=by
 cases o<;>first | rfl | (simp [Dr] at h)
 rename_i f as kws p;cases f<;>first | rfl | (simp [Dr] at h)
theorem V9 {o:Expr} {m:Str} {apos pos:Pos} {es:List Expr} {env:Env} (h:Dr o=true) (hs:fc es=true) (hl:es.length < 29) (hp:(apos.endLine == pos.line)=true) :
 eval (.Call (.Attribute o m apos) es [] pos) env=(do
  let ov <- eval o env
  standAt apos.atName
  let (f,first) <- holding [ov] (getMethod ov m (do return (<- importBound o env).getD true))
  callWith pos f first (backTo pos (starEach es env)) (backToKw pos (keywordEach [] env))):=by
 have hf:methodCallForm (es.length+0) (backTo pos (starEach es env)) (backToKw pos (keywordEach [] env))=true:=by unfold methodCallForm;rw [J5 hs];simp [keywordEach,backToKw];omega
 show (do
  let ov <- attributeBase o m env (eval o env)
  standAt apos.atName
  methodCall o m apos pos env ov (es.length+0) (backTo pos (starEach es env)) (backToKw pos (keywordEach [] env)))=_
 rw [yx h];unfold methodCall;rw [hf];have hq:methodCallPos true o env apos pos=pure pos:=by unfold methodCallPos;rw [hp];rfl
 rw [hq];simp only [calleeOf,if_true,pure_bind]
end
noncomputable def jk {α:Type} (o:Option α) (f:α->Bool):Bool:=match o with | some x=>f x | none=>false
theorem ao {α:Type} {o:Option α} {f:α->Bool} (h:jk o f=true):∃ x,o=some x/\f x=true:=by
 cases o with
 | none=>cases h|some x=>exact ⟨x,rfl,h⟩
noncomputable def Dt {α:Type} (l:List α):Option α:=match l with | [x]=>some x | _=>none
theorem iy {α:Type} {l:List α} {x:α} (h:Dt l=some x):l=[x]:=by
 cases l with
 | nil=>cases h
 | cons y r=>cases r with
  | nil=>cases h;rfl|cons _ _=>cases h
noncomputable def dName:Expr->Option Str | .Name n _=>some n | _=>none
noncomputable def abq:Expr->Option Const | .Constant k _ _=>some k | _=>none
noncomputable def aqs:Expr->Option (Expr×Operator×Expr) | .BinOp l o r _=>some (l,o,r) | _=>none
noncomputable def dUn:Expr->Option (UnaryOp×Expr) | .UnaryOp o l _=>some (o,l) | _=>none
noncomputable def age:Expr->Option (Expr×List CmpOp×List Expr) | .Compare l o r _=>some (l,o,r) | _=>none
noncomputable def ahx:Expr->Option (BoolOp×List Expr×Pos) | .BoolOp o l p=>some (o,l,p) | _=>none
noncomputable def aku:Expr->Option (Expr×Expr×Expr) | .IfExp t l r _=>some (t,l,r) | _=>none
noncomputable def dTup:Expr->Option (List Expr) | .Tuple l _ _=>some l | _=>none
noncomputable def akv:Expr->Option (List Expr) | .List l _=>some l | _=>none
noncomputable def aqt:Expr->Option (List (Option Expr)×List Expr) | .Dict k v _=>some (k,v) | _=>none
noncomputable def abr:Expr->Option (Expr×Expr) | .Subscript l r _=>some (l,r) | _=>none
noncomputable def dSl:Expr->Option (Option Expr×Option Expr×Option Expr) | .Slice l r s _=>some (l,r,s) | _=>none
noncomputable def dCall:Expr->Option (Expr×List Expr×List Keyword×Pos) | .Call f l k p=>some (f,l,k,p) | _=>none
noncomputable def abt:Expr->Option (Expr×Str×Pos) | .Attribute l n p=>some (l,n,p) | _=>none
noncomputable def Mu:Expr->Option (Expr×List Comprehension×Scope) | .ListComp e g s _=>some (e,g,s) | _=>none
theorem qi {a:Expr} {n:Str} (h:dName a=some n):∃ p,a=.Name n p:=by cases a<;>cases h<;>exact ⟨_,rfl⟩
theorem Ii {a:Expr} {n:Const} (h:abq a=some n):∃ k p,a=.Constant n k p:=by cases a<;>cases h<;>exact ⟨_,_,rfl⟩
theorem agf {a l r:Expr} {o:Operator} (h:aqs a=some (l,o,r)):∃ p,a=.BinOp l o r p:=by cases a<;>cases h<;>exact ⟨_,rfl⟩
theorem abu {a l:Expr} {o:UnaryOp} (h:dUn a=some (o,l)):∃ p,a=.UnaryOp o l p:=by cases a<;>cases h<;>exact ⟨_,rfl⟩
theorem Ou {a l:Expr} {o:List CmpOp} {r:List Expr} (h:age a=some (l,o,r)):∃ p,a=.Compare l o r p:=by cases a<;>cases h<;>exact ⟨_,rfl⟩
theorem abv {a:Expr} {o:BoolOp} {r:List Expr} {p:Pos} (h:ahx a=some (o,r,p)):a=.BoolOp o r p:=by cases a<;>cases h<;>rfl
theorem agg {a t l r:Expr} (h:aku a=some (t,l,r)):∃ p,a=.IfExp t l r p:=by cases a<;>cases h<;>exact ⟨_,rfl⟩
theorem Cd {a:Expr} {l:List Expr} (h:dTup a=some l):∃ k p,a=.Tuple l k p:=by cases a<;>cases h<;>exact ⟨_,_,rfl⟩
theorem Wa {a:Expr} {l:List Expr} (h:akv a=some l):∃ p,a=.List l p:=by cases a<;>cases h<;>exact ⟨_,rfl⟩
theorem agh {a:Expr} {k:List (Option Expr)} {l:List Expr} (h:aqt a=some (k,l)):∃ p,a=.Dict k l p:=by cases a<;>cases h<;>exact ⟨_,rfl⟩
theorem Ov {a l r:Expr} (h:abr a=some (l,r)):∃ p,a=.Subscript l r p:=by cases a<;>cases h<;>exact ⟨_,rfl⟩
theorem akx {a:Expr} {l r s:Option Expr} (h:dSl a=some (l,r,s)):∃ p,a=.Slice l r s p:=by cases a<;>cases h<;>exact ⟨_,rfl⟩
theorem Rr {a f:Expr} {l:List Expr} {k:List Keyword} {p:Pos} (h:dCall a=some (f,l,k,p)):a=.Call f l k p:=by cases a<;>cases h<;>rfl
theorem Ow {a l:Expr} {n:Str} {p:Pos} (h:abt a=some (l,n,p)):a=.Attribute l n p:=by cases a<;>cases h<;>rfl
theorem Fi {a e:Expr} {g:List Comprehension} {s:Scope} (h:Mu a=some (e,g,s)):∃ p,a=.ListComp e g s p:=by cases a<;>cases h<;>exact ⟨_,rfl⟩
noncomputable def Ur (a:Expr):Option (Str×List Expr):=(dCall a).bind λq=>if q.2.2.1.isEmpty then (dName q.1).map λn=>(n,q.2.1) else none
theorem qu {a:Expr} {n:Str} {l:List Expr} (h:Ur a=some (n,l)):∃ p p',a=.Call (.Name n p) l [] p':=by
 obtain ⟨⟨f,l',k,p⟩,h1,h2⟩:=Option.bind_eq_some_iff.mp h;split at h2
 . rename_i hk
   obtain ⟨n',h3,h4⟩:=Option.map_eq_some_iff.mp h2;obtain ⟨p',e⟩:=qi h3;have e:f=_:=e;have hk:k=[]:=List.isEmpty_iff.mp hk;cases h4;exact ⟨p',p,by rw [Rr h1,e,hk]⟩
 . cases h2
noncomputable def dCA (a:Expr):Option (Expr×Str×Pos×List Expr×Pos):=(dCall a).bind λq=>if q.2.2.1.isEmpty then (abt q.1).map λn=>(n.1,n.2.1,n.2.2,q.2.1,q.2.2.2) else none
theorem abw {a o:Expr} {n:Str} {ap p:Pos} {l:List Expr} (h:dCA a=some (o,n,ap,l,p)):a=.Call (.Attribute o n ap) l [] p:=by
 obtain ⟨⟨f,l',k,p'⟩,h1,h2⟩:=Option.bind_eq_some_iff.mp h;split at h2
 . rename_i hk
   obtain ⟨⟨o',n',ap'⟩,h3,h4⟩:=Option.map_eq_some_iff.mp h2;have e:f=_:=Ow h3;have hk:k=[]:=List.isEmpty_iff.mp hk;cases h4;rw [Rr h1,e,hk]
 . cases h2
noncomputable def aqu (l:List Expr):List Str:=l.filterMap dName
noncomputable def j8 (e:Expr):List Str:=match dTup e with | some l=>aqu l | none=>aqu [e]
noncomputable def hid (i:Nat):Str:=⟨#[0,i]⟩
noncomputable def Yc (ts:List Str) (p:Str×Nat):Str:=if ts.contains p.1=true then hid p.2 else p.1
noncomputable def Hz (N ts:List Str):List Str:=N.zipIdx.map (Yc ts) ++ ts
noncomputable def agi (c:Ctx) (names:List (Str×NameKind)):List (Str×NameKind):=names.map λy=>if (y.2 == NameKind.free && c.sc.lookup y.1 == some .cell) then (y.1,NameKind.cell) else (y.1,y.2)
noncomputable def Rt (c:Ctx) (sc:Scope) (ts:List Str):Ctx:=⟨Hz c.N ts,agi c sc.names,false⟩
noncomputable def aky (c:Ctx) (sc:Scope) (ts:List Str):Bool :=
 decide (sc.kind=.function) && (sc.names.all (λy=>!(y.2 == NameKind.cell)) && (sc.names.all (λy=>sc.names.lookup y.1 == some y.2) &&
 (sc.names.all (λy=>!(y.2 == NameKind.free) || (c.sc.lookup y.1 == some .cell || c.sc.lookup y.1 == some .free)) && (decide ((Hz c.N ts).Nodup) &&
 c.N.zipIdx.all (λp=>!(Yb (Rt c sc ts) (Yc ts p)) || (Yc ts p == p.1 && sc.names.lookup (Yc ts p) == some .free))))))
noncomputable def aqv:Vm->Operator
 | .add=>.Add | .Xd=>.Add | .sub=>.Sub | .mul=>.Mult | .fdiv=>.FloorDiv | .mod=>.Mod | .pow=>.Pow
noncomputable def agj:Cp->Option CmpOp
 | .eq=>some .Eq | .ne=>some .NotEq | .lt=>some .Lt | .le=>some .LtE | .gt=>some .Gt | .ge=>some .GtE | .inn=>some .In | .Hc=>some .NotIn
 | .is=>none | .Zz=>none
noncomputable def akz:Nx->Option Str
 | .len=>some "len" | .tuple=>some "tuple" | .dict=>some "dict" | .max=>some "max"
 | .all=>some "all"|_=>none
noncomputable def bmN:Bm->Option Str
 | .append=>some "append" | .index=>some "index"
 | _=>none
noncomputable def ak0 (T:Tab) (c:Ctx) (d:MW.D) (a:Expr):Bool :=
 match d with
 | .int i=>jk (abq a) (λk=>decide (k=.int i)) || jk (dName a) λn=>Ge c n && T.agc.contains (n,i)
 | .bl i=>jk (abq a) λk=>decide (k=.bool i)
 | .non=>jk (abq a) λk=>decide (k=.none)
 | .str s=>jk (abq a) λk=>decide (k=.str s)
 | _=>false
noncomputable def tg1 (c:Ctx) (lo i:Nat) (e:Expr):Bool:=jk (dName e) λn=>V8 c i n && (akr c n && decide (lo <= i))
noncomputable def Yd (c:Ctx) (lo:Nat):List Nat->List Expr->Bool
 | [],[]=>true|i :: is,e :: ts=>tg1 c lo i e && Yd c lo is ts|_,_=>false
noncomputable def tgB (c:Ctx) (lo:Nat) (t:Tg) (e:Expr):Bool :=
 match t with
 | .name i=>tg1 c lo i e|.names is=>jk (dTup e) λts=>Yd c lo is ts
noncomputable def Fj (e:Expr):Bool:=(aku e).isNone
noncomputable def fnB (l:List (Option (Str×Nat))) (f:Nat) (n:Str) (k:Nat):Bool:=decide (l[f]?=some (some (n,k)))
noncomputable def mtB (l:List (Str×Nat)) (f:Nat) (n:Str) (k:Nat):Bool:=decide (l[f]?=some (n,k))
noncomputable def flB (l:List Str) (f:Nat) (n:Str):Bool:=decide (l[f]?=some n)
noncomputable def Wb (c:Ctx) (v:Bool) (k:Nat) (t:Tg) (g:Comprehension) (sc:Scope):Bool :=
 (v && aky c sc (j8 g.target)) && ((k == (j8 g.target).length) && (tgB (Rt c sc (j8 g.target)) c.N.length t g.target && (qg g.iter && decide (g.is_async=0))))
noncomputable def abx (o:BoolOp) (a:Expr) (x y:Expr->Bool):Bool :=
 jk (ahx a) λq=>decide (q.1=o) && (match q.2.1 with
  | l :: r :: rest=>(Fj l && x l) && (match rest with | []=>Fj r && y r | _ :: _=>y (.BoolOp o (r :: rest) q.2.2))
  | _=>false)
noncomputable def aby (c:Ctx) (ty:Str) (a:Expr) (f:Expr->Bool):Bool:=jk (Ur a) λq=>match q.2 with
 | [l,t]=>jk (dName t) λtn=>(decide (q.1 = "isinstance") && decide (tn=ty)) && ((Ge c q.1 && Ge c tn) && (noStar l && f l))
 | _=>false
noncomputable def ak1 (c:Ctx) (a:Expr) (f:Expr->Bool):Bool:=jk (Ur a) λq=>match q.2 with
 | [l,t]=>jk (dTup t) λtl=>match tl with
  | [u,v]=>jk (dName u) λn1=>jk (dName v) λn2=>(decide (q.1 = "isinstance") && (decide (n1 = "tuple") && decide (n2 = "list"))) && ((Ge c q.1 && (Ge c n1 && Ge c n2)) && (noStar l && f l))
  | _=>false
 | _=>false
theorem agk {c:Ctx} {ty:Str} {a:Expr} {f:Expr->Bool} (h:aby c ty a f=true):∃ l p p1 p2,a=.Call (.Name "isinstance" p) [l,.Name ty p1] [] p2/\Ge c "isinstance" = true/\Ge c ty=true/\noStar l=true/\f l=true:=by
 obtain ⟨⟨n,ls⟩,h1,h0⟩:=ao h;clear h;obtain ⟨p,p',rfl⟩:=qu h1
 match ls,h1,h0 with
 | [l,t],h1,h =>
  replace h:=ao (f:=λtn=>(decide (n = "isinstance") && decide (tn=ty)) && ((Ge c n && Ge c tn) && (noStar l && f l))) h;obtain ⟨tn,h2,h⟩:=h;obtain ⟨p2,rfl⟩:=qi h2;simp only [Bool.and_eq_true,decide_eq_true_eq] at h;obtain ⟨⟨rfl,rfl⟩,⟨h3,h4⟩,h5,h6⟩:=h;exact ⟨l,p,p2,p',rfl,h3,h4,h5,h6⟩
 | [],_,h=>cases h|[_],_,h=>cases h|_ :: _ :: _ :: _,_,h=>cases h
theorem agl {c:Ctx} {a:Expr} {f:Expr->Bool} (h:ak1 c a f=true):∃ l p p1 p2 p3 k p4,a=.Call (.Name "isinstance" p) [l,.Tuple [.Name "tuple" p1,.Name "list" p2] k p3] [] p4/\Ge c "isinstance" = true/\Ge c "tuple" = true/\Ge c "list" = true/\noStar l=true/\f l=true:=by
 obtain ⟨⟨n,ls⟩,h1,h0⟩:=ao h;clear h;obtain ⟨p,p',rfl⟩:=qu h1
 match ls,h1,h0 with
 | [l,t],h1,h =>
  replace h:=ao (o:=dTup t) h;obtain ⟨tl,h2,h⟩:=h;obtain ⟨k,p3,rfl⟩:=Cd h2
  match tl,h2,h with
  | [u,v],h2,h =>
   replace h:=ao (o:=dName u) h;obtain ⟨n1,h7,h⟩:=h;replace h:=ao (o:=dName v) h;obtain ⟨n2,h8,h⟩:=h;obtain ⟨q1,rfl⟩:=qi h7;obtain ⟨q2,rfl⟩:=qi h8;simp only [Bool.and_eq_true,decide_eq_true_eq] at h;obtain ⟨⟨rfl,rfl,rfl⟩,⟨h3,h4,h9⟩,h5,h6⟩:=h;exact ⟨l,p,q1,q2,p3,k,p',rfl,h3,h4,h9,h5,h6⟩
  | [],_,h=>cases h|[_],_,h=>cases h|_ :: _ :: _ :: _,_,h=>cases h
 | [],_,h=>cases h|[_],_,h=>cases h|_ :: _ :: _ :: _,_,h=>cases h
mutual
noncomputable def bx (T:Tab):Ex->Ctx->Expr->Bool
 | .var i,c,a=>jk (dName a) λn=>V8 c i n && (Yb c n && J1 n)
 | .cst d,c,a=>ak0 T c d a|.bin op x y,c,a=>jk (aqs a) λq=>decide (q.2.1=aqv op) && (bx T x c q.1 && bx T y c q.2.2)
 | .neg x,c,a=>jk (dUn a) λq=>decide (q.1=.USub) && bx T x c q.2
 | .cmp op x y,c,a=>jk (age a) λq=>jk (Dt q.2.1) λo=>jk (Dt q.2.2) λr=>decide (agj op=some o) && (qg r && (bx T x c q.1 && bx T y c r))
 | .chain o1 o2 x y z,c,a=>jk (age a) λq=>match q.2.1,q.2.2 with
  | [p1,p2],[r,s]=>(decide (agj o1=some p1) && decide (agj o2=some p2)) && (qg s && (bx T x c q.1 && (bx T y c r && bx T z c s)))|_,_=>false
 | .and x y,c,a=>abx .And a (bx T x c) (bx T y c)|.or x y,c,a=>abx .Or a (bx T x c) (bx T y c)|.not x,c,a=>jk (dUn a) λq=>decide (q.1=.Not) && (Fj q.2 && bx T x c q.2)
 | .ite t x y,c,a=>jk (aku a) λq=>Fj q.1 && (bx T t c q.1 && (bx T x c q.2.1 && bx T y c q.2.2))
 | .tup es,c,a=>jk (dTup a) λl=>decide (ji.len es <= 1000) && t7 T es c l
 | .lst es,c,a=>jk (akv a) λl=>decide (ji.len es <= 1000) && t7 T es c l
 | .xj es,c,a=>jk (akv a) λl=>decide (ji.len es <= 1000) && t7 T es c l
 | .Xe,_,a=>jk (aqt a) λq=>q.1.isEmpty && q.2.isEmpty
 | .aec,_,_=>false|.ix x y,c,a=>jk (abr a) λq=>Ig q.2 && (bx T x c q.1 && bx T y c q.2)
 | .cut x lo hi,c,a=>jk (abr a) λq=>jk (dSl q.2) λs=>s.2.2.isNone && (bx T x c q.1 && (abz T lo c s.1 && abz T hi c s.2.1))
 | .call f es,c,a=>jk (Ur a) λq=>(fnB T.fns f q.1 (ji.len es) && (Ge c q.1 && !q.2.isEmpty)) && t7 T es c q.2
 | .make f es,c,a=>jk (Ur a) λq=>(fnB T.cls f q.1 (ji.len es) && (Ge c q.1 && !q.2.isEmpty)) && t7 T es c q.2
 | .meth o m es,c,a=>jk (dCA a) λq=>((mtB T.Tf m q.2.1 (ji.len es) && Dr q.1) && (decide (q.2.2.2.1.length < 29) && (q.2.2.1.endLine == q.2.2.2.2.line))) && (bx T o c q.1 && t7 T es c q.2.2.2.1)
 | .fld o f,c,a=>jk (abt a) λq=>(flB T.Cj f q.2.1 && Dr q.1) && bx T o c q.1
 | .blt .isList (.cons x .nil),c,a=>aby c "list" a (bx T x c)|.blt .isTuple (.cons x .nil),c,a=>aby c "tuple" a (bx T x c)|.blt .isBool (.cons x .nil),c,a=>aby c "bool" a (bx T x c)|.blt .isSeq (.cons x .nil),c,a=>ak1 c a (bx T x c)|.blt b es,c,a=>jk (Ur a) λq=>(decide (akz b=some q.1) && (Ge c q.1 && !q.2.isEmpty)) && t7 T es c q.2
 | .bm m o es,c,a=>jk (dCA a) λq=>((decide (bmN m=some q.2.1) && Dr q.1) && (decide (q.2.2.2.1.length < 29) && ((q.2.2.1.endLine == q.2.2.2.2.line) && !q.2.2.2.1.isEmpty))) && (bx T o c q.1 && t7 T es c q.2.2.2.1)
 | .comp v k t it e,c,a=>jk (Mu a) λq=>jk (Dt q.2.1) λg=>(Wb c v k t g q.2.2 && g.ifs.isEmpty) && (Us T it c g.target g.iter && bx T e (Rt c q.2.2 (j8 g.target)) q.1)
 | .jh v k t it i e,c,a=>jk (Mu a) λq=>jk (Dt q.2.1) λg=>jk (Dt g.ifs) λd=>(Wb c v k t g q.2.2 && Fj d) && (Us T it c g.target g.iter && (bx T i (Rt c q.2.2 (j8 g.target)) d && bx T e (Rt c q.2.2 (j8 g.target)) q.1))
 | .Iu x y,c,a=>jk (age a) λq=>jk (Dt q.2.1) λo=>jk (Dt q.2.2) λr=>jk (Ur q.1) λu=>jk (Ur r) λv=>jk (Dt u.2) λl=>jk (Dt v.2) λm =>
  ((decide (o=.NotEq) && decide (u.1 = "set")) && (decide (v.1 = "set") && Ge c u.1)) && ((noStar l && noStar m) && (bx T x c l && bx T y c m))
 | .T5 x,c,a=>jk (Ur a) λq=>jk (Dt q.2) λr=>jk (Ur r) λu=>jk (Dt u.2) λl=>((decide (q.1 = "tuple") && decide (u.1 = "range")) && (Ge c q.1 && Ge c u.1)) && (noStar l && bx T x c l)
 | .Z0 _,_,_=>false
noncomputable def t7 (T:Tab):ji->Ctx->List Expr->Bool
 | .nil,_,a=>a.isEmpty|.cons e es,c,a=>match a with | l :: ls=>noStar l && (bx T e c l && t7 T es c ls) | _=>false
noncomputable def abz (T:Tab):Qc->Ctx->Option Expr->Bool
 | .none,_,a=>a.isNone|.some e,c,a=>jk a (bx T e c)
noncomputable def Us (T:Tab):xg->Ctx->Expr->Expr->Bool
 | .val e,c,_,a=>bx T e c a|.Ib e,c,_,a=>jk (Ur a) λq=>jk (Dt q.2) λl=>(decide (q.1 = "range") && Ge c q.1) && (noStar l && bx T e c l)
 | .Z1 e,c,tg,a=>jk (Ur a) λq=>jk (Dt q.2) λl=>((dTup tg).isSome && (decide (q.1 = "enumerate") && Ge c q.1)) && (noStar l && bx T e c l)
 | .zip x y,c,tg,a=>jk (Ur a) λq=>match q.2 with
  | [l,r]=>((dTup tg).isSome && (decide (q.1 = "zip") && Ge c q.1)) && ((noStar l && noStar r) && (bx T x c l && bx T y c r))|_=>false
end
section
variable {T:Tab} {nm:Nm} {W:jz} {k:Nat} {c:Ctx} {X:Cx}
theorem Cq (h:mq T nm W k c X) (sc:Scope):(relabel sc X.env).names=agi c sc.names:=by
 unfold relabel agi;refine List.map_congr_left λy _=>?_
 obtain ⟨n,kd⟩:=y;show (if (kd == NameKind.free && X.env.scope.kind == .function && X.env.kindOf n == some .cell)=true then _ else _)=_;have e:(kd == NameKind.free && X.env.scope.kind == .function && X.env.kindOf n == some .cell)=(kd == NameKind.free && c.sc.lookup n == some .cell):=by unfold Env.kindOf;rw [h.kd,h.sc];simp
 rw [e]
theorem ak2 (h:mq T nm W k c X) {sc:Scope} {ts:List Str} (hb:aky c sc ts=true):su X (Hz c.N ts) sc/\∀ C fp s H,mq T nm W k (Rt c sc ts) (blk X (Hz c.N ts) sc C fp s H):=by
 simp only [aky,Bool.and_eq_true,decide_eq_true_eq,List.all_eq_true] at hb;obtain ⟨h1,h2,h3,h4,h5,h6⟩:=hb;have uniq:∀ x kd,(x,kd)∈sc.names->sc.names.lookup x=some kd:=λx kd m=>by have:=h3 (x,kd) m;simpa using this
 refine ⟨⟨h1,λy m=>by have:=h2 y m;simpa using this,λy m e=>by rw [uniq y.1 y.2 m,e],λy m e=>?_,uniq,?_,λi x hi hx hv=>?_⟩,λC fp s H=>⟨rfl,h5,Cq h sc,h1,h.calm,h.room,(λz=>by cases z),h.tab⟩⟩
 . have:=h4 y m
   rw [e] at this;unfold Env.kindOf;rw [h.sc];simpa using this
 . rw [h.N];simp [Hz]
 . rw [h.N] at hi
   have hl:i < (c.N.zipIdx.map (Yc ts)).length:=by simpa using hi
   unfold Hz at hx;rw [List.getElem?_append_left hl,List.getElem?_map,List.getElem?_zipIdx] at hx;obtain ⟨n,hn⟩:∃ n,c.N[i]?=some n:=⟨c.N[i],by simp [hi]⟩;rw [hn] at hx;have hx:Yc ts (n,i)=x:=by simpa using hx
   have m:(n,i)∈c.N.zipIdx:=by rw [List.mem_iff_getElem?];exact ⟨i,by rw [List.getElem?_zipIdx,hn];simp⟩
   have q:=h6 (n,i) m;rw [hx] at q;have v:Yb (Rt c sc ts) x=true:=by unfold Vis at hv;rw [Cq h] at hv;unfold Yb;show (match (agi c sc.names).lookup x with | some .local=>true | some .cell=>true | some .free=>true | _=>false)=true;rcases hv with e | e | e<;>rw [e]
   rw [v] at q;simp only [Bool.not_true,Bool.false_or,Bool.and_eq_true] at q;rw [h.N,hn];have e1:x=n:=eq_of_beq q.1;exact ⟨by rw [e1],by have:=q.2;simpa using this⟩
theorem aqw {op:Vm} {o:Operator} (h:o=aqv op):jt X (binaryOp o) (rOp nm X.K (MW.qp op)):=by
 subst h;cases op with
 | add=>exact ao8|Xd=>exact akp|sub=>exact ao4|mul=>exact ao5|fdiv=>exact ajw|mod=>exact ao6|pow=>exact ao7
theorem ab0 (hr:gm 8 X.A) {op:Cp} {o:CmpOp} (h:agj op=some o):jt X (compareOp o) (Ky nm X.K op):=by
 have h6:gm 6 X.A:=hr.mono (by decide);cases op with
 | eq=>cases h;exact avm h6|ne=>cases h;exact avn h6|lt=>cases h;exact auy|le=>cases h;exact auz|gt=>cases h;exact au0|ge=>cases h;exact au1|inn=>cases h;exact avo hr|Hc=>cases h;exact afm hr|is=>cases h|Zz=>cases h
theorem Ut (h:mq T nm W k c X) {lo i:Nat} {e:Expr} (hb:tg1 c lo i e=true):∃ n p,e=.Name n p/\X.N[i]?=some n/\L2.Loc X.env.scope n/\(X.fn n=true \/ X.env.scope.names.lookup n=some .local)/\lo <= i:=by obtain ⟨n,h1,h2⟩:=ao hb;obtain ⟨p,rfl⟩:=qi h1;simp only [Bool.and_eq_true,decide_eq_true_eq] at h2;obtain ⟨l1,l2⟩:=akt h h2.2.1;exact ⟨n,p,rfl,slot_of h h2.1,l1,l2,h2.2.2⟩
theorem ab1 (h:mq T nm W k c X) {lo:Nat}:∀ {is:List Nat} {ts:List Expr},Yd c lo is ts=true->zf X ts is/\∀ i∈is,lo <= i
 | [],[],_=>⟨.nil,by simp⟩|[],_ :: _,e=>by cases e|_ :: _,[],e=>by cases e
 | i :: is,a :: ts,e=>by
  unfold Yd at e;rw [Bool.and_eq_true] at e;obtain ⟨n,p,rfl,e1,e2,e3,e4⟩:=Ut h e.1;obtain ⟨g1,g2⟩:=ab1 h e.2;refine ⟨.cons e1 e2 e3 g1,λj hj=>?_⟩;rcases List.mem_cons.mp hj with z | z
  . rw [z];exact e4
  . exact g2 j z
theorem Wc (h:mq T nm W k c X) {lo:Nat} {t:Tg} {e:Expr} (hb:tgB c lo t e=true):PG X e (Vy nm X.K t)/\∀ i∈jc t,lo <= i:=by
 have nd:X.N.Nodup:=by rw [h.N];exact h.nd
 cases t with
 | name i =>
  obtain ⟨n,p,rfl,e1,e2,e3,e4⟩:=Ut h hb;exact ⟨aj0 nd e1 e2 e3,λi hi=>by rw [List.mem_singleton.mp hi];exact e4⟩
 | names is =>
  obtain ⟨ts,h1,h2⟩:=ao hb;obtain ⟨k0,p,rfl⟩:=Cd h1;obtain ⟨g1,g2⟩:=ab1 h h2;exact ⟨ae1 h.calm nd g1,g2⟩
structure Got (nm:Nm) (W:jz) (X:Cx) (a:Expr) (e:Ex):Prop where
 v:PE X a (tE nm W X.K e)
 q:Fj a=true->PT X a (tQ nm W X.K e)
 w:∀ op ls p,a=.BoolOp op ls p->PW X a (tQ nm W X.K e)
noncomputable def aqx:Expr->Bool
 | .BoolOp ..=>false|.UnaryOp .Not _ _=>false|.IfExp ..=>false|.Compare ..=>false|_=>true
theorem dw {a:Expr} {e:Ex} (h:PE X a (tE nm W X.K e)) (hv:aqx a=true):Got nm W X a e:=by
 refine ⟨h,λhq=>ao9 h λwhole=>?_,λop ls p z=>by subst z;cases hv⟩;cases a<;>first | rfl | (cases hv) | skip
 rename_i op x p;cases op<;>first | rfl | cases hv
theorem ak3 (h:mq T nm W k c X) {d:MW.D} {a:Expr} (hb:ak0 T c d a=true):PE X a (tE nm W X.K (.cst d))/\aqx a=true:=by
 cases d with
 | int i =>
  simp only [ak0,Bool.or_eq_true] at hb;rcases hb with hb | hb
  . obtain ⟨k,h1,h2⟩:=ao hb
    obtain ⟨j,p,rfl⟩:=Ii h1;rw [of_decide_eq_true h2];exact ⟨ao0,rfl⟩
  . obtain ⟨n,h1,h2⟩:=ao hb
    obtain ⟨p,rfl⟩:=qi h1;rw [Bool.and_eq_true] at h2;obtain ⟨g1,g2⟩:=uq h h2.1;obtain ⟨t,ht⟩:=h.tab.cs _ _ (List.contains_iff_mem.mp h2.2);exact ⟨ajv g1 ht (dm g2).1,rfl⟩
 | bl i =>
  obtain ⟨k,h1,h2⟩:=ao hb;obtain ⟨j,p,rfl⟩:=Ii h1;rw [of_decide_eq_true h2];exact ⟨auu,rfl⟩
 | non =>
  obtain ⟨k,h1,h2⟩:=ao hb;obtain ⟨j,p,rfl⟩:=Ii h1;rw [of_decide_eq_true h2];exact ⟨ao1,rfl⟩
 | str s =>
  obtain ⟨k,h1,h2⟩:=ao hb;obtain ⟨j,p,rfl⟩:=Ii h1;rw [of_decide_eq_true h2];exact ⟨ao2,rfl⟩
 | _=>cases hb
end
section
variable {T:Tab} {nm:Nm} {W:jz} {k:Nat}
theorem mq.r8 {c:Ctx} {X:Cx} (h:mq T nm W k c X):gm 8 X.A:=h.room.mono (by omega)
theorem mq.mg {c:Ctx} {X:Cx} (h:mq T nm W k c X) {n:Str} (m:n∈Ba):X.mg n=none:=h.tab.bt n m
theorem Ye {es:ji} {c:Ctx} (h:t7 T es c []=true):es=.nil:=by
 cases es with
 | nil=>rfl|cons e es=>simp [t7] at h
theorem Hm {c:Ctx} {lo:Nat}:∀ {is:List Nat} {ts:List Expr},Yd c lo is ts=true->∀ i∈is,lo <= i
 | [],_,_=>by simp|_ :: _,[],e=>by cases e
 | i :: is,a :: ts,e=>by
  unfold Yd at e;rw [Bool.and_eq_true] at e;intro j hj;rcases List.mem_cons.mp hj with z | z
  . obtain ⟨n,h1,h2⟩:=ao e.1
    simp only [Bool.and_eq_true,decide_eq_true_eq] at h2;rw [z];exact h2.2.2
  . exact Hm e.2 j z
theorem Uu {c:Ctx} {lo:Nat} {t:Tg} {e:Expr} (h:tgB c lo t e=true):∀ i∈jc t,lo <= i:=by
 cases t with
 | name j =>
  obtain ⟨n,h1,h2⟩:=ao h;simp only [Bool.and_eq_true,decide_eq_true_eq] at h2;intro i hi;rw [List.mem_singleton.mp hi];exact h2.2.2
 | names is =>
  obtain ⟨ts,h1,h2⟩:=ao h;exact Hm h2
theorem ab2 {N ts:List Str}:(Hz N ts).length - N.length=ts.length:=by simp [Hz]
theorem Fl {c:Ctx} {X:Cx} (hc:mq T nm W k c X) {v:Bool} {j:Nat} {t:Tg} {g:Comprehension} {sc:Scope} (h:Wb c v j t g sc=true) :
 v=true/\qg g.iter=true/\g.is_async=0/\su X (Hz c.N (j8 g.target)) sc/\(∀ C fp s H,mq T nm W k (Rt c sc (j8 g.target)) (blk X (Hz c.N (j8 g.target)) sc C fp s H)) /\
 (∀ C fp s H,PG (blk X (Hz c.N (j8 g.target)) sc C fp s H) g.target (Vy nm X.K t))/\(Hz c.N (j8 g.target)).length - X.N.length=j/\∀ i∈jc t,X.N.length <= i:=by
 simp only [Wb,Bool.and_eq_true,decide_eq_true_eq] at h;obtain ⟨⟨h1,h2⟩,h3,h4,h5,h6⟩:=h;obtain ⟨B,hB⟩:=ak2 hc h2;exact ⟨h1,h5,h6,B,hB,λC fp s H=>(Wc (hB C fp s H) h4).1,by rw [hc.N,ab2];exact (eq_of_beq h3).symm,λi hi=>by rw [hc.N];exact Uu h4 i hi⟩
theorem Wd {o:BoolOp} {a:Expr} {x y:Expr->Bool} (h:abx o a x y=true):(∃ l r p,a=.BoolOp o [l,r] p/\Fj l=true/\x l=true/\Fj r=true/\y r=true) \/
 ∃ l r s rest p,a=.BoolOp o (l :: r :: s :: rest) p/\Fj l=true/\x l=true/\y (.BoolOp o (r :: s :: rest) p)=true:=by
 obtain ⟨⟨o',ls,p⟩,h1,h2⟩:=ao h;cases abv h1;rw [Bool.and_eq_true] at h2;obtain ⟨h3,h2⟩:=h2;cases of_decide_eq_true h3;cases ls with
 | nil=>cases h2
 | cons l ls=>cases ls with
  | nil=>cases h2
  | cons r rest =>
   cases rest with
   | nil =>
    have h2:((Fj l && x l) && (Fj r && y r))=true:=h2;simp only [Bool.and_eq_true] at h2;exact .inl ⟨l,r,p,rfl,h2.1.1,h2.1.2,h2.2.1,h2.2.2⟩
   | cons s rest =>
    have h2:((Fj l && x l) && y (.BoolOp o' (r :: s :: rest) p))=true:=h2;simp only [Bool.and_eq_true] at h2;exact .inr ⟨l,r,s,rest,p,rfl,h2.1.1,h2.1.2,h2.2⟩
theorem ak4 {c:Ctx} {X:Cx} (hc:mq T nm W k c X) {b:Nx} {n:Str} (hb:akz b=some n) (hg:Ge c n=true) {l:Expr} {ls:List Expr} {es:ji} {p p':Pos} (e1:PA X (l :: ls) (Lz nm W X.K es)) (e2:fc (l :: ls)=true):PE X (.Call (.Name n p) (l :: ls) [] p') (tE nm W X.K (.blt b es)):=by
 obtain ⟨g1,g2⟩:=uq hc hg;obtain ⟨d1,d2,d3⟩:=dm g2;simp only [fc,Bool.and_eq_true] at e2;have st:=bh e2.1 ls X.env;have an:=fj (env:=X.env) (pos:=p') e2.2;have mg:n∈Ba->X.mg n=none:=hc.mg;cases b with
 | len=>cases hb;exact aar (id := "len") apu g1 (mg (by decide +kernel)) (by decide +kernel) e1 d3 d1 st an|max=>cases hb;exact aar (id := "max") (aqh hc.calm) g1 (mg (by decide +kernel)) (by decide +kernel) e1 d3 d1 st an|tuple=>cases hb;exact aas (T := "tuple") ae4 g1 (mg (by decide +kernel)) (by decide +kernel) e1 d3 d1 st an|all=>cases hb;exact aar (id := "all") (aqr hc.calm) g1 (mg (by decide +kernel)) (by decide +kernel) e1 d3 d1 st an|dict=>cases hb;exact aas (T := "dict") akm g1 (mg (by decide +kernel)) (by decide +kernel) e1 d3 d1 st an|_=>cases hb
theorem Ox {α:Type} {l:List α} (h:(!l.isEmpty)=true):∃ x r,l=x :: r:=by
 cases l with
 | nil=>cases h|cons x r=>exact ⟨x,r,rfl⟩
set_option maxHeartbeats 2000000 in
mutual
theorem ak:∀ (e:Ex) {c:Ctx} {X:Cx} {a:Expr},mq T nm W k c X->bx T e c a=true->Got nm W X a e
 | .var i,c,X,a,hc,h=>by
  rw [bx] at h;replace h:=ao h;obtain ⟨n,h1,h⟩:=h;obtain ⟨p,rfl⟩:=qi h1;simp only [Bool.and_eq_true] at h;exact dw (aoz (slot_of hc h.1) (aks hc h.2.1) (dm h.2.2).1 (dm h.2.2).2.1) rfl
 | .cst d,c,X,a,hc,h=>by
  rw [bx] at h;obtain ⟨h1,h2⟩:=ak3 hc h;exact dw h1 h2
 | .bin op x y,c,X,a,hc,h=>by
  rw [bx] at h;replace h:=ao h;obtain ⟨⟨l,o,r⟩,h1,h⟩:=h;obtain ⟨p,rfl⟩:=agf h1;simp only [Bool.and_eq_true,decide_eq_true_eq] at h;exact dw (ao3 (aqw h.1) (ak x hc h.2.1).v (ak y hc h.2.2).v) rfl
 | .neg x,c,X,a,hc,h=>by
  rw [bx] at h;replace h:=ao h;obtain ⟨⟨o,l⟩,h1,h⟩:=h;obtain ⟨p,rfl⟩:=abu h1;simp only [Bool.and_eq_true,decide_eq_true_eq] at h;obtain ⟨rfl,h⟩:=h;exact dw (apj (ak x hc h).v) rfl
 | .cmp op x y,c,X,a,hc,h=>by
  rw [bx] at h;replace h:=ao h;obtain ⟨⟨l,o,r⟩,h1,h⟩:=h;obtain ⟨p,rfl⟩:=Ou h1;replace h:=ao h;obtain ⟨o1,h2,h⟩:=h;replace h:=ao h;obtain ⟨r1,h3,h⟩:=h;cases iy h2;cases iy h3;simp only [Bool.and_eq_true,decide_eq_true_eq] at h;have g:=ab0 (nm:=nm) hc.r8 h.1;have m:=Hh h.2.1 o1;exact ⟨apa g (ak x hc h.2.2.1).v (ak y hc h.2.2.2).v m,λ_=>apb g (ak x hc h.2.2.1).v (ak y hc h.2.2.2).v m,λ_ _ _ z=>by cases z⟩
 | .chain o1 o2 x y z,c,X,a,hc,h=>by
  rw [bx] at h;replace h:=ao h;obtain ⟨⟨l,o,r⟩,h1,h⟩:=h;obtain ⟨p,rfl⟩:=Ou h1;dsimp only at h;split at h
  . rename_i p1 p2 r s
    simp only [Bool.and_eq_true,decide_eq_true_eq] at h;have g1:=ab0 (nm:=nm) hc.r8 h.1.1;have g2:=ab0 (nm:=nm) hc.r8 h.1.2;have m:lastMarks [p1,p2] [r,s]=false:=Hh h.2.1 p2;exact ⟨aez g1 g2 (ak x hc h.2.2.1).v (ak y hc h.2.2.2.1).v (ak z hc h.2.2.2.2).v m,λ_=>ae0 g1 g2 (ak x hc h.2.2.1).v (ak y hc h.2.2.2.1).v (ak z hc h.2.2.2.2).v m,λ_ _ _ z=>by cases z⟩
  . cases h
 | .and x y,c,X,a,hc,h=>by
  rw [bx] at h;rcases Wd h with ⟨l,r,p,rfl,h1,h2,h3,h4⟩ | ⟨l,r,s,rest,p,rfl,h1,h2,h3⟩
  . have g1:=ak x hc h2
    have g2:=ak y hc h4;have w:=ahn (pos:=p) (rest:=[]) (g1.q h1) (adk (g2.q h3));exact ⟨ahm g1.v (ahv g2.v),λ_=>w.pt,λ_ _ _ _=>w⟩
  . have g1:=ak x hc h2
    have g2:=ak y hc h3;have w:=ahn (g1.q h1) (g2.w _ _ _ rfl);exact ⟨ahm g1.v g2.v,λ_=>w.pt,λ_ _ _ _=>w⟩
 | .or x y,c,X,a,hc,h=>by
  rw [bx] at h;rcases Wd h with ⟨l,r,p,rfl,h1,h2,h3,h4⟩ | ⟨l,r,s,rest,p,rfl,h1,h2,h3⟩
  . have g1:=ak x hc h2
    have g2:=ak y hc h4;have w:=ape (pos:=p) (rest:=[]) (g1.q h1) (aij (g2.q h3));exact ⟨apc g1.v (ahv g2.v),λ_=>w.pt,λ_ _ _ _=>w⟩
  . have g1:=ak x hc h2
    have g2:=ak y hc h3;have w:=ape (g1.q h1) (g2.w _ _ _ rfl);exact ⟨apc g1.v g2.v,λ_=>w.pt,λ_ _ _ _=>w⟩
 | .not x,c,X,a,hc,h=>by
  rw [bx] at h;replace h:=ao h;obtain ⟨⟨o,l⟩,h1,h⟩:=h;obtain ⟨p,rfl⟩:=abu h1;simp only [Bool.and_eq_true,decide_eq_true_eq] at h;obtain ⟨rfl,h⟩:=h;have g:=ak x hc h.2;exact ⟨apd g.v,λ_=>apf (g.q h.1),λ_ _ _ z=>by cases z⟩
 | .ite t x y,c,X,a,hc,h=>by
  rw [bx] at h;replace h:=ao h;obtain ⟨⟨t',l,r⟩,h1,h⟩:=h;obtain ⟨p,rfl⟩:=agg h1;simp only [Bool.and_eq_true] at h;exact ⟨apg ((ak t hc h.2.1).q h.1) (ak x hc h.2.2.1).v (ak y hc h.2.2.2).v,(λz=>by cases z),λ_ _ _ z=>by cases z⟩
 | .tup es,c,X,a,hc,h=>by
  rw [bx] at h;replace h:=ao h;obtain ⟨l,h1,h⟩:=h;obtain ⟨k0,p,rfl⟩:=Cd h1;simp only [Bool.and_eq_true,decide_eq_true_eq] at h;exact dw (aph (j9 es hc h.2).1 h.1) rfl
 | .lst es,c,X,a,hc,h=>by
  rw [bx] at h;replace h:=ao h;obtain ⟨l,h1,h⟩:=h;obtain ⟨p,rfl⟩:=Wa h1;simp only [Bool.and_eq_true,decide_eq_true_eq] at h;exact dw (api (j9 es hc h.2).1 h.1) rfl
 | .xj es,c,X,a,hc,h=>by
  rw [bx] at h;replace h:=ao h;obtain ⟨l,h1,h⟩:=h;obtain ⟨p,rfl⟩:=Wa h1;simp only [Bool.and_eq_true,decide_eq_true_eq] at h;exact dw (ajx (j9 es hc h.2).1 h.1) rfl
 | .Xe,c,X,a,hc,h=>by
  rw [bx] at h;replace h:=ao h;obtain ⟨⟨q,l⟩,h1,h⟩:=h;obtain ⟨p,rfl⟩:=agh h1;simp only [Bool.and_eq_true,List.isEmpty_iff] at h;obtain ⟨rfl,rfl⟩:=h;exact dw akb rfl
 | .aec,c,X,a,hc,h=>by rw [bx] at h;cases h
 | .ix x y,c,X,a,hc,h=>by
  rw [bx] at h;replace h:=ao h;obtain ⟨⟨l,r⟩,h1,h⟩:=h;obtain ⟨p,rfl⟩:=Ov h1;simp only [Bool.and_eq_true] at h;exact dw (au3 (Vl hc.room) (ak x hc h.2.1).v (ak y hc h.2.2).v (aak h.1)) rfl
 | .cut x lo hi,c,X,a,hc,h=>by
  rw [bx] at h;replace h:=ao h;obtain ⟨⟨l,r⟩,h1,h⟩:=h;obtain ⟨p,rfl⟩:=Ov h1;replace h:=ao h;obtain ⟨⟨u,v,st⟩,h2,h⟩:=h;obtain ⟨p2,e⟩:=akx h2;have e:r=_:=e;subst e;simp only [Bool.and_eq_true,Option.isNone_iff_eq_none] at h;obtain ⟨rfl,h⟩:=h;exact dw (aqi (ak x hc h.1).v (We lo hc h.2.1) (We hi hc h.2.2)) rfl
 | .call f es,c,X,a,hc,h=>by
  rw [bx] at h;replace h:=ao h;obtain ⟨⟨n,ls⟩,h1,h⟩:=h;obtain ⟨p,p',rfl⟩:=qu h1;simp only [Bool.and_eq_true] at h;obtain ⟨⟨h2,h3,h4⟩,h5⟩:=h;obtain ⟨l,ls,rfl⟩:=Ox h4;obtain ⟨fa,fd,ps,F,m,kp,b⟩:=hc.tab.fn _ _ _ (of_decide_eq_true h2);obtain ⟨g1,g2⟩:=uq hc h3;obtain ⟨e1,e2⟩:=j9 es hc h5;simp only [fc,Bool.and_eq_true] at e2;exact dw (s_call F (hc.room.mono (by omega)) g1 m kp b rfl e1 (dm g2).1 (bh e2.1 _ _) (fj e2.2)) rfl
 | .make f es,c,X,a,hc,h=>by
  rw [bx] at h;replace h:=ao h;obtain ⟨⟨n,ls⟩,h1,h⟩:=h;obtain ⟨p,p',rfl⟩:=qu h1;simp only [Bool.and_eq_true] at h;obtain ⟨⟨h2,h3,h4⟩,h5⟩:=h;obtain ⟨l,ls,rfl⟩:=Ox h4;obtain ⟨C,fa,fd,ps,cl,M0,F,m,b,d1,d2⟩:=hc.tab.cl _ _ _ (of_decide_eq_true h2);obtain ⟨g1,g2⟩:=uq hc h3;obtain ⟨e1,e2⟩:=j9 es hc h5;simp only [fc,Bool.and_eq_true] at e2;exact dw (aj8 M0 F (hc.room.mono (by omega)) g1 m b d1 rfl d2 rfl e1 (dm g2).1 (bh e2.1 _ _) (fj e2.2)) rfl
 | .meth o m es,c,X,a,hc,h=>by
  rw [bx] at h;replace h:=ao h;obtain ⟨⟨lo,n,ap,ls,p⟩,h0,h⟩:=h;cases abw h0;simp only [Bool.and_eq_true,decide_eq_true_eq] at h;obtain ⟨⟨⟨h1,h2⟩,h3,h4⟩,h5,h6⟩:=h;obtain ⟨C,fa,fd,ps,f,C0,Me,F,b,u,nf⟩:=hc.tab.mt _ _ _ (of_decide_eq_true h1);obtain ⟨e1,e2⟩:=j9 es hc h6;have g:=ak o hc h5;cases ls with
  | nil =>
   have z:=Ye h6;subst z;exact dw (af2 (ci:=0) (cl:=⟨0,[]⟩) g.v C0 Me F (hc.room.mono (by omega)) b u nf (V9 h2 rfl h3 h4)) rfl
  | cons l ls =>
   have e3:=e2;simp only [fc,Bool.and_eq_true] at e3;exact dw (aj9 (ci:=0) (cl:=⟨0,[]⟩) g.v C0 Me F (hc.room.mono (by omega)) b u nf rfl e1 (bh e3.1 _ _) (fj e3.2) (V9 h2 e2 h3 h4)) rfl
 | .fld o f,c,X,a,hc,h=>by
  rw [bx] at h;replace h:=ao h;obtain ⟨⟨l,n,p⟩,h1,h⟩:=h;cases Ow h1;simp only [Bool.and_eq_true] at h;obtain ⟨t1,t2⟩:=hc.tab.fl _ _ (of_decide_eq_true h.1.1);exact dw (apk t1 t2 (ak o hc h.2).v (yx h.1.2)) rfl
 | .blt b es,c,X,a,hc,h=>by
  have gen:(jk (Ur a) λq=>(decide (akz b=some q.1) && (Ge c q.1 && !q.2.isEmpty)) && t7 T es c q.2)=true->Got nm W X a (.blt b es):=λhh=>by clear h;replace hh:=ao hh;obtain ⟨⟨n,ls⟩,h1,h⟩:=hh;obtain ⟨p,p',rfl⟩:=qu h1;simp only [Bool.and_eq_true] at h;obtain ⟨⟨h2,h3,h4⟩,h5⟩:=h;obtain ⟨l,ls,rfl⟩:=Ox h4;obtain ⟨e1,e2⟩:=j9 es hc h5;exact dw (ak4 hc (of_decide_eq_true h2) h3 e1 e2) rfl
  have isi:∀ {x:Ex} {bb:Nx} {Ts:String} {ty:Str},(∀ ι H M M' x v d,az nm X.K ι H M->Rep X.K ι H x v->MW.dj bb [x] M=.ok d M'->M'=M/\∃ b ty,d=.bl b/\Am X.K H v ty/\PySem.W.kitOne X.K ty (.type Ts)=some b)->X.mg ty=none->bootBuiltins ty=some (.type Ts) ->
   (∀ l,bx T x c l=true->PE X l (tE nm W X.K x))->aby c ty a (bx T x c)=true->Got nm W X a (.blt bb (.cons x .nil)):=λhk hm hv rec hi=>by
   obtain ⟨l,p,p1,p2,rfl,h3,h4,h5,h6⟩:=agk hi;obtain ⟨g1,g2⟩:=uq hc h3;obtain ⟨g3,g4⟩:=uq hc h4;exact dw (abi hk g1 (hc.mg (by decide +kernel)) (by decide +kernel) (dm g2).2.2 (dm g2).1 g3 hm hv (dm g4).2.2 (dm g4).1 (rec l h6) (bh h5 _ _) (bh rfl _ _) (fj rfl)) rfl
  match b,es,h,gen with
  | .isList,.cons x .nil,h,_=>exact isi (abj (Jz X.K)) (hc.mg (by decide +kernel)) (by decide +kernel) (λl q=>(ak x hc q).v) h
  | .isTuple,.cons x .nil,h,_=>exact isi (X8 (kit_tuple X.K)) (hc.mg (by decide +kernel)) (by decide +kernel) (λl q=>(ak x hc q).v) h
  | .isBool,.cons x .nil,h,_=>exact isi (abo (abp X.K)) (hc.mg (by decide +kernel)) (by decide +kernel) (λl q=>(ak x hc q).v) h
  | .isSeq,.cons x .nil,h,_ =>
   obtain ⟨l,p,p1,p2,p3,k0,p4,rfl,h3,h4,h5,h6,h7⟩:=agl (show ak1 c a (bx T x c)=true from h);obtain ⟨g1,g2⟩:=uq hc h3;exact dw (agb (J0 (a:=true) (b:=false) (Ff _ _) (Jz X.K _ (by simp))) (J0 (a:=false) (b:=true) (kit_tuple X.K _ (by simp)) (Ff _ _)) (agd X.K) g1 (hc.mg (by decide +kernel)) (by decide +kernel) (dm g2).2.2 (dm g2).1
    (uq hc h4).1 (hc.mg (by decide +kernel)) (uq hc h5).1 (hc.mg (by decide +kernel)) (ak x hc h7).v (bh h6 _ _) (fj rfl)) rfl
  | .isList,.nil,h,gen=>exact gen h|.isTuple,.nil,h,gen=>exact gen h|.isBool,.nil,h,gen=>exact gen h|.isSeq,.nil,h,gen=>exact gen h|.isList,.cons _ (.cons _ _),h,gen=>exact gen h|.isTuple,.cons _ (.cons _ _),h,gen=>exact gen h|.isBool,.cons _ (.cons _ _),h,gen=>exact gen h|.isSeq,.cons _ (.cons _ _),h,gen=>exact gen h|.len,_,h,gen=>exact gen h|.tuple,_,h,gen=>exact gen h|.list,_,h,gen=>exact gen h|.max,_,h,gen=>exact gen h|.min,_,h,gen=>exact gen h|.sum,_,h,gen=>exact gen h|.sorted,_,h,gen=>exact gen h|.dict,_,h,gen=>exact gen h|.all,_,h,gen=>exact gen h|.isInt,_,h,gen=>exact gen h|.Vn,_,h,gen=>exact gen h
 | .bm m o es,c,X,a,hc,h=>by
  rw [bx] at h;replace h:=ao h;obtain ⟨⟨lo,n,ap,ls,p⟩,h0,h⟩:=h;cases abw h0;simp only [Bool.and_eq_true,decide_eq_true_eq] at h;obtain ⟨⟨⟨h1,h2⟩,h3,h4,h4'⟩,h5,h6⟩:=h;obtain ⟨l,ls,rfl⟩:=Ox h4';obtain ⟨e1,e2⟩:=j9 es hc h6;have e3:=e2;simp only [fc,Bool.and_eq_true] at e3;have few:((backTo p (starEach (l :: ls) X.env)).all (λx=>!x.1) && (backToKw p (keywordEach [] X.env)).all (λx=>x.1.isSome) && decide ((l :: ls).length+([]:List Keyword).length+(if ([]:List Keyword).isEmpty then 0 else 1) < 30))=true:=by rw [J5 e2];simp [keywordEach,backToKw];simp at h3;omega
  have g:=ak o hc h5;cases m with
  | append=>cases h1;exact dw (aqg (T := "list") (id := "list.append") (fun ι H M x v S r t=>ty_list (.inl rfl) S r t) PySem.F.plainAttrs_list PySem.F.slot_list_append PySem.F.type_list_append abh g.v e1 (yx h2) few h4 (bh e3.1 _ _) (fj e3.2)) rfl
  | index=>cases h1;exact dw (aqg (T := "list") (id := "list.index") (fun ι H M x v S r t=>ty_list (.inr (.inr rfl)) S r t) PySem.F.plainAttrs_list PySem.F.slot_list_index PySem.F.type_list_index (afq hc.r8) g.v e1 (yx h2) few h4 (bh e3.1 _ _) (fj e3.2)) rfl
  | pop=>cases h1|get=>cases h1
 | .comp v j t it e,c,X,a,hc,h=>by
  rw [bx] at h;replace h:=ao h;obtain ⟨⟨elt,gs,sc⟩,h1,h⟩:=h;obtain ⟨p,rfl⟩:=Fi h1;replace h:=ao h;obtain ⟨⟨tg,iter,ifs,as⟩,h2,h⟩:=h;cases iy h2;simp only [Bool.and_eq_true,List.isEmpty_iff] at h;obtain ⟨⟨h3,rfl⟩,h4,h5⟩:=h;obtain ⟨rfl,q1,q2,B,hB,hg,q3,q4⟩:=Fl hc h3;cases q2;exact dw (aj7 B hc.calm (Fo it hc h4) hg (λC fp s H=>(ak e (hB C fp s H) h5).v) q1 q3 q4) rfl
 | .jh v j t it i e,c,X,a,hc,h=>by
  rw [bx] at h;replace h:=ao h;obtain ⟨⟨elt,gs,sc⟩,h1,h⟩:=h;obtain ⟨p,rfl⟩:=Fi h1;replace h:=ao h;obtain ⟨⟨tg,iter,ifs,as⟩,h2,h⟩:=h;cases iy h2;replace h:=ao h;obtain ⟨d,h6,h⟩:=h;cases iy h6;simp only [Bool.and_eq_true] at h;obtain ⟨⟨h3,h7⟩,h4,h8,h5⟩:=h;obtain ⟨rfl,q1,q2,B,hB,hg,q3,q4⟩:=Fl hc h3;cases q2;exact dw (aao B hc.calm (Fo it hc h4) hg (λC fp s H=>(ak i (hB C fp s H) h8).q h7) (λC fp s H=>(ak e (hB C fp s H) h5).v) q1 q3 q4) rfl
 | .Iu x y,c,X,a,hc,h=>by
  rw [bx] at h;replace h:=ao h;obtain ⟨⟨l0,o,r0⟩,h1,h⟩:=h;obtain ⟨p,rfl⟩:=Ou h1;replace h:=ao h;obtain ⟨o1,h2,h⟩:=h;replace h:=ao h;obtain ⟨r1,h3,h⟩:=h;cases iy h2;cases iy h3;replace h:=ao h;obtain ⟨⟨n,ls⟩,h4,h⟩:=h;replace h:=ao h;obtain ⟨⟨m,ms⟩,h5,h⟩:=h;replace h:=ao h;obtain ⟨l,h6,h⟩:=h;replace h:=ao h;obtain ⟨r,h7,h⟩:=h;cases iy h6;cases iy h7;obtain ⟨p1,q1,e1⟩:=qu h4;obtain ⟨p2,q2,e2⟩:=qu h5;have e1:l0=_:=e1;subst e1 e2;simp only [Bool.and_eq_true,decide_eq_true_eq] at h;obtain ⟨⟨⟨rfl,rfl⟩,rfl,h8⟩,⟨h9,h10⟩,h11,h12⟩:=h;obtain ⟨g1,g2⟩:=uq hc h8;have z:=afn (nm:=nm) (W:=W) (p1:=p1) (p2:=p2) (q1:=q1) (q2:=q2) hc.r8 g1 (hc.mg (by decide +kernel)) (by decide +kernel) (dm g2).2.2 (dm g2).1 (Ax (ak x hc h11).v Jh (bh h9 _ _)) (Ax (ak y hc h12).v Jh (bh h10 _ _)) (bh h9 _ _) (bh h10 _ _) (fj rfl) (fj rfl);exact ⟨aif z,λ_=>aex (aih z) λ_ _ _ q=>q,λ_ _ _ z=>by cases z⟩
 | .T5 x,c,X,a,hc,h=>by
  rw [bx] at h;replace h:=ao h;obtain ⟨⟨n,ls⟩,h1,h⟩:=h;obtain ⟨p,p',rfl⟩:=qu h1;replace h:=ao h;obtain ⟨r,h2,h⟩:=h;cases iy h2;replace h:=ao h;obtain ⟨⟨m,ms⟩,h3,h⟩:=h;obtain ⟨p2,q2,rfl⟩:=qu h3;replace h:=ao h;obtain ⟨l,h4,h⟩:=h;cases iy h4;simp only [Bool.and_eq_true,decide_eq_true_eq] at h;obtain ⟨⟨⟨rfl,rfl⟩,h5,h6⟩,h7,h8⟩:=h;obtain ⟨g1,g2⟩:=uq hc h5;obtain ⟨g3,g4⟩:=uq hc h6;exact dw (ako hc.r8 g1 (hc.mg (by decide +kernel)) (by decide +kernel) (dm g2).2.2 (dm g2).1 g3 (hc.mg (by decide +kernel)) (by decide +kernel) (dm g4).2.2 (dm g4).1
   (Ax (ak x hc h8).v Jh (bh h7 _ _)) (bh rfl _ _) (fj rfl) (bh h7 _ _) (fj rfl)) rfl
 | .Z0 x,c,X,a,hc,h=>by rw [bx] at h;cases h
theorem j9:∀ (es:ji) {c:Ctx} {X:Cx} {a:List Expr},mq T nm W k c X->t7 T es c a=true->PA X a (Lz nm W X.K es)/\fc a=true
 | .nil,c,X,a,hc,h=>by
  rw [t7] at h;cases List.isEmpty_iff.mp h;exact ⟨Jh,rfl⟩
 | .cons e es,c,X,a,hc,h=>by
  cases a with
  | nil=>simp [t7] at h
  | cons l ls =>
   rw [t7] at h;simp only [Bool.and_eq_true] at h;obtain ⟨g1,g2⟩:=j9 es hc h.2.2;exact ⟨Ax (ak e hc h.2.1).v g1 (bh h.1 _ _),by simp only [fc,Bool.and_eq_true];exact ⟨h.1,g2⟩⟩
theorem We:∀ (e:Qc) {c:Ctx} {X:Cx} {a:Option Expr},mq T nm W k c X->abz T e c a=true->PO X a (tO nm W X.K e)
 | .none,c,X,a,hc,h=>by
  rw [abz] at h;cases Option.isNone_iff_eq_none.mp h;exact afu
 | .some e,c,X,a,hc,h=>by
  rw [abz] at h;replace h:=ao h;obtain ⟨l,rfl,h⟩:=h;exact afv (ak e hc h).v
theorem Fo:∀ (it:xg) {c:Ctx} {X:Cx} {tg a:Expr},mq T nm W k c X->Us T it c tg a=true->PI X tg a (tI nm W X.K it)
 | .val e,c,X,tg,a,hc,h=>by
  rw [Us] at h;exact apr (ak e hc h).v
 | .Ib e,c,X,tg,a,hc,h=>by
  rw [Us] at h;replace h:=ao h;obtain ⟨⟨n,ls⟩,h1,h⟩:=h;obtain ⟨p,p',rfl⟩:=qu h1;replace h:=ao h;obtain ⟨l,h2,h⟩:=h;cases iy h2;simp only [Bool.and_eq_true,decide_eq_true_eq] at h;obtain ⟨⟨rfl,h3⟩,h4,h5⟩:=h;exact aps (uq hc h3).1 (hc.mg (by decide +kernel)) (ak e hc h5).v h4
 | .Z1 e,c,X,tg,a,hc,h=>by
  rw [Us] at h;replace h:=ao h;obtain ⟨⟨n,ls⟩,h1,h⟩:=h;obtain ⟨p,p',rfl⟩:=qu h1;replace h:=ao h;obtain ⟨l,h2,h⟩:=h;cases iy h2;simp only [Bool.and_eq_true,decide_eq_true_eq] at h;obtain ⟨⟨h6,rfl,h3⟩,h4,h5⟩:=h;obtain ⟨ts,h7⟩:=Option.isSome_iff_exists.mp h6;obtain ⟨k0,pt,rfl⟩:=Cd h7;exact aql (uq hc h3).1 (hc.mg (by decide +kernel)) (ak e hc h5).v h4
 | .zip x y,c,X,tg,a,hc,h=>by
  obtain ⟨⟨n,ls⟩,h1,h0⟩:=ao (show (jk (Ur a) λq=>match q.2 with
   | [l,r]=>((dTup tg).isSome && (decide (q.1 = "zip") && Ge c q.1)) && ((noStar l && noStar r) && (bx T x c l && bx T y c r))|_=>false)=true from h)
  obtain ⟨p,p',rfl⟩:=qu h1
  match ls,h1,h0 with
  | [l,r],h1,h =>
   replace h:(((dTup tg).isSome && (decide (n = "zip") && Ge c n)) && ((noStar l && noStar r) && (bx T x c l && bx T y c r)))=true:=h;simp only [Bool.and_eq_true,decide_eq_true_eq] at h;obtain ⟨⟨h6,rfl,h3⟩,⟨h4,h5⟩,h7,h8⟩:=h;obtain ⟨ts,h9⟩:=Option.isSome_iff_exists.mp h6;obtain ⟨k0,pt,rfl⟩:=Cd h9;exact aqq (uq hc h3).1 (hc.mg (by decide +kernel)) (ak x hc h7).v h4 (ak y hc h8).v h5 (fj (by simp [fc,h5]))
  | [],_,h=>cases h|[_],_,h=>cases h|_ :: _ :: _ :: _,_,h=>cases h
end
end
noncomputable def ak5 (T:Tab) (c:Ctx) (l:Lv) (e:Ex) (tg v:Expr):Bool :=
 match l with
 | .tg t=>(tgB c 0 t tg && ((zb v && ((dName tg).isSome || aho v)) || (match t with | .name _=>(Mu v).isSome | _=>false))) && bx T e c v
 | .sub o i=>jk (abr tg) λq=>(zb v && Ig q.2) && (bx T e c v && (bx T o c q.1 && bx T i c q.2))
 | .fld o f=>jk (abt tg) λq=>(zb v && flB T.Cj f q.2.1) && (bx T e c v && bx T o c q.1)
noncomputable def aqy:Stmt->Option (List Expr×Expr) | .Assign t v _=>some (t,v) | _=>none
noncomputable def aqz:Stmt->Option Expr | .Expr v _=>some v | _=>none
noncomputable def aq0:Stmt->Option (Expr×List Stmt×List Stmt) | .If t l r _=>some (t,l,r) | _=>none
noncomputable def aq1:Stmt->Option (Expr×List Stmt×List Stmt) | .While t l r _=>some (t,l,r) | _=>none
noncomputable def aq2:Stmt->Option (Expr×Expr×List Stmt×List Stmt) | .For t i l r _=>some (t,i,l,r) | _=>none
noncomputable def aq3:Stmt->Option (Option Expr) | .Return v _=>some v | _=>none
noncomputable def aq4:Stmt->Option Nat | .Break _=>some 0 | .Continue _=>some 1 | .Pass _=>some 2 | _=>none
theorem agm {a:Stmt} {t:List Expr} {v:Expr} (h:aqy a=some (t,v)):∃ p,a=.Assign t v p:=by cases a<;>cases h<;>exact ⟨_,rfl⟩
theorem agn {a:Stmt} {v:Expr} (h:aqz a=some v):∃ p,a=.Expr v p:=by cases a<;>cases h<;>exact ⟨_,rfl⟩
theorem ago {a:Stmt} {t:Expr} {l r:List Stmt} (h:aq0 a=some (t,l,r)):∃ p,a=.If t l r p:=by cases a<;>cases h<;>exact ⟨_,rfl⟩
theorem agp {a:Stmt} {t:Expr} {l r:List Stmt} (h:aq1 a=some (t,l,r)):∃ p,a=.While t l r p:=by cases a<;>cases h<;>exact ⟨_,rfl⟩
theorem agq {a:Stmt} {t i:Expr} {l r:List Stmt} (h:aq2 a=some (t,i,l,r)):∃ p,a=.For t i l r p:=by cases a<;>cases h<;>exact ⟨_,rfl⟩
theorem agr {a:Stmt} {v:Option Expr} (h:aq3 a=some v):∃ p,a=.Return v p:=by cases a<;>cases h<;>exact ⟨_,rfl⟩
theorem ags {a:Stmt} {n:Nat} (h:aq4 a=some n):(n=0/\∃ p,a=.Break p) \/ (n=1/\∃ p,a=.Continue p) \/ (n=2/\∃ p,a=.Pass p):=by
 cases a<;>cases h
 . exact .inr (.inr ⟨rfl,_,rfl⟩)
 . exact .inl ⟨rfl,_,rfl⟩
 . exact .inr (.inl ⟨rfl,_,rfl⟩)
mutual
noncomputable def Ia (T:Tab):mj->Ctx->Stmt->Bool
 | .asg l e,c,a=>jk (aqy a) λq=>jk (Dt q.1) λt=>ak5 T c l e t q.2
 | .expr e,c,a=>jk (aqz a) λv=>zb v && bx T e c v
 | .iff t x y,c,a=>jk (aq0 a) λq=>Fj q.1 && (bx T t c q.1 && (Cr T x c q.2.1 && Cr T y c q.2.2))
 | .whl t x,c,a=>jk (aq1 a) λq=>(Fj q.1 && q.2.2.isEmpty) && (bx T t c q.1 && Cr T x c q.2.1)
 | .for_ t it x,c,a=>jk (aq2 a) λq=>(tgB c 0 t q.1 && (qg q.2.1 && q.2.2.2.isEmpty)) && (Us T it c q.1 q.2.1 && Cr T x c q.2.2.1)
 | .ret e,c,a=>jk (aq3 a) λv=>jk v (bx T e c)
 | .aed,_,_=>false|.brk,_,_=>false|.cont,_,a=>decide (aq4 a=some 1)|.pass,_,_=>false|.raise _ _,_,_=>true
noncomputable def Cr (T:Tab):bw->Ctx->List Stmt->Bool
 | .nil,_,a=>a.isEmpty|.cons s r,c,a=>match a with | st :: rest=>Ia T s c st && Cr T r c rest | _=>false
end
section
variable {T:Tab} {nm:Nm} {W:jz} {k:Nat} {c:Ctx} {X:Cx}
noncomputable def swB (c:Ctx) (t:Str) (pt vp:Pos) (sc:Scope):Bool:=(c.sc.lookup t == some NameKind.local && pt.line == vp.line) && !(sc.names.any λy=>y.1 == t && (y.2 == .local || y.2 == .cell))
theorem Uv (hc:mq T nm W k c X) {elt:Expr} {gs:List Comprehension} {sc:Scope} {vp pt:Pos} {t:Str} {l:Nat}:swapsWith (.ListComp elt gs sc vp) (some (.Name t pt)) l X.env=pure (swB c t pt vp sc):=by
 have b:X.env.blockKind=.function:=by unfold Env.blockKind;rw [hc.kd];rfl
 show (pure (X.env.blockKind == .function && X.env.kindOf t == some .local && pt.line == vp.line && !(sc.names.any λ(n,k)=>n == t && (k == .local || k == .cell))):Sem Bool)=_;rw [b];unfold Env.kindOf;rw [hc.sc];simp [swB]
theorem Yg {a:Expr} {q:Expr×List Comprehension×Scope} (hq:Mu a=some q) (e:Ex) (h:bx T e c a=true):(∃ v j t it x,e=.comp v j t it x) \/ ∃ v j t it i x,e=.jh v j t it i x:=by
 obtain ⟨elt,gs,sc⟩:=q;obtain ⟨p,rfl⟩:=Fi hq;have no:∀ {α:Type} (f:α->Bool),jk (none:Option α) f=true->False:=λf z=>by cases z
 cases e with
 | comp v j t it x=>exact .inl ⟨_,_,_,_,_,rfl⟩|jh v j t it q x=>exact .inr ⟨_,_,_,_,_,_,rfl⟩|cst d=>rw [bx] at h;cases d<;>cases h|Z0 _=>rw [bx] at h;cases h
 | blt b es =>
  exfalso
  cases b<;>first | (cases h;done) | (cases es with
   | nil=>cases h|cons x r=>cases r<;>cases h)
 | _=>rw [bx] at h;cases h
theorem ab3 (hc:mq T nm W k c X) {i:Nat} {tg v:Expr} {p:Pos} {e:Ex} (ht:tgB c 0 (.name i) tg=true) (hv:(Mu v).isSome=true) (h:bx T e c v=true):PS X (.Assign [tg] v p) (tS nm W X.K (.asg (.tg (.name i)) e)):=by
 have nd:X.N.Nodup:=by rw [hc.N];exact hc.nd
 obtain ⟨⟨elt,gs,sc⟩,hq⟩:=Option.isSome_iff_exists.mp hv;obtain ⟨y,py,rfl,hy,_⟩:=Ut (nm:=nm) (W:=W) (k:=k) (T:=T) hc ht;have co:=Yg hq e h;obtain ⟨vp,rfl⟩:=Fi hq;have sw:=λl=>Uv (T:=T) (nm:=nm) (W:=W) (k:=k) hc (elt:=elt) (gs:=gs) (sc:=sc) (vp:=vp) (pt:=py) (t:=y) (l:=l)
 cases hs:swB c y py vp sc with
 | false =>
  rw [hs] at sw;exact aal (ak e hc h).v (Wc hc ht).1 (sw p.line) rfl rfl
 | true =>
  rw [hs] at sw;simp only [swB,Bool.and_eq_true] at hs;have hl:X.env.scope.names.lookup y=some .local:=by rw [hc.sc];have:=hs.1.1;simpa using this
  rcases co with ⟨v,j,t,it,x,rfl⟩ | ⟨v,j,t,it,i',x,rfl⟩
  . rw [bx] at h
    replace h:=ao h;obtain ⟨⟨avx,gs',sc'⟩,h1,h⟩:=h;cases h1;replace h:=ao h;obtain ⟨⟨tg,iter,ifs,as⟩,h2,h⟩:=h;cases iy h2;simp only [Bool.and_eq_true,List.isEmpty_iff] at h;obtain ⟨⟨h3,rfl⟩,h4,h5⟩:=h;obtain ⟨rfl,q1,q2,B,hB,hg,q3,q4⟩:=Fl hc h3;cases q2;exact Xr B hc.calm (Fo it hc h4) hg (λC fp s H=>(ak x (hB C fp s H) h5).v) q1 q3 q4 nd hy hl (sw p.line)
  . rw [bx] at h
    replace h:=ao h;obtain ⟨⟨avx,gs',sc'⟩,h1,h⟩:=h;cases h1;replace h:=ao h;obtain ⟨⟨tg,iter,ifs,as⟩,h2,h⟩:=h;cases iy h2;replace h:=ao h;obtain ⟨d,h6,h⟩:=h;cases iy h6;simp only [Bool.and_eq_true] at h;obtain ⟨⟨h3,h7⟩,h4,h8,h5⟩:=h;obtain ⟨rfl,q1,q2,B,hB,hg,q3,q4⟩:=Fl hc h3;cases q2;exact Q8 B hc.calm (Fo it hc h4) hg (λC fp s H=>(ak i' (hB C fp s H) h8).q h7) (λC fp s H=>(ak x (hB C fp s H) h5).v) q1 q3 q4 nd hy hl (sw p.line)
end
section
variable {T:Tab} {nm:Nm} {W:jz} {k:Nat}
theorem agt {c:Ctx} {X:Cx} (hc:mq T nm W k c X) {l:Lv} {e:Ex} {tg v:Expr} {p:Pos} (h:ak5 T c l e tg v=true):PS X (.Assign [tg] v p) (tS nm W X.K (.asg l e)):=by
 cases l with
 | tg t =>
  simp only [ak5,Bool.and_eq_true,Bool.or_eq_true] at h;obtain ⟨⟨h1,h2⟩,h3⟩:=h;rcases h2 with ⟨h4,h5⟩ | h4
  . have g:=Wc (nm:=nm) hc h1
    have sh:(∃ n q,tg=.Name n q) \/ ∃ ts k0 q,tg=.Tuple ts k0 q:=by
     cases t with
     | name i =>
      obtain ⟨n,z1,_⟩:=ao h1;exact .inl ⟨n,qi z1⟩
     | names is =>
      obtain ⟨ts,z1,_⟩:=ao h1;exact .inr ⟨ts,Cd z1⟩
    rcases sh with ⟨n,q,rfl⟩ | ⟨ts,k0,q,rfl⟩
    . exact aal (ak e hc h3).v g.1 (Dm h4 _ _ _) rfl rfl
    . have w:aho v=true:=by
       rcases h5 with h5 | h5
       . cases h5
       . exact h5
      have w2:swappedStores [.Tuple ts k0 q] v X.env=pure none:=by cases v<;>first | rfl | (cases w;done)
      exact aal (ak e hc h3).v g.1 (Dm h4 _ _ _) w2 rfl
  . cases t with
    | name i=>exact ab3 hc h1 h4 h3|names _=>cases h4
 | sub o i =>
  replace h:=ao (show jk (abr tg) _=true from h);obtain ⟨⟨lo,li⟩,h0,h⟩:=h;obtain ⟨p',rfl⟩:=Ov h0;simp only [Bool.and_eq_true] at h;obtain ⟨⟨h1,h2⟩,h3,h4,h5⟩:=h;refine aap (Vl hc.room) (ak e hc h3).v (ak o hc h4).v (ak i hc h5).v h1 λv=>?_
  cases li<;>first | rfl | (cases h2;done)
 | fld o f =>
  replace h:=ao (show jk (abt tg) _=true from h);obtain ⟨⟨lo,n,p'⟩,h0,h⟩:=h;cases Ow h0;simp only [Bool.and_eq_true] at h;obtain ⟨⟨h1,h2⟩,h3,h4⟩:=h;obtain ⟨t1,t2⟩:=hc.tab.fl _ _ (of_decide_eq_true h2);exact aaq t1 t2 (ak e hc h3).v (ak o hc h4).v h1
mutual
theorem agu:∀ (s:mj) {c:Ctx} {X:Cx} {a:Stmt},mq T nm W k c X->c.fn=true->Ia T s c a=true->PS X a (tS nm W X.K s)
 | .asg l e,c,X,a,hc,hf,h=>by
  rw [Ia] at h;replace h:=ao h;obtain ⟨⟨ts,v⟩,h1,h⟩:=h;obtain ⟨p,rfl⟩:=agm h1;replace h:=ao h;obtain ⟨t,h2,h⟩:=h;cases iy h2;exact agt hc h
 | .expr e,c,X,a,hc,hf,h=>by
  rw [Ia] at h;replace h:=ao h;obtain ⟨v,h1,h⟩:=h;obtain ⟨p,rfl⟩:=agn h1;simp only [Bool.and_eq_true] at h;exact aj1 (ak e hc h.2).v (Ay h.1 _ _ _)
 | .iff t x y,c,X,a,hc,hf,h=>by
  rw [Ia] at h;replace h:=ao h;obtain ⟨⟨q,l,r⟩,h1,h⟩:=h;obtain ⟨p,rfl⟩:=ago h1;simp only [Bool.and_eq_true] at h;exact apm ((ak t hc h.2.1).q h.1) (xx x hc hf h.2.2.1) (xx y hc hf h.2.2.2)
 | .whl t x,c,X,a,hc,hf,h=>by
  rw [Ia] at h;replace h:=ao h;obtain ⟨⟨q,l,r⟩,h1,h⟩:=h;obtain ⟨p,rfl⟩:=agp h1;simp only [Bool.and_eq_true,List.isEmpty_iff] at h;obtain ⟨⟨h2,rfl⟩,h3,h4⟩:=h;exact apn (hc.fnl hf).2 ((ak t hc h3).q h2) (xx x hc hf h4)
 | .for_ t it x,c,X,a,hc,hf,h=>by
  rw [Ia] at h;replace h:=ao h;obtain ⟨⟨tg,iter,l,r⟩,h1,h⟩:=h;obtain ⟨p,rfl⟩:=agq h1;simp only [Bool.and_eq_true,List.isEmpty_iff] at h;obtain ⟨⟨h2,h3,rfl⟩,h4,h5⟩:=h;exact apq (hc.fnl hf).2 hc.calm (Fo it hc h4) (Wc hc h2).1 (xx x hc hf h5) h3
 | .ret e,c,X,a,hc,hf,h=>by
  rw [Ia] at h;replace h:=ao h;obtain ⟨v,h1,h⟩:=h;obtain ⟨p,rfl⟩:=agr h1;replace h:=ao h;obtain ⟨w,rfl,h⟩:=h;exact apl (ak e hc h).v
 | .aed,c,X,a,hc,hf,h=>by rw [Ia] at h;cases h|.brk,c,X,a,hc,hf,h=>by rw [Ia] at h;cases h
 | .cont,c,X,a,hc,hf,h=>by
  rw [Ia] at h;rcases ags (of_decide_eq_true h) with ⟨z,_⟩ | ⟨_,p,rfl⟩ | ⟨z,_⟩
  . cases z
  . exact aj2
  . cases z
 | .pass,c,X,a,hc,hf,h=>by rw [Ia] at h;cases h|.raise _ _,c,X,a,hc,hf,h=>af3
theorem xx:∀ (s:bw) {c:Ctx} {X:Cx} {a:List Stmt},mq T nm W k c X->c.fn=true->Cr T s c a=true->Ec X a (tSs nm W X.K s)
 | .nil,c,X,a,hc,hf,h=>by
  rw [Cr] at h;cases List.isEmpty_iff.mp h;exact aj3
 | .cons s r,c,X,a,hc,hf,h=>by
  cases a with
  | nil=>simp [Cr] at h
  | cons st rest =>
   rw [Cr] at h;simp only [Bool.and_eq_true] at h;exact ae2 (agu s hc hf h.1) (xx r hc hf h.2)
end
end
structure Def where
 x:Str
 qual:Str
 N:List Str
 ps:List Str
noncomputable def scB (N ps:List Str) (sc:Scope):Bool :=
 (decide (sc.kind=.function) && (!sc.isCoroutine && !sc.isGenerator)) && ((decide N.Nodup && decide (N.take ps.length=ps)) &&
 (ps.all (λx=>sc.names.lookup x == some .local || sc.names.lookup x == some .cell) && sc.names.all (λy=>!(y.2 == NameKind.free))))
theorem ak6 {N ps:List Str} {sc:Scope} (h:scB N ps sc=true):Ie N ps sc:=by simp only [scB,Bool.and_eq_true,decide_eq_true_eq,Bool.not_eq_true',List.all_eq_true] at h;obtain ⟨⟨h1,h2,h3⟩,⟨h4,h5⟩,h6,h7⟩:=h;exact ⟨h1,h2,h3,h4,h5,λx m=>by have:=h6 x m;simpa using this,λy m=>by have:=h7 y m;simpa using this⟩
noncomputable def Yh (T:Tab) (d:Def) (F:MW.Fn) (st:Stmt):Bool :=
 (scB d.N d.ps (bf st) && (decide (F.np=d.ps.length) && decide (F.ns=d.N.length))) && Cr T F.body ⟨d.N,(bf st).names,true⟩ (bz st)
theorem agv {W:jz} {F:MW.Fn} {ds:List Dv} {M M':Store} {d:Dv} (h:F.run W ds M=.ok d M'):ds.length=F.np/\∃ fl ρ',F.body.den W (ds.map some ++ List.replicate (F.ns - F.np) none) M=.ok (fl,ρ') M'/\(fl=.ret d \/ (fl=.next/\d=.non)):=by
 unfold MW.Fn.run at h;split at h
 . rename_i hl
   obtain ⟨⟨fl,ρ'⟩,M1,e1,e⟩:=aa h;refine ⟨hl,fl,ρ',?_⟩;cases fl with
   | ret z=>cases e;exact ⟨e1,.inl rfl⟩|next=>cases e;exact ⟨e1,.inr ⟨rfl,rfl⟩⟩|brk=>cases e|cont=>cases e
 . cases h
theorem ak7 {T:Tab} {nm:Nm} {k:Nat} {P:Program} {w:World} {K:Fg} {mg:Str->Option Value} {base:Heap} {IR:MW.Prog} {n i:Nat} {F:MW.Fn} {d:Def} {st:Stmt} {f:Addr} {fd:FuncData} (U:Zy K d.x d.qual st f fd) (hF:IR.fns[i]?=some F) (h:Yh T d F st=true)
 (hT:TabOk T nm ⟨IR.call n,IR.cls⟩ k P w K mg base):m5 P w K mg base Nv (k+17) f fd d.ps (Xu nm ⟨IR.call (n+1),IR.cls⟩ K F.np i):=by
 simp only [Yh,Bool.and_eq_true,decide_eq_true_eq] at h;obtain ⟨⟨h1,h2,h3⟩,h4⟩:=h;have S:=ak6 h1;have go:∀ ds M d' M',MW.jz.call ⟨IR.call (n+1),IR.cls⟩ i ds M=.ok d' M'->F.run ⟨IR.call n,IR.cls⟩ ds M=.ok d' M':=λds M d' M' e=>by have e:IR.call (n+1) i ds M=.ok d' M':=e;unfold MW.Prog.call at e;rw [hF] at e;exact e
 refine U.ok (k:=k+16) S (λvs H Q E ⟨ι,M,ds,d',M',_,r,l,e,_⟩=>by rw [<- r.length,l,h2]) (λcdv A outer s H vs Q E hr ⟨ι,M,ds,d',M',SM,r,l,e,q⟩=>?_);have hc:mq T nm ⟨IR.call n,IR.cls⟩ k ⟨d.N,(bf st).names,true⟩ (Tv Nv P w K mg base d.N d.qual (bf st) f cdv A outer s H E).nox :=
  ⟨rfl,S.nd,rfl,S.kind,rfl,hr,λ_=>⟨λ_=>rfl,PassesOwn.never⟩,hT⟩
 refine ⟨_,xx F.body hc rfl h4,?_⟩;obtain ⟨hl,fl,ρ',e1,e2⟩:=agv (go _ _ _ _ e);refine ⟨ι,_,M,fl,ρ',M',SM,?_,e1,fun ι' H' σ' le S' R'=>?_⟩
 . unfold L2.start
   exact (cg.aaf r).append (cg.nones _ (by rw [List.length_replicate,h3,<- r.length,l]))
 . rcases e2 with rfl | ⟨rfl,rfl⟩
   . exact λv rv=>q ι' H' v le S' rv
   . exact q ι' H' _ le S' .non
theorem Wf {nm:Nm} {P:Program} {w:World} {K:Fg} {mg:Str->Option Value} {base:Heap} {IR:MW.Prog} {T:Tab} {D:Nat->Def} {st:Nat->Stmt} {fa:Nat->Addr} {fd:Nat->FuncData}
 (U:∀ i,i < IR.fns.length->Zy K (D i).x (D i).qual (st i) (fa i) (fd i)) (h:∀ i F,IR.fns[i]?=some F->Yh T (D i) F (st i)=true)
 (mk:∀ n,(∀ i F,IR.fns[i]?=some F->m5 P w K mg base Nv (17 * n) (fa i) (fd i) (D i).ps (Xu nm ⟨IR.call n,IR.cls⟩ K F.np i))->TabOk T nm ⟨IR.call n,IR.cls⟩ (17 * n) P w K mg base) :
 ∀ n i F,IR.fns[i]?=some F->m5 P w K mg base Nv (17 * n) (fa i) (fd i) (D i).ps (Xu nm ⟨IR.call n,IR.cls⟩ K F.np i)
 | 0,i,F,hF=>⟨(λvs H Q E ⟨ι,M,ds,d',M',_,r,l,e,_⟩=>by cases e),λA outer s H args us vs Q E hr he hb hv ⟨ι,M,ds,d',M',_,r,l,e,_⟩=>by cases e⟩
 | n+1,i,F,hF=>ak7 (U i (List.getElem?_eq_some_iff.mp hF).1) hF (h i F hF) (mk n (Wf U h mk n))
noncomputable def ak8 (s:Str):Bool:=s.cps[0]? == some 0
noncomputable def ab4 (Cj:List Str):Bool:=decide Cj.Nodup && Cj.all λs=>!ak8 s
noncomputable def Ru (Cj:List Str) (i:Nat):Str:=match Cj[i]? with | some s=>s | none=>⟨#[0,0,i]⟩
theorem ab5 {Cj:List Str} (h:ab4 Cj=true) (i j:Nat) (e:Ru Cj i=Ru Cj j):i=j:=by
 simp only [ab4,Bool.and_eq_true,decide_eq_true_eq,List.all_eq_true] at h;have own:∀ k,ak8 ⟨#[0,0,k]⟩=true:=λk=>rfl
 unfold Ru at e;cases hi:Cj[i]? with
 | some a =>
  rw [hi] at e;cases hj:Cj[j]? with
  | some b =>
   rw [hj] at e;have e:a=b:=e;subst e;obtain ⟨l1,e1⟩:=List.getElem?_eq_some_iff.mp hi;obtain ⟨l2,e2⟩:=List.getElem?_eq_some_iff.mp hj;exact (List.getElem_inj h.1).mp (e1.trans e2.symm)
  | none =>
   rw [hj] at e;have e:a=⟨#[0,0,j]⟩:=e;have:=h.2 a (List.mem_of_getElem? hi);rw [e,own] at this;cases this
 | none =>
  rw [hi] at e;cases hj:Cj[j]? with
  | some b =>
   rw [hj] at e;have e:(⟨#[0,0,i]⟩:Str)=b:=e;have:=h.2 b (List.mem_of_getElem? hj);rw [<- e,own] at this;cases this
  | none =>
   rw [hj] at e;have e:(⟨#[0,0,i]⟩:Str)=⟨#[0,0,j]⟩:=e;simpa using e
noncomputable def ak9 (cas:List (Option Addr)) (Cj:List Str) (h:ab4 Cj=true):Nm:=⟨λc=>(cas[c]?).join,Ru Cj,ab5 h⟩
noncomputable def ab7 (Cj:List Str) (x:Str):Bool:=!(Cj.contains x) && !ak8 x
theorem ab8 {Cj:List Str} {x:Str} (h:ab7 Cj x=true) (i:Nat):Ru Cj i≠x:=λe=>by
 simp only [ab7,Bool.and_eq_true,Bool.not_eq_true'] at h;unfold Ru at e;cases hi:Cj[i]? with
 | some a =>
  rw [hi] at e;have e:a=x:=e;rw [<- e] at h;have:=List.contains_iff_mem.mpr (List.mem_of_getElem? hi);rw [this] at h;cases h.1
 | none =>
  rw [hi] at e;have e:(⟨#[0,0,i]⟩:Str)=x:=e;rw [<- e] at h;cases h.2
section
variable (K:Fg) (mg:Str->Option Value)
noncomputable def Oz:List Def->List Stmt->List Addr->List FuncData->Prop
 | d :: ds,s :: ss,a :: as,f :: fs=>(Zy K d.x d.qual s a f/\Binds K f d.ps [])/\Oz ds ss as fs|[],[],[],[]=>True|_,_,_,_=>False
noncomputable def G4:List (Option (Str×Nat))->List Addr->Prop
 | some p :: r,a :: as=>mg p.1=some (.ref a)/\G4 r as|none :: r,_ :: as=>G4 r as|_,_=>True
noncomputable def Rv (C:Addr) (Tf:List (Str×Nat)) (v9:List Addr):List (Nat×Nat)->Prop
 | q :: r=>(∃ p a,Tf[q.1]?=some p/\v9[q.2]?=some a/\Meth K C p.1 a)/\Rv C Tf v9 r|[]=>True
noncomputable def O1 (C:Addr):List Str->Prop
 | x :: r=>ql K C x/\O1 C r|[]=>True
structure ClF (T:Tab) (v9:List Addr) (x:Str) (C:Addr) (cl:MW.Cl):Prop where
 mg:mg x=some (.ref C)
 cs:Qa K C
 ini:∃ f,v9[cl.init]?=some f/\Mk K C f
 me:Rv K C T.Tf v9 cl.meths
 na:O1 K C T.Cj
noncomputable def Bb (T:Tab) (v9:List Addr):List (Option (Str×Nat))->List (Option Addr)->List MW.Cl->Prop
 | some p :: r,some C :: cs,cl :: cls=>ClF K mg T v9 p.1 C cl/\Bb T v9 r cs cls|none :: r,none :: cs,_ :: cls=>Bb T v9 r cs cls|[],[],[]=>True|_,_,_=>False
noncomputable def O6:List (Str×Int)->Prop
 | p :: r=>(∃ t,mg p.1=some (.int p.2 t))/\O6 r|[]=>True
noncomputable def AllB:List Str->Prop
 | x :: r=>mg x=none/\AllB r|[]=>True
end
section
variable {K:Fg} {mg:Str->Option Value}
theorem Oz.get:∀ {ds:List Def} {ss:List Stmt} {as:List Addr} {fs:List FuncData} {i:Nat} {d:Def},Oz K ds ss as fs->ds[i]?=some d->∃ s a f,ss[i]?=some s/\as[i]?=some a/\fs[i]?=some f/\Zy K d.x d.qual s a f/\Binds K f d.ps []
 | d :: ds,s :: ss,a :: as,f :: fs,0,d',h,e=>by cases e;exact ⟨s,a,f,rfl,rfl,rfl,h.1⟩
 | d :: ds,s :: ss,a :: as,f :: fs,i+1,d',h,e=>by
  obtain ⟨s',a',f',h1,h2,h3,h4⟩:=Oz.get (i:=i) h.2 (by simpa using e);exact ⟨s',a',f',by simpa using h1,by simpa using h2,by simpa using h3,h4⟩
theorem G4.get:∀ {l:List (Option (Str×Nat))} {as:List Addr} {i:Nat} {p:Str×Nat} {a:Addr},G4 mg l as->l[i]?=some (some p)->as[i]?=some a->mg p.1=some (.ref a)
 | some q :: l,b :: as,0,p,a,h,e,e2=>by cases e;cases e2;exact h.1|none :: l,b :: as,0,p,a,h,e,e2=>by cases e|some q :: l,b :: as,i+1,p,a,h,e,e2=>G4.get (i:=i) h.2 (by simpa using e) (by simpa using e2)|none :: l,b :: as,i+1,p,a,h,e,e2=>G4.get (i:=i) (l:=l) (as:=as) h (by simpa using e) (by simpa using e2)
theorem Rv.get {C:Addr} {Tf:List (Str×Nat)} {v9:List Addr}:∀ {l:List (Nat×Nat)} {q:Nat×Nat},Rv K C Tf v9 l->q∈l->∃ p a,Tf[q.1]?=some p/\v9[q.2]?=some a/\Meth K C p.1 a
 | q' :: l,q,h,m=>by
  rcases List.mem_cons.mp m with z | z
  . rw [z];exact h.1
  . exact Rv.get h.2 z
theorem O1.get {C:Addr}:∀ {l:List Str} {x:Str},O1 K C l->x∈l->ql K C x
 | y :: l,x,h,m=>by
  rcases List.mem_cons.mp m with z | z
  . rw [z];exact h.1
  . exact O1.get h.2 z
theorem Bb.get {T:Tab} {v9:List Addr}:∀ {l:List (Option (Str×Nat))} {cs:List (Option Addr)} {cls:List MW.Cl} {c:Nat} {p:Str×Nat},Bb K mg T v9 l cs cls->l[c]?=some (some p)->∃ C cl,cs[c]?=some (some C)/\cls[c]?=some cl/\ClF K mg T v9 p.1 C cl
 | some q :: l,some C :: cs,cl :: cls,0,p,h,e=>by cases e;exact ⟨C,cl,rfl,rfl,h.1⟩
 | some q :: l,some C :: cs,cl :: cls,c+1,p,h,e=>by
  obtain ⟨C',Q9,h1,h2,h3⟩:=Bb.get (c:=c) h.2 (by simpa using e);exact ⟨C',Q9,by simpa using h1,by simpa using h2,h3⟩
 | none :: l,none :: cs,cl :: cls,0,p,h,e=>by cases e
 | none :: l,none :: cs,cl :: cls,c+1,p,h,e=>by
  obtain ⟨C',Q9,h1,h2,h3⟩:=Bb.get (l:=l) (cs:=cs) (cls:=cls) (c:=c) h (by simpa using e);exact ⟨C',Q9,by simpa using h1,by simpa using h2,h3⟩
theorem Bb.at {T:Tab} {v9:List Addr}:∀ {l:List (Option (Str×Nat))} {cs:List (Option Addr)} {cls:List MW.Cl} {c:Nat} {C:Addr},Bb K mg T v9 l cs cls->cs[c]?=some (some C)->Qa K C/\O1 K C T.Cj
 | some q :: l,some C :: cs,cl :: cls,0,p,h,e=>by cases e;exact ⟨h.1.cs,h.1.na⟩|some q :: l,some C :: cs,cl :: cls,c+1,p,h,e=>Bb.at (c:=c) h.2 (by simpa using e)|none :: l,none :: cs,cl :: cls,0,p,h,e=>by cases e|[],[],_,_,_,_,e=>by simp at e|[],_ :: _,[],_,_,h,_=>h.elim|[],_ :: _,_ :: _,_,_,h,_=>h.elim|none :: l,none :: cs,cl :: cls,c+1,p,h,e=>Bb.at (l:=l) (cs:=cs) (cls:=cls) (c:=c) h (by simpa using e)
theorem O6.get:∀ {l:List (Str×Int)} {x:Str} {i:Int},O6 mg l->(x,i)∈l->∃ t,mg x=some (.int i t)
 | q :: l,x,i,h,m=>by
  rcases List.mem_cons.mp m with z | z
  . rw [<- z] at h;exact h.1
  . exact O6.get h.2 z
theorem AllB.get:∀ {l:List Str} {x:Str},AllB mg l->x∈l->mg x=none
 | q :: l,x,h,m=>by
  rcases List.mem_cons.mp m with z | z
  . rw [z];exact h.1
  . exact AllB.get h.2 z
end
noncomputable def Rw (T:Tab):List MW.Fn->List Def->List Stmt->Bool
 | F :: Fs,d :: ds,s :: ss=>Yh T d F s && Rw T Fs ds ss|[],[],[]=>true|_,_,_=>false
noncomputable def npB (fns:List MW.Fn) (f n:Nat):Bool:=match fns[f]? with | some F=>F.np == n | none=>false
noncomputable def tfB (fns:List MW.Fn) (l:List (Option (Str×Nat))):Bool:=l.zipIdx.all λq=>match q.1 with | some p=>npB fns q.2 p.2 | none=>true
noncomputable def tcB (IR:MW.Prog) (l:List (Option (Str×Nat))):Bool:=l.zipIdx.all λq=>match q.1 with | some p=>(match IR.cls[q.2]? with | some cl=>npB IR.fns cl.init (p.2+1) | none=>false) | none=>true
noncomputable def av0 (cls:List MW.Cl) (m c f:Nat):Bool:=cls.zipIdx.all λq=>match q.1.meths.lookup m with | none=>true | some g=>q.2 == c && g == f
noncomputable def tmB (IR:MW.Prog) (T:Tab) (mcs:List (Nat×Nat)):Bool:=T.Tf.zipIdx.all λq=>match mcs[q.2]? with
 | some cf=>(av0 IR.cls q.2 cf.1 cf.2 && (npB IR.fns cf.2 (q.1.2+1) && ab7 T.Cj q.1.1)) && ((match T.cls[cf.1]? with | some (some _)=>true | _=>false) && (match IR.cls[cf.1]? with | some cl=>cl.meths.lookup q.2 == some cf.2 | none=>false))
 | none=>false
theorem zp {α:Type} {l:List α} {g:α×Nat->Bool} (h:l.zipIdx.all g=true) {i:Nat} {x:α} (e:l[i]?=some x):g (x,i)=true:=by rw [List.all_eq_true] at h;exact h (x,i) (by rw [List.mem_iff_getElem?];exact ⟨i,by rw [List.getElem?_zipIdx,e];simp⟩)
theorem Uw {fns:List MW.Fn} {f n:Nat} (h:npB fns f n=true):∃ F,fns[f]?=some F/\F.np=n:=by
 unfold npB at h;split at h
 . rename_i F e;exact ⟨F,e,eq_of_beq h⟩
 . cases h
theorem J6 {T:Tab}:∀ {Fs:List MW.Fn} {ds:List Def} {ss:List Stmt} {i:Nat} {F:MW.Fn},Rw T Fs ds ss=true->Fs[i]?=some F->∃ d s,ds[i]?=some d/\ss[i]?=some s/\Yh T d F s=true
 | F :: Fs,d :: ds,s :: ss,0,F',h,e=>by
  simp only [Rw,Bool.and_eq_true] at h;cases e;exact ⟨d,s,rfl,rfl,h.1⟩
 | F :: Fs,d :: ds,s :: ss,i+1,F',h,e=>by
  simp only [Rw,Bool.and_eq_true] at h;obtain ⟨d',s',h1,h2,h3⟩:=J6 (i:=i) h.2 (by simpa using e);exact ⟨d',s',by simpa using h1,by simpa using h2,h3⟩
 | [],_,_,_,_,_,e=>by simp at e|_ :: _,[],_,_,_,h,_=>by simp [Rw] at h|_ :: _,_ :: _,[],_,_,h,_=>by simp [Rw] at h
theorem ala {P:Program} {w:World} {K:Fg} {mg:Str->Option Value} {base:Heap} {IR:MW.Prog} {T:Tab} {Ds:List Def} {ss:List Stmt} {v9:List Addr} {fds:List FuncData} {cas:List (Option Addr)} {mcs:List (Nat×Nat)}
 (hfl:ab4 T.Cj=true) (hP:Rw T IR.fns Ds ss=true) (h1:tfB IR.fns T.fns=true) (h2:tcB IR T.cls=true) (h3:tmB IR T mcs=true) (aF:Oz K Ds ss v9 fds) (aG:G4 mg T.fns v9) (aC:Bb K mg T v9 T.cls cas IR.cls) (aV:O6 mg T.agc) (aB:AllB mg Ba)
 {n i:Nat} {F:MW.Fn} (hF:IR.fns[i]?=some F) :
 ∃ d a f,Ds[i]?=some d/\v9[i]?=some a/\fds[i]?=some f/\Binds K f d.ps []/\m5 P w K mg base Nv (17 * n) a f d.ps (Xu (ak9 cas T.Cj hfl) ⟨IR.call n,IR.cls⟩ K F.np i):=by
 let dd:Def:=⟨Str.empty,Str.empty,[],[]⟩
 let sd:Stmt:=.Pass ⟨0,0,0,0⟩
 obtain ⟨d,s,g1,g2,g3⟩:=J6 hP hF;have all:∀ (i:Nat) (F:MW.Fn),IR.fns[i]?=some F->∃ d s a f,Ds[i]?=some d/\ss[i]?=some s/\v9[i]?=some a/\fds[i]?=some f/\Zy K d.x d.qual s a f/\Binds K f d.ps []/\Yh T d F s=true:=λi F e=>by obtain ⟨d,s,g1,g2,g3⟩:=J6 hP e;obtain ⟨s',a,f,k1,k2,k3,k4,k5⟩:=aF.get g1;rw [g2] at k1;cases k1;exact ⟨d,s,a,f,g1,g2,k2,k3,k4,k5,g3⟩
 have df:∀ {j:Nat} {a:Addr} {f:FuncData} {d:Def},v9[j]?=some a->fds[j]?=some f->Ds[j]?=some d->(v9[j]?).getD 0=a/\Ds[j]?.getD dd=d:=λe1 e2 e3=>⟨by rw [e1];rfl,by rw [e3];rfl⟩
 obtain ⟨fd0,a4l⟩:∃ fd0:FuncData,True:=by obtain ⟨s',a,f,_⟩:=aF.get g1;exact ⟨f,trivial⟩
 have main:=Wf (nm:=ak9 cas T.Cj hfl) (P:=P) (w:=w) (K:=K) (mg:=mg) (base:=base) (IR:=IR) (T:=T) (D:=λi=>Ds[i]?.getD dd) (st:=λi=>ss[i]?.getD sd) (fa:=λi=>(v9[i]?).getD 0) (fd:=λi=>(fds[i]?).getD fd0)
  (λi hi=>by
   obtain ⟨d,s,a,f,k1,k2,k3,k4,k5,k6,k7⟩:=all i IR.fns[i] (by simp [hi]);rw [k1,k2,k3,k4];exact k5)
  (λi F e=>by
   obtain ⟨d,s,a,f,k1,k2,k3,k4,k5,k6,k7⟩:=all i F e;rw [k1,k2];exact k7)
  (λn G=>?_) n i F hF
 . obtain ⟨d',s',a,f,k1,k2,k3,k4,k5,k6,k7⟩:=all i F hF
   refine ⟨d',a,f,k1,k3,k4,k6,?_⟩;have:=main;rw [k1,k3,k4] at this;exact this
 ·
  have at_:∀ {j:Nat} {F:MW.Fn} {a:Addr},IR.fns[j]?=some F->v9[j]?=some a->∃ (f:FuncData) (d:Def),Binds K f d.ps []/\m5 P w K mg base Nv (17 * n) a f d.ps (Xu (ak9 cas T.Cj hfl) ⟨IR.call n,IR.cls⟩ K F.np j)/\PySem.W.keepIn K (.ref a)=true:=fun {j F a} e1 e2=>by obtain ⟨d,s,a',f,k1,k2,k3,k4,k5,k6,k7⟩:=all j F e1;rw [e2] at k3;cases k3;have g:=G j F e1;rw [k1,e2,k4] at g;exact ⟨f,d,k6,g,k5.kp⟩
  have addr:∀ {j:Nat} {F:MW.Fn},IR.fns[j]?=some F->∃ a,v9[j]?=some a:=fun {j F} e=>by obtain ⟨d,s,a',f,k1,k2,k3,_⟩:=all j F e;exact ⟨a',k3⟩
  refine ⟨λf x m e=>?_,λc x m e=>?_,λm x j e=>?_,λf x e=>?_,λx i m=>aV.get m,λx m=>aB.get m⟩
  . obtain ⟨F,e1,e2⟩:=Uw (zp h1 e)
    obtain ⟨a,e3⟩:=addr e1;obtain ⟨fd,d,b,g,kp⟩:=at_ e1 e3;rw [e2] at g;exact ⟨a,fd,d.ps,g,aG.get e e3,kp,b⟩
  . obtain ⟨C,cl,q1,q2,q3⟩:=aC.get e
    have z:=zp h2 e;simp only [q2] at z;obtain ⟨F,e1,e2⟩:=Uw z;obtain ⟨f,f1,f2⟩:=q3.ini;obtain ⟨fd,d,b,g,kp⟩:=at_ e1 f1;rw [e2] at g;exact ⟨C,f,fd,d.ps,cl,f2,g,q3.mg,b,q2,by show (cas[c]?).join=some C;rw [q1];rfl⟩
  . have z:=zp h3 e
    simp only at z;split at z
    . rename_i cf hcf
      simp only [Bool.and_eq_true] at z;obtain ⟨⟨z1,z2,z3⟩,z4,z5⟩:=z;obtain ⟨F,e1,e2⟩:=Uw z2;split at z4
      . rename_i p hp
        obtain ⟨C,cl,q1,q2,q3⟩:=aC.get hp;rw [q2] at z5;simp only at z5;have mem:(m,cf.2)∈cl.meths:=mem_of_lookup (eq_of_beq z5);obtain ⟨p',a,r1,r2,r3⟩:=q3.me.get mem;rw [e] at r1;cases r1;obtain ⟨fd,d,b,g,kp⟩:=at_ e1 r2;rw [e2] at g;refine ⟨C,a,fd,d.ps,cf.2,q3.cs,r3,g,b,λc' Q9 hc' g' hg'=>?_,ab8 z3⟩;have y:=zp z1 hc';simp only [hg',Bool.and_eq_true] at y;have y1:c'=cf.1:=eq_of_beq y.1;exact ⟨by show (cas[c']?).join=some C;rw [y1,q1];rfl,eq_of_beq y.2⟩
      . cases z4
    . cases z
  . refine ⟨by show x=Ru T.Cj f;unfold Ru;rw [e],λc C hC=>?_⟩
    have hC:(cas[c]?).join=some C:=hC;have hC2:cas[c]?=some (some C):=by
     cases q:cas[c]? with
     | none=>rw [q] at hC;cases hC
     | some o=>rw [q] at hC;cases o with
      | none=>cases hC|some C'=>cases hC;rfl
    obtain ⟨y1,y2⟩:=aC.at hC2;exact ⟨y1,y2.get (List.mem_of_getElem? e)⟩
section
variable {K:Fg} {mg:Str->Option Value}
theorem fN:Oz K [] [] [] []:=trivial
theorem fC {d:Def} {s:Stmt} {a:Addr} {f:FuncData} {ds:List Def} {ss:List Stmt} {as:List Addr} {fs:List FuncData} (F:Zy K d.x d.qual s a f) (b:Binds K f d.ps []) (r:Oz K ds ss as fs):Oz K (d :: ds) (s :: ss) (a :: as) (f :: fs):=⟨⟨F,b⟩,r⟩
theorem gN {as:List Addr}:G4 mg [] as:=trivial
theorem gS {p:Str×Nat} {r:List (Option (Str×Nat))} {a:Addr} {as:List Addr} (h:mg p.1=some (.ref a)) (t:G4 mg r as):G4 mg (some p :: r) (a :: as):=⟨h,t⟩
theorem gO {r:List (Option (Str×Nat))} {a:Addr} {as:List Addr} (t:G4 mg r as):G4 mg (none :: r) (a :: as):=t
theorem mN {C:Addr} {Tf:List (Str×Nat)} {v9:List Addr}:Rv K C Tf v9 []:=trivial
theorem mC {C:Addr} {Tf:List (Str×Nat)} {v9:List Addr} {q:Nat×Nat} {r:List (Nat×Nat)} {p:Str×Nat} {a:Addr} (h1:Tf[q.1]?=some p) (h2:v9[q.2]?=some a) (m:Meth K C p.1 a) (t:Rv K C Tf v9 r):Rv K C Tf v9 (q :: r):=⟨⟨p,a,h1,h2,m⟩,t⟩
theorem nN {C:Addr}:O1 K C []:=trivial
theorem nC {C:Addr} {x:Str} {r:List Str} (h:ql K C x) (t:O1 K C r):O1 K C (x :: r):=⟨h,t⟩
theorem cN {T:Tab} {v9:List Addr}:Bb K mg T v9 [] [] []:=trivial
theorem cO {T:Tab} {v9:List Addr} {r:List (Option (Str×Nat))} {cs:List (Option Addr)} {cl:MW.Cl} {cls:List MW.Cl} (t:Bb K mg T v9 r cs cls):Bb K mg T v9 (none :: r) (none :: cs) (cl :: cls):=t
theorem cS {T:Tab} {v9:List Addr} {p:Str×Nat} {C:Addr} {r:List (Option (Str×Nat))} {cs:List (Option Addr)} {cl:MW.Cl} {cls:List MW.Cl} (h:ClF K mg T v9 p.1 C cl) (t:Bb K mg T v9 r cs cls):Bb K mg T v9 (some p :: r) (some C :: cs) (cl :: cls):=⟨h,t⟩
theorem vN:O6 mg []:=trivial
theorem vC {p:Str×Int} {r:List (Str×Int)} {t:Tok} (h:mg p.1=some (.int p.2 t)) (q:O6 mg r):O6 mg (p :: r):=⟨⟨t,h⟩,q⟩
theorem bN:AllB mg []:=trivial
theorem bC {x:Str} {r:List Str} (h:mg x=none) (q:AllB mg r):AllB mg (x :: r):=⟨h,q⟩
end
noncomputable def Wg (K:Fg):Sp:=λvs H Q _=>∃ (a:Addr) (ns:List Int),vs=[.ref a]/\Only H/\uh K H a (ns.map V.int)/\ns.length <= 63/\∀ H',Q (.bl true) H'
theorem agw {K:Fg} {H:Hp} {a:Addr} {vs:List V} (o:Only H) (h:uh K H a vs):Ub K H a vs:=by
 rcases h with (h | h) | h
 . rcases o a with z | ⟨ob,xs,z⟩<;>rw [z] at h<;>cases h
 . exact .inl h
 . exact .inr h
theorem agx {nm:Nm} {K:Fg} {W:jz} {i:Nat} (run:∀ (ns:List Int),ns.length <= 63->∃ M',W.call i [.fz (ns.map MW.D.int)] []=.ok (.bl true) M') {vs:List V} {H:Hp} {Q:VK} {E:XK} (h:Wg K vs H Q E):Xu nm W K 1 i vs H Q E:=by obtain ⟨a,ns,rfl,o,hS,hl,k⟩:=h;obtain ⟨M',e⟩:=run ns hl;refine ⟨⟨[],[]⟩,[],_,_,M',⟨rfl,List.nodup_nil,by simp,λn o a h=>by simp at h⟩,.cons (.fz (agw o hS) (bc.ints ns)) .nil,rfl,e,fun ι' H' v le S' r=>?_⟩;cases r;exact k H'
theorem walk {l:PySem.W.OpenLaw} {q:Program} {loose:List Str} {XP:(Str->Option Value)->Heap->Prop} {YP:World->Heap->Prop} {d:DefRec} {K:Params->Fg} (hn:l.most=some 63) (hdf:d.params.defaults=[]) (hY:∀ (w:World) (h:Heap),YP w h->(K w.params).In h)
 (F:∀ (w:World) (mg:Str->Option Value) (fa:Addr) (h:Heap),(K w.params).In h->h.Ns mainGlobals mg->mg d.name=some (.ref fa) ->
  ∃ fd:FuncData,(∀ (s:Shared) (u:Value),BindsTo s fd ⟨[u],[]⟩ [("script",u)])/\∀ base:Heap,(K w.params).In base->base.Ns mainGlobals mg->m5 l.prog w (K w.params) mg base Nv 170 fa fd ["script"] (Wg (K w.params))) :
 PySem.W.WalkO q loose XP YP l.row.toRowW d [] (λf vs=>PySem.call f vs) :=
 L2.aeb (n:=63) (k:=170) (x := "script") (CX:=λ_=>Nv) (sp:=λw=>Wg (K w.params)) hn (by decide) hdf ⟨rfl,by decide,by decide⟩ hY F (λ_ _ a ns hl ho hS=>⟨a,ns,rfl,ho,hS,hl,λ_=>rfl⟩) λ_ _ _ _ _ z=>z
end Ck
namespace Yx
open MW
noncomputable def yc:bw:=.cons (.expr (.call 9 (.cons (.var 1) (.cons (.var 2) (.nil))))) (.cons (.expr (.call 10 (.cons (.var 2) (.cons (.var 3) (.nil))))) (.cons (.expr (.call 11 (.cons (.var 2) (.cons (.var 3) (.nil))))) (.cons (.asg (.fld (.var 0) 2) (.var 1)) (.cons (.asg (.fld (.var 0) 1) (.var 2)) (.cons (.asg (.fld (.var 0) 0) (.blt .dict (.cons (.var 3) (.nil)))) (.nil))))))
noncomputable def yd:Fn:=⟨4,4,yc⟩
noncomputable def Ac:bw:=.cons (.ret (.fld (.var 0) 2)) (.nil)
noncomputable def Ad:Fn:=⟨1,1,Ac⟩
noncomputable def ye:bw:=.cons (.ret (.fld (.var 0) 1)) (.nil)
noncomputable def yf:Fn:=⟨1,1,ye⟩
noncomputable def yg:bw:=.cons (.ret (.call 6 (.cons (.fld (.var 0) 0) (.cons (.var 1) (.cons (.var 2) (.nil)))))) (.nil)
noncomputable def yh:Fn:=⟨3,3,yg⟩
noncomputable def nq:Ex:=.jh true 2 (.names [2,3]) (.Z1 (.fld (.var 0) 1)) (.cmp .eq (.ix (.var 3) (.cst (.int 0))) (.var 1)) (.var 2)
noncomputable def Bc:bw:=.cons (.ret (.bin .Xd (.xj (.cons (.cst (.int (-1))) (.nil))) (nq))) (.nil)
noncomputable def Bd:Fn:=⟨2,2,Bc⟩
noncomputable def wg:bw:=.cons (.iff (.cmp .eq (.var 2) (.cst (.int (-1)))) (.cons (.ret (.var 1)) (.nil)) (.nil)) (.cons (.ret (.ix (.ix (.fld (.var 0) 1) (.var 2)) (.cst (.int 1)))) (.nil))
noncomputable def wj:Fn:=⟨3,3,wg⟩
noncomputable def vh:bw:=.cons (.iff (.cmp .eq (.var 1) (.cst (.int (-1)))) (.cons (.ret (.var 2)) (.nil)) (.nil)) (.cons (.iff (.cmp .eq (.var 2) (.cst (.int (-1)))) (.cons (.ret (.var 1)) (.nil)) (.nil)) (.cons (.ret (.ix (.var 0) (.tup (.cons (.var 1) (.cons (.var 2) (.nil)))))) (.nil)))
noncomputable def vm:Fn:=⟨3,3,vh⟩
noncomputable def iz:bw:=.cons (.iff (.cmp .eq (.ix (.var 3) (.cst (.int 1))) (.ix (.var 5) (.cst (.int 0)))) (.cons (.expr (.bm .append (.var 1) (.cons (.tup (.cons (.var 2) (.cons (.var 4) (.nil)))) (.nil)))) (.nil)) (.nil)) (.nil)
noncomputable def vo:mj:=.for_ (.names [4,5]) (.Z1 (.var 0)) iz
noncomputable def kh:bw:=.cons (vo) (.nil)
noncomputable def vq:mj:=.for_ (.names [2,3]) (.Z1 (.var 0)) kh
noncomputable def Ae:bw:=.cons (.asg (.tg (.name 1)) (.lst (.nil))) (.cons (vq) (.cons (.ret (.var 1)) (.nil)))
noncomputable def Af:Fn:=⟨1,6,Ae⟩
noncomputable def n6:bw:=.cons (.iff (.cmp .eq (.var 1) (.cst (.int (-1)))) (.cons (.ret (.cmp .eq (.var 2) (.var 3))) (.nil)) (.nil)) (.cons (.ret (.and (.chain .le .lt (.cst (.int 0)) (.var 1) (.blt .len (.cons (.var 0) (.nil)))) (.cmp .eq (.ix (.var 0) (.var 1)) (.tup (.cons (.var 2) (.cons (.var 3) (.nil))))))) (.nil))
noncomputable def ou:Fn:=⟨4,4,n6⟩
noncomputable def o4:bw:=.cons (.iff (.not (.and (.chain .le .lt (.cst (.int 0)) (.ix (.var 2) (.cst (.int 0))) (.var 0)) (.chain .le .lt (.cst (.int 0)) (.ix (.var 2) (.cst (.int 1))) (.var 0)))) (.cons (.raise 1 (.cons (.cst (.str (PySem.Str.ofString "a doing is from a kind to a kind"))) (.nil))) (.nil)) (.nil)) (.nil)
noncomputable def yj:mj:=.for_ (.name 2) (.val (.var 1)) o4
noncomputable def Be:bw:=.cons (.iff (.not (.chain .le .le (.cst (.int 1)) (.var 0) (.cst (.int 3)))) (.cons (.raise 1 (.cons (.cst (.str (PySem.Str.ofString "a pattern has one to three kinds"))) (.nil))) (.nil)) (.nil)) (.cons (.iff (.cmp .gt (.blt .len (.cons (.var 1) (.nil))) (.cst (.int 5))) (.cons (.raise 1 (.cons (.cst (.str (PySem.Str.ofString "a pattern has at most five doings"))) (.nil))) (.nil)) (.nil)) (.cons (yj) (.nil)))
noncomputable def Bf:Fn:=⟨2,3,Be⟩
noncomputable def qw:bw:=.cons (.iff (.not (.call 8 (.cons (.var 0) (.cons (.ix (.var 1) (.tup (.cons (.var 3) (.cons (.var 4) (.nil))))) (.cons (.ix (.ix (.var 0) (.var 3)) (.cst (.int 0))) (.cons (.ix (.ix (.var 0) (.var 4)) (.cst (.int 1))) (.nil))))))) (.cons (.raise 1 (.cons (.cst (.str (PySem.Str.ofString "two doings come to a way of their own ends"))) (.nil))) (.nil)) (.nil)) (.nil)
noncomputable def Ag:mj:=.for_ (.names [3,4]) (.val (.var 2)) qw
noncomputable def Cu:bw:=.cons (.asg (.tg (.name 2)) (.call 7 (.cons (.var 0) (.nil)))) (.cons (.iff (.Iu (.var 1) (.var 2)) (.cons (.raise 1 (.cons (.cst (.str (PySem.Str.ofString "a table tells of just the pairs of doings that meet"))) (.nil))) (.nil)) (.nil)) (.cons (Ag) (.nil)))
noncomputable def Cv:Fn:=⟨2,5,Cu⟩
noncomputable def jq:bw:=.cons (.iff (.cmp .Hc (.tup (.cons (.var 4) (.cons (.var 5) (.nil)))) (.var 1)) (.cons (.cont) (.nil)) (.nil)) (.cons (.asg (.tg (.name 6)) (.call 6 (.cons (.var 1) (.cons (.ix (.var 1) (.tup (.cons (.var 3) (.cons (.var 4) (.nil))))) (.cons (.var 5) (.nil)))))) (.cons (.asg (.tg (.name 7)) (.call 6 (.cons (.var 1) (.cons (.var 3) (.cons (.ix (.var 1) (.tup (.cons (.var 4) (.cons (.var 5) (.nil))))) (.nil)))))) (.cons (.iff (.cmp .ne (.var 6) (.var 7)) (.cons (.raise 1 (.cons (.cst (.str (PySem.Str.ofString "three doings come to one way, however they are taken together"))) (.nil))) (.nil)) (.nil)) (.nil))))
noncomputable def yl:mj:=.for_ (.name 5) (.Ib (.blt .len (.cons (.var 0) (.nil)))) jq
noncomputable def o5:bw:=.cons (yl) (.nil)
noncomputable def ym:mj:=.for_ (.names [3,4]) (.val (.var 2)) o5
noncomputable def Bg:bw:=.cons (.asg (.tg (.name 2)) (.call 7 (.cons (.var 0) (.nil)))) (.cons (ym) (.nil))
noncomputable def Bh:Fn:=⟨2,8,Bg⟩
noncomputable def ur:bw:=.cons (.iff (.cmp .lt (.var 1) (.blt .len (.cons (.var 0) (.nil)))) (.cons (.ret (.ix (.var 0) (.var 1))) (.nil)) (.nil)) (.cons (.ret (.cst (.int 0))) (.nil))
noncomputable def uv:Fn:=⟨2,2,ur⟩
noncomputable def zq:bw:=.cons (.asg (.tg (.name 2)) (.call 12 (.cons (.var 0) (.cons (.var 1) (.nil))))) (.cons (.iff (.cmp .ge (.var 2) (.bin .pow (.cst (.int 10)) (.cst (.int 18)))) (.cons (.ret (.lst (.cons (.bin .sub (.var 2) (.bin .pow (.cst (.int 10)) (.cst (.int 18)))) (.cons (.cst (.bl true)) (.nil))))) (.nil)) (.nil)) (.cons (.ret (.lst (.cons (.bin .mod (.var 2) (.cst (.int 2147483647))) (.cons (.cst (.bl false)) (.nil))))) (.nil)))
noncomputable def zr:Fn:=⟨2,3,zq⟩
noncomputable def Bj:bw:=.cons (.iff (.ix (.var 0) (.cst (.int 1))) (.cons (.asg (.tg (.name 2)) (.bin .mod (.ix (.var 0) (.cst (.int 0))) (.var 1))) (.cons (.asg (.sub (.var 0) (.cst (.int 0))) (.bin .fdiv (.ix (.var 0) (.cst (.int 0))) (.var 1))) (.cons (.ret (.var 2)) (.nil)))) (.nil)) (.cons (.asg (.sub (.var 0) (.cst (.int 0))) (.bin .mod (.bin .add (.bin .mul (.ix (.var 0) (.cst (.int 0))) (.cst (.int 48271))) (.cst (.int 29))) (.cst (.int 2147483647)))) (.cons (.asg (.tg (.name 3)) (.bin .mod (.bin .add (.bin .add (.bin .mul (.ix (.var 0) (.cst (.int 0))) (.ix (.var 0) (.cst (.int 0)))) (.bin .mul (.cst (.int 39373)) (.ix (.var 0) (.cst (.int 0))))) (.cst (.int 7))) (.cst (.int 2147483629)))) (.cons (.asg (.tg (.name 3)) (.bin .mod (.bin .add (.bin .mul (.var 3) (.var 3)) (.bin .mul (.cst (.int 16807)) (.var 3))) (.cst (.int 2147483587)))) (.cons (.ret (.bin .mod (.bin .fdiv (.var 3) (.cst (.int 8))) (.var 1))) (.nil)))))
noncomputable def Bk:Fn:=⟨2,4,Bj⟩
noncomputable def uw:Ex:=.comp true 1 (.name 12) (.Ib (.ix (.var 7) (.var 10))) (.call 14 (.cons (.var 0) (.cons (.ix (.var 7) (.var 11)) (.nil))))
noncomputable def kj:bw:=.cons (.asg (.tg (.name 10)) (.call 14 (.cons (.var 0) (.cons (.var 6) (.nil))))) (.cons (.asg (.tg (.name 11)) (.call 14 (.cons (.var 0) (.cons (.var 6) (.nil))))) (.cons (.expr (.bm .append (.var 8) (.cons (.tup (.cons (.var 10) (.cons (.var 11) (.cons (.blt .tuple (.cons (uw) (.nil))) (.nil))))) (.nil)))) (.nil)))
noncomputable def ux:mj:=.for_ (.name 9) (.Ib (.call 14 (.cons (.var 0) (.cons (.cst (.int 4)) (.nil))))) kj
noncomputable def uy:Ex:=.comp true 1 (.name 12) (.Ib (.var 6)) (.bin .add (.cst (.int 1)) (.call 14 (.cons (.var 0) (.cons (.cst (.int 3)) (.nil)))))
noncomputable def zu:bw:=.cons (.asg (.tg (.name 1)) (.call 14 (.cons (.var 0) (.cons (.cst (.int 12)) (.nil))))) (.cons (.iff (.cmp .lt (.var 1) (.cst (.int 7))) (.cons (.asg (.tg (.name 2)) (.xj (.cons (.tup (.cons (.cst (.int 0)) (.cons (.cst (.int 1)) (.cons (.tup (.cons (.cst (.int 0)) (.cons (.cst (.int 1)) (.nil)))) (.nil))))) (.cons (.tup (.cons (.cst (.int 0)) (.cons (.cst (.int 1)) (.cons (.tup (.cons (.cst (.int 1)) (.cons (.cst (.int 0)) (.nil)))) (.nil))))) (.nil))))) (.cons (.asg (.tg (.name 3)) (.xj (.cons (.tup (.cons (.cst (.int 0)) (.cons (.cst (.int 1)) (.cons (.tup (.cons (.cst (.int 0)) (.cons (.cst (.int 0)) (.cons (.cst (.int 1)) (.cons (.cst (.int 1)) (.nil)))))) (.nil))))) (.cons (.tup (.cons (.cst (.int 0)) (.cons (.cst (.int 1)) (.cons (.tup (.cons (.cst (.int 0)) (.cons (.cst (.int 1)) (.cons (.cst (.int 0)) (.cons (.cst (.int 1)) (.nil)))))) (.nil))))) (.cons (.tup (.cons (.cst (.int 1)) (.cons (.cst (.int 0)) (.cons (.tup (.cons (.cst (.int 0)) (.cons (.cst (.int 3)) (.nil)))) (.nil))))) (.nil)))))) (.cons (.asg (.tg (.name 4)) (.xj (.cons (.tup (.cons (.cst (.int 0)) (.cons (.cst (.int 0)) (.cons (.tup (.cons (.cst (.int 1)) (.cons (.cst (.int 0)) (.nil)))) (.nil))))) (.nil)))) (.cons (.asg (.tg (.name 5)) (.xj (.cons (.var 2) (.cons (.var 3) (.cons (.var 4) (.cons (.xj (.cons (.tup (.cons (.cst (.int 0)) (.cons (.cst (.int 0)) (.cons (.tup (.cons (.cst (.int 1)) (.cons (.cst (.int 2)) (.cons (.cst (.int 0)) (.nil))))) (.nil))))) (.nil))) (.cons (.xj (.cons (.tup (.cons (.cst (.int 0)) (.cons (.cst (.int 0)) (.cons (.tup (.cons (.cst (.int 0)) (.cons (.cst (.int 0)) (.nil)))) (.nil))))) (.nil))) (.cons (.xj (.nil)) (.cons (.xj (.cons (.tup (.cons (.cst (.int 0)) (.cons (.cst (.int 1)) (.cons (.tup (.cons (.cst (.int 0)) (.cons (.cst (.int 1)) (.nil)))) (.nil))))) (.cons (.tup (.cons (.cst (.int 1)) (.cons (.cst (.int 2)) (.cons (.tup (.cons (.cst (.int 0)) (.cons (.cst (.int 0)) (.cons (.cst (.int 1)) (.nil))))) (.nil))))) (.nil)))) (.nil)))))))))) (.cons (.ret (.ix (.var 5) (.var 1))) (.nil)))))) (.nil)) (.cons (.asg (.tg (.name 6)) (.bin .add (.cst (.int 1)) (.call 14 (.cons (.var 0) (.cons (.cst (.int 3)) (.nil)))))) (.cons (.asg (.tg (.name 7)) (uy)) (.cons (.asg (.tg (.name 8)) (.lst (.nil))) (.cons (ux) (.cons (.ret (.var 8)) (.nil)))))))
noncomputable def jr:Fn:=⟨1,12,zu⟩
noncomputable def qx:Ex:=.comp true 1 (.name 10) (.val (.ix (.var 7) (.cst (.int 2)))) (.ix (.ix (.var 8) (.cst (.int 2))) (.var 10))
noncomputable def jg:bw:=.cons (.asg (.tg (.name 4)) (.tup (.nil))) (.cons (.iff (.cmp .eq (.ix (.var 7) (.cst (.int 1))) (.ix (.var 8) (.cst (.int 0)))) (.cons (.asg (.tg (.name 4)) (.blt .tuple (.cons (qx) (.nil)))) (.nil)) (.nil)) (.cons (.asg (.tg (.name 9)) (.tup (.cons (.ix (.var 7) (.cst (.int 0))) (.cons (.ix (.var 8) (.cst (.int 1))) (.cons (.var 4) (.nil)))))) (.cons (.iff (.and (.cmp .ne (.var 4) (.tup (.nil))) (.and (.cmp .Hc (.var 9) (.var 1)) (.or (.cmp .ne (.ix (.var 9) (.cst (.int 0))) (.ix (.var 9) (.cst (.int 1)))) (.cmp .ne (.var 4) (.T5 (.blt .len (.cons (.var 4) (.nil)))))))) (.cons (.expr (.bm .append (.var 1) (.cons (.var 9) (.nil)))) (.nil)) (.nil)) (.nil))))
noncomputable def qy:mj:=.for_ (.names [7,8]) (.val (.xj (.cons (.tup (.cons (.ix (.var 1) (.var 5)) (.cons (.ix (.var 1) (.var 6)) (.nil)))) (.cons (.tup (.cons (.ix (.var 1) (.var 6)) (.cons (.ix (.var 1) (.var 5)) (.nil)))) (.nil))))) jg
noncomputable def qz:bw:=.cons (qy) (.nil)
noncomputable def q9:mj:=.for_ (.name 6) (.Ib (.blt .len (.cons (.var 1) (.nil)))) qz
noncomputable def Ah:bw:=.cons (q9) (.cons (.asg (.tg (.name 5)) (.bin .add (.var 5) (.cst (.int 1)))) (.nil))
noncomputable def rm:mj:=.whl (.and (.cmp .lt (.var 5) (.blt .len (.cons (.var 1) (.nil)))) (.cmp .lt (.blt .len (.cons (.var 1) (.nil))) (.cst (.int 6)))) Ah
noncomputable def dz:bw:=.cons (.iff (.and (.or (.cmp .ne (.var 2) (.var 3)) (.cmp .ne (.var 4) (.T5 (.blt .len (.cons (.var 4) (.nil)))))) (.cmp .Hc (.tup (.cons (.var 2) (.cons (.var 3) (.cons (.var 4) (.nil))))) (.var 1))) (.cons (.expr (.bm .append (.var 1) (.cons (.tup (.cons (.var 2) (.cons (.var 3) (.cons (.var 4) (.nil))))) (.nil)))) (.nil)) (.nil)) (.nil)
noncomputable def rz:mj:=.for_ (.names [2,3,4]) (.val (.var 0)) dz
noncomputable def Cw:bw:=.cons (.asg (.tg (.name 1)) (.lst (.nil))) (.cons (rz) (.cons (.asg (.tg (.name 5)) (.cst (.int 0))) (.cons (rm) (.cons (.ret (.var 1)) (.nil)))))
noncomputable def Cy:Fn:=⟨1,10,Cw⟩
noncomputable def o6:Ex:=.comp true 3 (.names [8,9,10]) (.val (.var 2)) (.tup (.cons (.var 8) (.cons (.var 9) (.nil))))
noncomputable def o7:Ex:=.comp true 1 (.name 8) (.val (.ix (.ix (.var 2) (.var 5)) (.cst (.int 2)))) (.ix (.ix (.ix (.var 2) (.var 6)) (.cst (.int 2))) (.var 8))
noncomputable def ig:bw:=.cons (.iff (.cmp .eq (.ix (.ix (.var 2) (.var 5)) (.cst (.int 1))) (.ix (.ix (.var 2) (.var 6)) (.cst (.int 0)))) (.cons (.asg (.tg (.name 7)) (.tup (.cons (.ix (.ix (.var 2) (.var 5)) (.cst (.int 0))) (.cons (.ix (.ix (.var 2) (.var 6)) (.cst (.int 1))) (.cons (.blt .tuple (.cons (o7) (.nil))) (.nil)))))) (.cons (.asg (.sub (.var 4) (.tup (.cons (.var 5) (.cons (.var 6) (.nil))))) (.ite (.cmp .inn (.var 7) (.var 2)) (.bm .index (.var 2) (.cons (.var 7) (.nil))) (.neg (.cst (.int 1))))) (.nil))) (.nil)) (.nil)
noncomputable def yo:mj:=.for_ (.name 6) (.Ib (.blt .len (.cons (.var 2) (.nil)))) ig
noncomputable def o8:bw:=.cons (yo) (.nil)
noncomputable def o9:mj:=.for_ (.name 5) (.Ib (.blt .len (.cons (.var 2) (.nil)))) o8
noncomputable def ph:Ex:=.comp true 3 (.names [8,9,10]) (.val (.var 2)) (.blt .max (.cons (.var 8) (.cons (.var 9) (.nil))))
noncomputable def yp:bw:=.cons (.asg (.tg (.name 1)) (.cut (.var 1) (.none) (.some (.neg (.cst (.int 1)))))) (.cons (.asg (.tg (.name 2)) (.call 16 (.cons (.var 1) (.nil)))) (.nil))
noncomputable def pq:mj:=.whl (.cmp .gt (.blt .len (.cons (.var 2) (.nil))) (.cst (.int 5))) yp
noncomputable def Bl:bw:=.cons (.asg (.tg (.name 1)) (.call 15 (.cons (.var 0) (.nil)))) (.cons (.asg (.tg (.name 2)) (.call 16 (.cons (.var 1) (.nil)))) (.cons (pq) (.cons (.asg (.tg (.name 3)) (.bin .add (.cst (.int 1)) (.blt .max (.cons (.bin .add (ph) (.xj (.cons (.cst (.int 0)) (.nil)))) (.nil))))) (.cons (.iff (.cmp .eq (.var 2) (.xj (.nil))) (.cons (.asg (.tg (.name 3)) (.bin .add (.cst (.int 1)) (.call 14 (.cons (.var 0) (.cons (.cst (.int 3)) (.nil)))))) (.nil)) (.nil)) (.cons (.asg (.tg (.name 4)) (.Xe)) (.cons (o9) (.cons (.ret (.tup (.cons (.var 3) (.cons (.blt .tuple (.cons (o6) (.nil))) (.cons (.var 4) (.nil)))))) (.nil))))))))
noncomputable def Bo:Fn:=⟨1,8,Bl⟩
noncomputable def wk:Ex:=.jh true 1 (.name 2) (.Ib (.blt .len (.cons (.ix (.var 0) (.cst (.int 1))) (.nil)))) (.cmp .eq (.ix (.ix (.ix (.var 0) (.cst (.int 1))) (.var 2)) (.cst (.int 0))) (.var 1)) (.var 2)
noncomputable def Hn:bw:=.cons (.ret (.bin .add (.xj (.cons (.neg (.cst (.int 1))) (.nil))) (wk))) (.nil)
noncomputable def Ho:Fn:=⟨2,2,Hn⟩
noncomputable def Du:bw:=.cons (.ret (.ite (.cmp .lt (.var 2) (.cst (.int 0))) (.var 1) (.ix (.ix (.ix (.var 0) (.cst (.int 1))) (.var 2)) (.cst (.int 1))))) (.nil)
noncomputable def Dw:Fn:=⟨3,3,Du⟩
noncomputable def qd:bw:=.cons (.iff (.or (.cmp .lt (.var 1) (.cst (.int 0))) (.cmp .lt (.var 2) (.cst (.int 0)))) (.cons (.ret (.bin .add (.bin .add (.var 1) (.var 2)) (.cst (.int 1)))) (.nil)) (.nil)) (.cons (.ret (.ix (.ix (.var 0) (.cst (.int 2))) (.tup (.cons (.var 1) (.cons (.var 2) (.nil)))))) (.nil))
noncomputable def qe:Fn:=⟨3,3,qd⟩
noncomputable def Rx:Ex:=.comp true 1 (.name 7) (.val (.var 2)) (.blt .len (.cons (.var 7) (.nil)))
noncomputable def J7:Ex:=.comp true 1 (.name 7) (.val (.ix (.var 2) (.ix (.var 5) (.cst (.int 0))))) (.bm .index (.var 6) (.cons (.meth (.var 0) 2 (.cons (.var 7) (.cons (.var 4) (.nil)))) (.nil)))
noncomputable def J8:bw:=.cons (.asg (.tg (.name 6)) (.ix (.var 2) (.ix (.var 5) (.cst (.int 1))))) (.cons (.expr (.bm .append (.var 3) (.cons (.blt .tuple (.cons (J7) (.nil))) (.nil)))) (.nil))
noncomputable def Ry:mj:=.for_ (.names [4,5]) (.Z1 (.meth (.var 0) 1 (.nil))) J8
noncomputable def ab9:bw:=.cons (.asg (.tg (.name 2)) (.call 22 (.cons (.var 0) (.cons (.var 1) (.nil))))) (.cons (.asg (.tg (.name 3)) (.lst (.nil))) (.cons (Ry) (.cons (.ret (.tup (.cons (.blt .tuple (.cons (Rx) (.nil))) (.cons (.blt .tuple (.cons (.var 3) (.nil))) (.nil))))) (.nil))))
noncomputable def aca:Fn:=⟨2,7,ab9⟩
noncomputable def p7:Ex:=.jh true 1 (.name 4) (.val (.meth (.var 0) 3 (.cons (.var 1) (.nil)))) (.cmp .eq (.meth (.var 0) 4 (.cons (.var 1) (.cons (.var 4) (.nil)))) (.var 3)) (.var 4)
noncomputable def p8:bw:=.cons (.expr (.bm .append (.var 2) (.cons (p7) (.nil)))) (.nil)
noncomputable def yq:mj:=.for_ (.name 3) (.Ib (.meth (.var 0) 0 (.nil))) p8
noncomputable def Bp:bw:=.cons (.asg (.tg (.name 2)) (.lst (.nil))) (.cons (yq) (.cons (.ret (.var 2)) (.nil)))
noncomputable def Bq:Fn:=⟨2,4,Bp⟩
noncomputable def wu:Ex:=.comp true 2 (.names [2,3]) (.zip (.var 0) (.var 1)) (.call 23 (.cons (.var 2) (.cons (.var 3) (.nil))))
noncomputable def Br:bw:=.cons (.iff (.blt .isSeq (.cons (.var 1) .nil)) (.cons (.iff (.or (.cmp .ne (.blt .isTuple (.cons (.var 0) .nil)) (.blt .isTuple (.cons (.var 1) .nil))) (.cmp .ne (.blt .isList (.cons (.var 0) .nil)) (.blt .isList (.cons (.var 1) .nil)))) (.cons (.ret (.cst (.bl false))) (.nil)) (.nil)) (.cons (.iff (.cmp .ne (.blt .len (.cons (.var 0) (.nil))) (.blt .len (.cons (.var 1) (.nil)))) (.cons (.ret (.cst (.bl false))) (.nil)) (.nil)) (.cons (.ret (.blt .all (.cons (wu) (.nil)))) (.nil)))) (.nil)) (.cons (.ret (.and (.cmp .eq (.var 0) (.var 1)) (.cmp .eq (.blt .isBool (.cons (.var 0) .nil)) (.blt .isBool (.cons (.var 1) .nil))))) (.nil))
noncomputable def Bs:Fn:=⟨2,2,Br⟩
noncomputable def Cz:Ex:=.comp true 1 (.name 8) (.val (.var 2)) (.blt .len (.cons (.var 8) (.nil)))
noncomputable def wy:Ex:=.comp true 1 (.name 8) (.val (.ix (.var 2) (.var 6))) (.bm .index (.ix (.var 2) (.var 7)) (.cons (.call 20 (.cons (.var 0) (.cons (.var 8) (.cons (.var 5) (.nil))))) (.nil)))
noncomputable def wz:bw:=.cons (.asg (.tg (.names [6,7])) (.ix (.ix (.var 0) (.cst (.int 1))) (.var 5))) (.cons (.expr (.bm .append (.var 4) (.cons (.blt .tuple (.cons (wy) (.nil))) (.nil)))) (.nil))
noncomputable def Dc:mj:=.for_ (.name 5) (.Ib (.blt .len (.cons (.ix (.var 0) (.cst (.int 1))) (.nil)))) wz
noncomputable def w5:Ex:=.jh true 1 (.name 8) (.val (.call 18 (.cons (.var 0) (.cons (.var 1) (.nil))))) (.cmp .eq (.call 19 (.cons (.var 0) (.cons (.var 1) (.cons (.var 8) (.nil))))) (.var 3)) (.var 8)
noncomputable def w6:bw:=.cons (.expr (.bm .append (.var 2) (.cons (w5) (.nil)))) (.nil)
noncomputable def Dd:mj:=.for_ (.name 3) (.Ib (.ix (.var 0) (.cst (.int 0)))) w6
noncomputable def Hq:bw:=.cons (.asg (.tg (.name 2)) (.lst (.nil))) (.cons (Dd) (.cons (.asg (.tg (.name 4)) (.lst (.nil))) (.cons (Dc) (.cons (.ret (.tup (.cons (.blt .tuple (.cons (Cz) (.nil))) (.cons (.blt .tuple (.cons (.var 4) (.nil))) (.nil))))) (.nil)))))
noncomputable def Hr:Fn:=⟨2,8,Hq⟩
noncomputable def Fp:bw:=.cons (.iff (.and (.cmp .lt (.var 4) (.ix (.var 5) (.cst (.int 0)))) (.not (.call 23 (.cons (.call 21 (.cons (.var 6) (.cons (.var 4) (.nil)))) (.cons (.call 24 (.cons (.var 5) (.cons (.var 4) (.nil)))) (.nil)))))) (.cons (.ret (.cst (.bl false))) (.nil)) (.nil)) (.nil)
noncomputable def O7:mj:=.for_ (.names [5,6]) (.zip (.var 1) (.var 2)) Fp
noncomputable def Wh:bw:=.cons (O7) (.nil)
noncomputable def O8:mj:=.for_ (.name 4) (.Ib (.cst (.int 3))) Wh
noncomputable def Wi:bw:=.cons (O8) (.nil)
noncomputable def Wj:mj:=.for_ (.name 3) (.Ib (.cst (.int 2))) Wi
noncomputable def Wk:Ex:=.comp true 1 (.name 7) (.val (.var 1)) (.make 2 (.cons (.ix (.var 7) (.cst (.int 0))) (.cons (.ix (.var 7) (.cst (.int 1))) (.cons (.blt .dict (.cons (.ix (.var 7) (.cst (.int 2))) (.nil))) (.nil)))))
noncomputable def ahy:bw:=.cons (.asg (.tg (.name 1)) (.xj (.cons (.call 17 (.cons (.call 13 (.cons (.var 0) (.cons (.cst (.int 0)) (.nil)))) (.nil))) (.cons (.call 17 (.cons (.call 13 (.cons (.var 0) (.cons (.cst (.int 1)) (.nil)))) (.nil))) (.nil))))) (.cons (.asg (.tg (.name 2)) (Wk)) (.cons (Wj) (.cons (.ret (.cst (.bl true))) (.nil))))
noncomputable def acb:Fn:=⟨1,7,ahy⟩
noncomputable def prog:Prog:=⟨[yd,Ad,yf,yh,Bd,wj,vm,Af,ou,Bf,Cv,Bh,uv,zr,Bk,jr,Cy,Bo,Ho,Dw,qe,aca,Bq,Bs,Hr,acb],[⟨0,[]⟩,⟨0,[]⟩,⟨0,[(0,1),(1,2),(2,3),(3,4),(4,5)]⟩]⟩
open PySem L2
noncomputable def top (i:Nat):Stmt:=PySem.Challenge.pw_mapwright_k23_seeds.main.body.getD i (.Pass ⟨0,0,0,0⟩)
noncomputable def sts:List Stmt:=[inClass (top 7) 0,inClass (top 7) 1,inClass (top 7) 2,inClass (top 7) 3,inClass (top 7) 4,inClass (top 7) 5,top 8,top 9,top 10,top 11,top 12,top 13,top 18,top 19,top 20,top 21,top 22,top 23,top 24,top 25,top 26,top 15,top 16,top 27,top 28,top 29]
noncomputable def Ds:List Ck.Def:=[⟨"__init__", "Pattern.__init__",["self", "kinds", "doings", "table"],["self", "kinds", "doings", "table"]⟩,⟨"kinds", "Pattern.kinds",["self"],["self"]⟩,⟨"doings", "Pattern.doings",["self"],["self"]⟩,⟨"behind", "Pattern.behind",["self", "one", "other"],["self", "one", "other"]⟩,⟨"ways", "Pattern.ways",["self", "kind"],["self", "kind"]⟩,⟨"end", "Pattern.end",["self", "kind", "way"],["self", "kind", "way"]⟩,⟨"both_ways", "both_ways",["table", "one", "other"],["table", "one", "other"]⟩,⟨"meeting_pairs", "meeting_pairs",["doings", "pairs", "one", "ends", "other", "more"],["doings"]⟩,⟨"is_way_between", "is_way_between",["doings", "way", "start", "goal"],["doings", "way", "start", "goal"]⟩,⟨"check_doings", "check_doings",["kinds", "doings", "ends"],["kinds", "doings"]⟩,⟨"check_table", "check_table",["doings", "table", "pairs", "one", "other"],["doings", "table"]⟩,⟨"check_threes", "check_threes",["doings", "table", "pairs", "one", "other", "last", "ahead", "after"],["doings", "table"]⟩,⟨"_law_cell_at", "_law_cell_at",["script", "k"],["script", "k"]⟩,⟨"_law_state", "_law_state",["script", "k", "cell"],["script", "k"]⟩,⟨"_law_take", "_law_take",["state", "many", "found", "mixed"],["state", "many"]⟩,⟨"_law_begun", "_law_begun",["state", "way", "graph", "loops", "swap", "known", "kinds", "sizes", "found", "k", "one", "other"],["state"]⟩,⟨"_law_closed", "_law_closed",["begun", "found", "one", "other", "row", "k", "j", "first", "second", "more"],["begun"]⟩,⟨"_law_pattern", "_law_pattern",["state", "begun", "closed", "kinds", "table", "j", "k", "more"],["state"]⟩,⟨"_law_ways", "_law_ways",["pat", "kind"],["pat", "kind"]⟩,⟨"_law_end", "_law_end",["pat", "kind", "way"],["pat", "kind", "way"]⟩,⟨"_law_behind", "_law_behind",["pat", "one", "other"],["pat", "one", "other"]⟩,⟨"seed", "seed",["pattern", "kind", "rows", "acts", "doing", "ends", "goals"],["pattern", "kind"]⟩,⟨"ways_by_ends", "ways_by_ends",["pattern", "kind", "rows", "goal"],["pattern", "kind"]⟩,⟨"_law_same", "_law_same",["found", "due"],["found", "due"]⟩,⟨"_law_seed", "_law_seed",["pat", "kind", "rows", "end", "acts", "k", "one", "other"],["pat", "kind"]⟩,⟨"law", "law",["script", "pats", "patterns", "turn", "kind", "pat", "pattern"],["script"]⟩]
noncomputable def tab:Ck.Tab:=⟨[none,none,none,none,none,none,some ("both_ways",3),some ("meeting_pairs",1),some ("is_way_between",4),some ("check_doings",2),some ("check_table",2),some ("check_threes",2),some ("_law_cell_at",2),some ("_law_state",2),some ("_law_take",2),some ("_law_begun",1),some ("_law_closed",1),some ("_law_pattern",1),some ("_law_ways",2),some ("_law_end",3),some ("_law_behind",3),some ("seed",2),some ("ways_by_ends",2),some ("_law_same",2),some ("_law_seed",2),some ("law",1)],[none,none,some ("Pattern",3)],[("kinds",0),("doings",0),("behind",2),("ways",1),("end",2)],["together", "doing_ends", "kind_count"],[("STAYING",-1),("MOST_KINDS",3),("MOST_DOINGS",5)]⟩
noncomputable def mcs:List (Nat×Nat):=[(2,1),(2,2),(2,3),(2,4),(2,5)]
theorem chk:Ck.Rw tab prog.fns Ds sts=true:=by decide +kernel
theorem av1:Ck.ab4 tab.Cj=true:=by decide +kernel
theorem av2:Ck.tfB prog.fns tab.fns=true:=by decide +kernel
theorem av3:Ck.tcB prog tab.cls=true:=by decide +kernel
theorem av4:Ck.tmB prog tab mcs=true:=by decide +kernel
end Yx
namespace MW
theorem O9 {fin:Store->Bool} {item:Nat->Store->Option D} {body:D->Env->Store->Res (Flow×Env)} (I:Nat->Env->Store->Prop) {n:Nat}
 (step:∀ i ρ M,i < n->I i ρ M->∃ d fl ρ' M',item i M=some d/\body d ρ M=.ok (fl,ρ') M'/\(fl=.next \/ fl=.cont)/\I (i+1) ρ' M') (hfin:∀ ρ M,I n ρ M->fin M=true) :
 ∀ (k i:Nat) (ρ:Env) (M:Store),i+k=n->I i ρ M->∃ ρ' M',my fin item body k i ρ M=.ok (.next,ρ') M'/\I n ρ' M'
 | 0,i,ρ,M,e,h=>by
  have q:i=n:=by omega
  rw [q] at h;exact ⟨ρ,M,by simp [my,hfin ρ M h],h⟩
 | k+1,i,ρ,M,e,h=>by
  obtain ⟨d,fl,ρ1,M1,h1,h2,h3,h4⟩:=step i ρ M (by omega) h;obtain ⟨ρ2,M2,g1,g2⟩:=O9 I step hfin k (i+1) ρ1 M1 (by omega) h4;refine ⟨ρ2,M2,?_,g2⟩;rcases h3 with rfl | rfl<;>simp [my,h1,h2,g1]
theorem Fq {body:D->Env->Store->Res (Flow×Env)} {ds:List D} (I:Nat->Env->Store->Prop) {ρ:Env} {M:Store} (h0:I 0 ρ M)
 (step:∀ i d ρ M,ds[i]?=some d->I i ρ M->∃ fl ρ' M',body d ρ M=.ok (fl,ρ') M'/\(fl=.next \/ fl=.cont)/\I (i+1) ρ' M') :
 ∃ ρ' M',my (Src.con ds).fin (Src.con ds).item body (Src.con ds).len 0 ρ M=.ok (.next,ρ') M'/\I ds.length ρ' M':=by
 refine O9 I (λi ρ M hi h=>?_) (λ_ _ _=>rfl) ds.length 0 ρ M (by omega) h0;obtain ⟨fl,ρ',M',a,b,c⟩:=step i ds[i] ρ M (by simp [hi]) h;exact ⟨ds[i],fl,ρ',M',by simp [Src.item,hi],a,b,c⟩
theorem Pa {body:D->Env->Store->Res (Flow×Env)} {n:Nat} (I:Nat->Env->Store->Prop) {ρ:Env} {M:Store} (h0:I 0 ρ M)
 (step:∀ i ρ M,i < n->I i ρ M->∃ fl ρ' M',body (.int i) ρ M=.ok (fl,ρ') M'/\(fl=.next \/ fl=.cont)/\I (i+1) ρ' M') :
 ∃ ρ' M',my (Src.con ((List.range n).map λ(k:Nat)=>D.int (k:Int))).fin (Src.con ((List.range n).map λ(k:Nat)=>D.int (k:Int))).item body (Src.con ((List.range n).map λ(k:Nat)=>D.int (k:Int))).len 0 ρ M=.ok (.next,ρ') M'/\I n ρ' M':=by
 have:=Fq (ds:=(List.range n).map λ(k:Nat)=>D.int (k:Int)) (body:=body) I h0 (λi d ρ M hd h=>by
  have hi:i < n:=by have:=(List.getElem?_eq_some_iff.mp hd).1;simpa using this
  rw [List.getElem?_map,List.getElem?_range hi] at hd;have hd:D.int (i:Int)=d:=by simpa using hd
  subst hd;exact step i ρ M hi h)
 simpa using this
theorem acd {body:D->Env->Store->Res (Flow×Env)} {p:Nat} {ds:List D} (I:Nat->Env->Store->Prop) {ρ:Env} {M:Store} (h0:I 0 ρ M) (stay:∀ i ρ M,I i ρ M->M[p]?=some (.lst ds))
 (step:∀ i d ρ M,ds[i]?=some d->I i ρ M->∃ fl ρ' M',body d ρ M=.ok (fl,ρ') M'/\(fl=.next \/ fl=.cont)/\I (i+1) ρ' M') :
 ∃ ρ' M',my (Src.live p ds.length).fin (Src.live p ds.length).item body (Src.live p ds.length).len 0 ρ M=.ok (.next,ρ') M'/\I ds.length ρ' M':=by
 refine O9 I (λi ρ M hi h=>?_) (fun ρ M h=>by simp [Src.fin,stay _ ρ M h]) ds.length 0 ρ M (by omega) h0;obtain ⟨fl,ρ',M',a,b,c⟩:=step i ds[i] ρ M (by simp [hi]) h;exact ⟨ds[i],fl,ρ',M',by simp [Src.item,stay i ρ M h,hi],a,b,c⟩
theorem Ft {fin:Store->Bool} {item:Nat->Store->Option D} {body:D->Store->Res (Option D)} (I:Nat->List D->Store->Prop) {n:Nat}
 (step:∀ i xs M,i < n->I i xs M->∃ d o M',item i M=some d/\body d M=.ok o M'/\I (i+1) (xs ++ o.toList) M') (hfin:∀ xs M,I n xs M->fin M=true) :
 ∀ (k i:Nat) (xs:List D) (M:Store),i+k=n->I i xs M->∃ ys M',jw fin item body k i M=.ok ys M'/\I n (xs ++ ys) M'
 | 0,i,xs,M,e,h=>by
  have q:i=n:=by omega
  rw [q] at h;exact ⟨[],M,by simp [jw,hfin xs M h],by simpa using h⟩
 | k+1,i,xs,M,e,h=>by
  obtain ⟨d,o,M1,h1,h2,h3⟩:=step i xs M (by omega) h;obtain ⟨ys,M2,g1,g2⟩:=Ft I step hfin k (i+1) (xs ++ o.toList) M1 (by omega) h3;refine ⟨o.toList ++ ys,M2,?_,by rw [<- List.append_assoc];exact g2⟩;cases o<;>simp [jw,h1,h2,g1]
theorem G5 {body:D->Store->Res (Option D)} {s:Src} {ds:List D} {g:D->Option D} {M:Store} (hfin:s.fin M=true) (hl:s.len=ds.length) (hi:∀ i,i < ds.length->s.item i M=ds[i]?) (h:∀ d∈ds,body d M=.ok (g d) M) :
 jw s.fin s.item body s.len 0 M=.ok (ds.filterMap g) M:=by
 obtain ⟨ys,M',e,h1,h2⟩:=Ft (fin:=s.fin) (item:=s.item) (body:=body) (λi xs M'=>M'=M/\xs=(ds.take i).filterMap g) (n:=ds.length) (λi xs M' hlt hI=>by
  obtain ⟨rfl,rfl⟩:=hI;refine ⟨ds[i],g ds[i],M',by rw [hi i hlt];simp [hlt],h _ (List.getElem_mem hlt),rfl,?_⟩;rw [List.take_succ,List.filterMap_append];simp [hlt];cases e:g ds[i]<;>simp [e]) (λxs M' h=>by rw [h.1];exact hfin) ds.length 0 [] M (by omega) ⟨rfl,rfl⟩
 rw [hl,e,h1];simp at h2;rw [h2]
theorem ace {body:D->Store->Res (Option D)} {ds:List D} {g:D->D} {M:Store} (h:∀ d∈ds,body d M=.ok (some (g d)) M) :
 jw (Src.con ds).fin (Src.con ds).item body (Src.con ds).len 0 M=.ok (ds.map g) M:=by
 rw [G5 (s:=.con ds) (ds:=ds) (g:=λd=>some (g d)) rfl rfl (λi _=>rfl) h,List.filterMap_eq_map']
end MW
namespace MW
theorem G6 {c:Env->Store->Res D} {body:Env->Store->Res (Flow×Env)} (I:Nat->Env->Store->Prop) (alb:Env->Store->Prop)
 (step:∀ m ρ M,I m ρ M->(∃ M1,c ρ M=.ok (.bl false) M1/\alb ρ M1) \/
  ∃ M1 fl ρ' M2 m',c ρ M=.ok (.bl true) M1/\body ρ M1=.ok (fl,ρ') M2/\(fl=.next \/ fl=.cont)/\m' < m/\I m' ρ' M2) :
 ∀ (k m:Nat) (ρ:Env) (M:Store),m < k->I m ρ M->∃ ρ' M',qb c body k ρ M=.ok (.next,ρ') M'/\alb ρ' M'
 | 0,m,_,_,h,_=>absurd h (Nat.not_lt_zero _)
 | k+1,m,ρ,M,h,hI=>by
  rcases step m ρ M hI with ⟨M1,h1,h2⟩ | ⟨M1,fl,ρ1,M2,m',h1,h2,h3,h4,h5⟩
  . exact ⟨ρ,M1,by simp [qb,h1],h2⟩
  . obtain ⟨ρ3,M3,g1,g2⟩:=G6 I alb step k m' ρ1 M2 (by omega) h5
    refine ⟨ρ3,M3,?_,g2⟩;rcases h3 with rfl | rfl<;>simp [qb,h1,h2,g1]
end MW
namespace MW
noncomputable def fu (M M':Store):Prop:=∀ (a:Nat) (o:MO),M[a]?=some o->M'[a]?=some o
theorem fu.refl (M:Store):fu M M:=λ_ _ h=>h
theorem fu.trans {M M1 M2:Store} (a:fu M M1) (b:fu M1 M2):fu M M2:=λx o h=>b x o (a x o h)
theorem fu.app (M X:Store):fu M (M ++ X):=λ_ _ h=>iu h
theorem fu.len {M M':Store} (k:fu M M'):M.length <= M'.length:=by
 rcases Nat.eq_zero_or_pos M.length with h | h
 . omega
 . have:=il (k (M.length - 1) M[M.length - 1] (by simp))
   omega
theorem fu.asList {M M':Store} (k:fu M M') {d:D} {ds:List D} (h:asList M d=some ds):MW.asList M' d=some ds:=by
 cases d with
 | vl xs=>exact h
 | ref n =>
  simp only [MW.asList] at h ⊢;cases e:M[n]? with
  | none=>rw [e] at h;simp at h|some o=>rw [e] at h;rw [k n o e];exact h
 | _=>simp [MW.asList] at h
theorem J9 {body:D->Env->Store->Res (Flow×Env)} {d:D} {ds:List D} (I:Nat->Env->Store->Prop) {ρ:Env} {M:Store} (hd:asList M d=some ds) (h0:I 0 ρ M)
 (stay:∀ i ρ M,I i ρ M->asList M d=some ds)
 (step:∀ i x ρ M,ds[i]?=some x->I i ρ M->∃ fl ρ' M',body x ρ M=.ok (fl,ρ') M'/\(fl=.next \/ fl=.cont)/\I (i+1) ρ' M') :
 ∃ s,srcOf M d=some s/\∃ ρ' M',my s.fin s.item body s.len 0 ρ M=.ok (.next,ρ') M'/\I ds.length ρ' M':=by
 cases d with
 | vl xs=>simp [asList] at hd;subst hd;exact ⟨_,rfl,Fq I h0 step⟩
 | ref n =>
  cases e:M[n]? with
  | none=>simp [asList,e] at hd
  | some o =>
   cases o with
   | lst xs =>
    simp [asList,e] at hd;subst hd;refine ⟨.live n xs.length,by simp [srcOf,e],acd I h0 (λi ρ M h=>?_) step⟩;have:=stay i ρ M h;simp only [asList] at this;split at this<;>simp_all
   | _=>simp [asList,e] at hd
 | _=>simp [asList] at hd
theorem Pb {body:D->Store->Res (Option D)} {ds:List D} {g:D->D} {M:Store} (hl:ds.length <= 100000) (h:∀ d∈ds,body d M=.ok (some (g d)) M):gf (.con ds) body M=.ok (ds.map g) M:=by rw [gf,if_pos (show (Src.con ds).len <= 100000 from hl)];exact ace h
theorem Ka {body:D->Store->Res (Option D)} {ds:List D} {g:D->Option D} {M:Store} (hl:ds.length <= 100000) (h:∀ d∈ds,body d M=.ok (g d) M):gf (.con ds) body M=.ok (ds.filterMap g) M:=by rw [gf,if_pos (show (Src.con ds).len <= 100000 from hl)];exact G5 (s:=.con ds) rfl rfl (λ_ _=>rfl) h
theorem Hs {body:D->Store->Res (Option D)} {d:D} {ds:List D} {g:D->Option D} {M:Store} (hd:asList M d=some ds) (hl:ds.length <= 100000) (h:∀ x∈ds,body x M=.ok (g x) M) :
 ∃ s,srcOf M d=some s/\gf s body M=.ok (ds.filterMap g) M:=by
 cases d with
 | vl xs=>simp [asList] at hd;subst hd;exact ⟨_,rfl,Ka hl h⟩
 | ref n =>
  cases e:M[n]? with
  | none=>simp [asList,e] at hd
  | some o =>
   cases o with
   | lst xs =>
    simp [asList,e] at hd;subst hd;exact ⟨.live n xs.length,by simp [srcOf,e],by rw [gf,if_pos (show (Src.live n xs.length).len <= 100000 from hl)];exact G5 (s:=.live n xs.length) (by simp [Src.fin,e]) rfl (λi _=>by simp [Src.item,e]) h⟩
   | _=>simp [asList,e] at hd
 | _=>simp [asList] at hd
end MW
namespace Yx
open MW
structure F where
 a:Nat
 b:Nat
 r:List Nat
 deriving DecidableEq
noncomputable def nD (x:Nat):D:=.int (x:Int)
noncomputable def km (r:List Nat):D:=.tup (r.map nD)
noncomputable def F.toD (f:F):D:=.tup [.int f.a,.int f.b,km f.r]
theorem Wl (x y:Nat):decide ((x:Int)=(y:Int))=decide (x=y):=by
 by_cases h:x=y
 . simp [h]
 . have:¬ ((x:Int)=(y:Int)):=by omega
   simp [h,this]
theorem Fv (M:Store) (n x y:Nat):qm M (n+1) (.int x) (.int y)=some (decide (x=y)):=by rw [aer,Wl]
theorem Pg (M:Store) (n:Nat):∀ r s:List Nat,Dj (qm M (n+1)) (r.map nD) (s.map nD)=some (decide (r=s))
 | [],[]=>by simp [Dj]|[],_ :: _=>by simp [Dj]|_ :: _,[]=>by simp [Dj]
 | x :: r,y :: s=>by
  rw [List.map_cons,List.map_cons,xm (a:=nD x) (b:=nD y) (Fv M n x y) (Pg M n r s)]
  by_cases h:x=y<;>simp [h]
theorem Ux (M:Store) (r s:List Nat):jd M (km r) (km s)=some (decide (r=s)):=Pg M 4 r s
theorem av5 (M:Store) (f g:F):jd M f.toD g.toD=some (decide (f=g)):=by obtain ⟨a,b,r⟩:=f;obtain ⟨c,d,s⟩:=g;have e:qm M 5 (km r) (km s)=some (decide (r=s)):=Pg M 3 r s;show Dj (qm M 5) [.int a,.int b,km r] [.int c,.int d,km s]=_;rw [xm (Fv M 4 a c) (xm (Fv M 4 b d) (xm e (show Dj (qm M 5) [] []=some true from rfl)))];simp
theorem acf (M:Store) (g:F):∀ fs:List F,Gk M g.toD (fs.map F.toD)=some (fs.map λf=>decide (f=g))
 | []=>rfl|f :: fs=>by simp only [List.map_cons,Gk,av5,acf M g fs]
theorem acg (M:Store) (g:F) (fs:List F):memD M g.toD (fs.map F.toD)=some (decide (g∈fs)):=by
 rw [memD,acf,Option.map_some]
 congr 1
 induction fs with
 | nil=>simp
 | cons f fs ih =>
  by_cases h:f=g
  . simp [h]
  . simp only [List.map_cons,List.any_cons,ih,List.mem_cons,id]
    simp [h,Ne.symm h]
noncomputable def pos (g:F):List F->Nat
 | []=>0|f :: fs=>if f=g then 0 else pos g fs+1
theorem aq7 (M:Store) (g:F) (fs:List F):Qu M g.toD (fs.map F.toD)=if g∈fs then some (pos g fs) else none:=by
 rw [Qu,acf,Option.bind_some]
 induction fs with
 | nil=>simp
 | cons f fs ih =>
  rw [List.map_cons,List.findIdx?_cons,ih,pos]
  by_cases h:f=g
  . simp [h]
  . by_cases h2:g∈fs<;>simp [h,Ne.symm h,h2]
theorem Ph (g:F):∀ {fs:List F},g∈fs->fs[pos g fs]?=some g
 | f :: fs,h=>by
  by_cases e:f=g
  . simp [pos,e]
  . have:g∈fs:=by
     rcases List.mem_cons.mp h with q | q
     . exact absurd q.symm e
     . exact q
    simp [pos,e,Ph g this]
theorem Uy {fs:List F} (nd:fs.Nodup) {i:Nat} {f:F} (h:fs[i]?=some f):pos f fs=i:=by have m:f∈fs:=List.mem_of_getElem? h;have g:=Ph f m;obtain ⟨l1,e1⟩:=List.getElem?_eq_some_iff.mp h;obtain ⟨l2,e2⟩:=List.getElem?_eq_some_iff.mp g;exact (List.getElem_inj nd).mp (e2.trans e1.symm)
noncomputable def F.comp (f g:F):F:=⟨f.a,g.b,f.r.map λx=>g.r.getD x 0⟩
noncomputable def F.Dy (f:F):Prop:=f.a=f.b/\f.r=List.range f.r.length
instance (f:F):Decidable f.Dy:=inferInstanceAs (Decidable (_/\_))
structure Kz (sz:Nat->Nat) (f:F):Prop where
 a:f.a < 3
 b:f.b < 3
 len:f.r.length=sz f.a
 ran:∀ x∈f.r,x < sz f.b
noncomputable def Sz (sz:Nat->Nat):Prop:=∀ k,1 <= sz k/\sz k <= 4
noncomputable def Good (sz:Nat->Nat) (fs:List F):Prop:=∀ f∈fs,Kz sz f
theorem getD_mem {r:List Nat} {x:Nat} (h:x < r.length):r.getD x 0∈r:=by rw [List.getD_eq_getElem?_getD,List.getElem?_eq_getElem h];exact List.getElem_mem h
theorem Kz.comp {sz:Nat->Nat} {f g:F} (hf:Kz sz f) (hg:Kz sz g) (h:f.b=g.a):Kz sz (f.comp g):=by
 refine ⟨hf.a,hg.b,by simp [F.comp,hf.len],λx hx=>?_⟩;obtain ⟨y,hy,rfl⟩:=List.mem_map.mp hx;have:y < g.r.length:=by rw [hg.len,<- h];exact hf.ran y hy
 exact hg.ran _ (getD_mem this)
theorem Rz (r:List Nat):(List.range r.length).map (λx=>r.getD x 0)=r:=by
 apply List.ext_getElem?;intro i
 by_cases h:i < r.length
 . simp [h,List.getElem?_range h]
 . simp [Nat.le_of_not_lt h,List.getElem?_eq_none]
theorem Uz {sz:Nat->Nat} {f g h:F} (hf:Kz sz f) (hg:Kz sz g) (e1:f.b=g.a):(f.comp g).comp h=f.comp (g.comp h):=by
 simp only [F.comp,List.map_map,F.mk.injEq,true_and];apply List.map_congr_left;intro x hx;have:x < g.r.length:=by rw [hg.len,<- e1];exact hf.ran x hx
 simp [this]
noncomputable def idF (sz:Nat->Nat) (k:Nat):F:=⟨k,k,List.range (sz k)⟩
theorem Pj {sz:Nat->Nat} {f:F} (hf:Kz sz f) (h:f.Dy):f=idF sz f.a:=by obtain ⟨a,b,r⟩:=f;obtain ⟨h1,h2⟩:=h;have:=hf.len;simp only [idF] at *;subst h1;rw [<- this,<- h2]
theorem id_comp {sz:Nat->Nat} {f:F} (hf:Kz sz f):(idF sz f.a).comp f=f:=by obtain ⟨a,b,r⟩:=f;have:=hf.len;simp only [idF,F.comp] at *;rw [<- this,Rz]
theorem comp_id {sz:Nat->Nat} {f:F} (hf:Kz sz f):f.comp (idF sz f.b)=f:=by
 obtain ⟨a,b,r⟩:=f;have:=hf.ran;simp only [idF,F.comp,F.mk.injEq,true_and] at *
 conv=>rhs;rw [<- List.map_id r]
 apply List.map_congr_left;intro x hx;simp [List.getElem?_range (this x hx)]
noncomputable def Bt (fs:List F):Prop:=∀ f∈fs,∀ g∈fs,f.b=g.a->f.comp g∈fs \/ (f.comp g).Dy
theorem call_of {m f:Nat} {Fx:Fn} {ds:List D} {M:Store} (hm:1 <= m) (hf:prog.fns[f]?=some Fx):prog.call m f ds M=Fx.run ⟨prog.call (m - 1),prog.cls⟩ ds M:=by obtain ⟨n,rfl⟩:∃ n,m=n+1:=⟨m - 1,by omega⟩;simp [Prog.call,hf]
noncomputable def alc (n:Int) (f:Bool):Prop:=0 <= n/\(f=false->n < 2147483647)
noncomputable def Wm (t:Nat) (f:Bool) (M:Store):Prop:=∃ n,M[t]?=some (.lst [.int n,.bl f])/\alc n f
structure St (t:Nat) (f:Bool) (M M':Store):Prop where
 len:M.length <= M'.length
 has:Wm t f M'
 keep:∀ (a:Nat) (o:MO),a≠t->M[a]?=some o->M'[a]?=some o
theorem St.trans {t:Nat} {f:Bool} {M M1 M2:Store} (a:St t f M M1) (b:St t f M1 M2):St t f M M2 :=
 ⟨Nat.le_trans a.len b.len,b.has,λx o n h=>b.keep x o n (a.keep x o n h)⟩
theorem St.of {t:Nat} {f:Bool} {M M':Store} (h:Wm t f M) (k:fu M M'):St t f M M' :=
 ⟨k.len,let ⟨n,a,b⟩:=h;⟨n,k _ _ a,b⟩,λa o _ e=>k a o e⟩
theorem vz {m t:Nat} {many:Int} {f:Bool} {M:Store} (hm:1 <= m) (hs:Wm t f M) (hp:0 < many) (hq:many < 1073741824) :
 ∃ (v:Nat) (M':Store),prog.call m 14 [.ref t,.int many] M=.ok (.int v) M'/\(v:Int) < many/\St t f M M'/\M'.length=M.length:=by
 obtain ⟨n,h,hn⟩:=hs;rw [call_of hm rfl];have hl:=cz h;have g0:=uc hl (i:=0) (by decide) rfl;have g1:=uc hl (i:=1) (by decide) rfl;have fin:∀ n':Int,alc n' f->St t f M (M.set t (.lst [.int n',.bl f])):=λn' o=>⟨by simp,⟨n',dq h,o⟩,λa u e q=>by rw [ir (Ne.symm e)];exact q⟩
 have hm0:many≠0:=by omega
 have c1:∀ y:Int,∃ v:Nat,y % many=(v:Int)/\(v:Int) < many:=λy=>by have a:=Int.emod_nonneg y hm0;have b:=Int.emod_lt_of_pos y hp;exact ⟨(y % many).toNat,by omega,by omega⟩
 cases f with
 | true =>
  obtain ⟨v,e,l⟩:=c1 n;refine ⟨v,_,?_,l,fin (n / many) ⟨Int.ediv_nonneg hn.1 (by omega),by simp⟩,by simp⟩;simp [Fn.run,Bk,Bj,g0,g1,hp,Lw _ _ hp hq,Vu h,e]
 | false =>
  have h1:=hn.1;have h2:=hn.2 rfl;obtain ⟨n',en⟩:∃ n',(n * 48271+29) % 2147483647=n':=⟨_,rfl⟩;have e1:0 <= n':=en ▸ Int.emod_nonneg _ (by decide)
  have e2:n' < 2147483647:=en ▸ Int.emod_lt_of_pos _ (by decide)
  obtain ⟨x,ex⟩:∃ x,(n' * n'+39373 * n'+7) % 2147483629=x:=⟨_,rfl⟩;have x1:0 <= x:=ex ▸ Int.emod_nonneg _ (by decide)
  have x2:x < 2147483629:=ex ▸ Int.emod_lt_of_pos _ (by decide)
  obtain ⟨y,ey⟩:∃ y,(x * x+16807 * x) % 2147483587=y:=⟨_,rfl⟩;obtain ⟨v,e,l⟩:=c1 (y / 8);refine ⟨v,_,?_,l,fin n' ⟨e1,λ_=>e2⟩,by simp⟩;have k:=dq (o:=.lst [.int n',.bl false]) h;have k0:=uc (cz k) (i:=0) (by decide) rfl;simp [Fn.run,Bk,Bj,g0,g1,hp,Vu h,Ar n 48271 (.inr (by decide)),en,k0,Ar n' n' (.inl (by omega)),Ar 39373 n' (.inl (by decide)),ex,Ar x x (.inl (by omega)),Ar 16807 x (.inl (by decide)),ey,Lw _ 8 (by decide) (by decide),e]
theorem Wn {m k:Nat} {ns:List Int} {M:Store} (hm:1 <= m):prog.call m 12 [.fz (ns.map D.int),.int k] M=.ok (.int (ns.getD k 0)) M:=by
 rw [call_of hm rfl]
 by_cases hk:k < ns.length
 . simp [Fn.run,uv,ur,aae,hk,aox (ds:=ns.map D.int) (i:=k) (x:=.int (ns.getD k 0)) (by omega) (by simp [hk])]
 . simp [Fn.run,uv,ur,aae,hk]
theorem R8 {m k:Nat} {ns:List Int} {M:Store} (hm:2 <= m):∃ n f,prog.call m 13 [.fz (ns.map D.int),.int k] M=.ok (.ref M.length) (M ++ [.lst [.int n,.bl f]])/\alc n f:=by
 rw [call_of (by omega) rfl]
 by_cases h:(10:Int) ^ 18 <= ns.getD k 0
 . refine ⟨ns.getD k 0 - 10 ^ 18,true,?_,by omega,by simp⟩
   have h':(1000000000000000000:Int) <= ns[k]?.getD 0:=by simpa using h
   simp [Fn.run,zr,zq,Wn (show 1 <= m - 1 by omega),h',MW.new]
 . refine ⟨ns.getD k 0 % 2147483647,false,?_,Int.emod_nonneg _ (by decide),λ_=>Int.emod_lt_of_pos _ (by decide)⟩
   have h':¬ (1000000000000000000:Int) <= ns[k]?.getD 0:=by simpa using h
   simp [Fn.run,zr,zq,Wn (show 1 <= m - 1 by omega),h',MW.new]
theorem Wo (n:Nat) (i:Nat) (M:Store) (h:i < n):(Src.con ((List.range n).map λ(k:Nat)=>D.int (k:Int))).item i M=some (.int i):=by simp [Src.item,List.getElem?_range h]
theorem Wq (n:Nat):(Src.con ((List.range n).map λ(k:Nat)=>D.int (k:Int))).len=n:=by simp [Src.len]
section
variable {m t:Nat} {f:Bool} {M:Store}
theorem ach {a1 a2 a3 a4 a5 a7 a8 a9 a10 a11:Option D} {K:Nat} (hm:1 <= m) (hs:Wm t f M) (hK:K <= 3) :
 ∃ (xf:List Nat) (M':Store),uy.den ⟨prog.call m,prog.cls⟩ [some (.ref t),a1,a2,a3,a4,a5,some (.int K),a7,a8,a9,a10,a11] M=.ok (.vl (xf.map nD)) M'/\xf.length=K/\(∀ x∈xf,1 <= x/\x <= 3)/\St t f M M'/\M'.length=M.length:=by
 unfold uy;rw [Ao];have hK':K <= 100000:=by omega
 simp [hK'];have h:=Ft (fin:=λ_=>true) (item:=(Src.con ((List.range K).map λ(k:Nat)=>D.int (k:Int))).item)
  (body:=λd M=>((prog.call m 14 [D.ref t,D.int 3] M).bind λy M2=>qp .add (.int 1) y M2).bind λx M'=>Res.ok (some x) M')
  (λi xs M'=>∃ xf:List Nat,xs=xf.map nD/\xf.length=i/\(∀ x∈xf,1 <= x/\x <= 3)/\St t f M M'/\M'.length=M.length) (n:=K)
  (λi xs M' hi hI=>by
   obtain ⟨xf,rfl,rfl,h1,h2,h3⟩:=hI;obtain ⟨v,M2,e,l,s2,l2⟩:=vz hm h2.has (many:=3) (by decide) (by decide);refine ⟨.int xf.length,some (.int (1+v)),M2,Wo K _ M' hi,by simp [e],xf ++ [1+v],by simp [nD],by simp,λx hx=>?_,h2.trans s2,by omega⟩;rcases List.mem_append.mp hx with q | q
   . exact h1 x q
   . have:x=1+v:=by simpa using q
     omega) (λ_ _ _=>rfl) K 0 [] M (by omega) ⟨[],rfl,rfl,by simp,St.of hs (fu.refl M),rfl⟩
 obtain ⟨ys,M',e,xf,h1,h2,h3,h4,h5⟩:=h;refine ⟨xf,M',?_,h2,h3,h4,h5⟩;rw [gf,Wq,if_pos (by omega),show (Src.con ((List.range _).map λ(k:Nat)=>D.int (k:Int))).fin=λ_=>true from rfl,e];simp at h1;simp [h1]
theorem ald {a1 a2 a3 a4 a5 a6 a8 a9:Option D} {xf:List Nat} {i j:Nat} (hm:1 <= m) (hs:Wm t f M) (h3:∀ x∈xf,1 <= x/\x <= 3) (hi:i < xf.length) (hj:j < xf.length) :
 ∃ (r:List Nat) (M':Store),uw.den ⟨prog.call m,prog.cls⟩ [some (.ref t),a1,a2,a3,a4,a5,a6,some (.vl (xf.map nD)),a8,a9,some (.int i),some (.int j)] M=.ok (.vl (r.map nD)) M' /\
  r.length=xf.getD i 0/\(∀ x∈r,x < xf.getD j 0)/\St t f M M'/\M'.length=M.length:=by
 unfold uw;rw [Ao];have gi:=uc (M:=M) (d:=.vl (xf.map nD)) (i:=i) (x:=.int ((xf.getD i 0:Nat):Int)) rfl (by omega) (by simp [hi,nD]);have gj:∀ M',jm (.vl (xf.map nD)) (.int j) M'=some (.int ((xf.getD j 0:Nat):Int)):=λM'=>uc rfl (by omega) (by simp [hj,nD])
 have bi:=h3 _ (getD_mem hi);have bj:=h3 _ (getD_mem hj);generalize ea:xf.getD i 0=a at *;generalize eb:xf.getD j 0=b at *;have ha:a <= 100000:=by omega
 simp [gi,gj,ha];have h:=Ft (fin:=λ_=>true) (item:=(Src.con ((List.range a).map λ(k:Nat)=>D.int (k:Int))).item)
  (body:=λd M=>(prog.call m 14 [D.ref t,D.int b] M).bind λx M'=>Res.ok (some x) M')
  (λi xs M'=>∃ r:List Nat,xs=r.map nD/\r.length=i/\(∀ x∈r,x < b)/\St t f M M'/\M'.length=M.length) (n:=a)
  (λi xs M' hi hI=>by
   obtain ⟨r,rfl,rfl,h1,h2,h3⟩:=hI;obtain ⟨v,M2,e,l,s2,l2⟩:=vz hm h2.has (many:=b) (by omega) (by omega);refine ⟨.int r.length,some (.int v),M2,Wo a _ M' hi,by simp [e],r ++ [v],by simp [nD],by simp,λx hx=>?_,h2.trans s2,by omega⟩;rcases List.mem_append.mp hx with q | q
   . exact h1 x q
   . have:x=v:=by simpa using q
     omega) (λ_ _ _=>rfl) a 0 [] M (by omega) ⟨[],rfl,rfl,by simp,St.of hs (fu.refl M),rfl⟩
 obtain ⟨ys,M',e,r,h1,h2,h3,h4,h5⟩:=h;refine ⟨r,M',?_,h2,h3,h4,h5⟩;rw [gf,Wq,if_pos (by omega),show (Src.con ((List.range _).map λ(k:Nat)=>D.int (k:Int))).fin=λ_=>true from rfl,e];simp at h1;simp [h1]
end
section
variable {m t:Nat} {f:Bool} {M:Store}
theorem Pk {v K p:Nat} {xf:List Nat} {a9 a10 a11:Option D} (hm:1 <= m) (hs:Wm t f M) (hK:xf.length=K) (hK1:1 <= K) (hK3:K <= 3) (h3:∀ x∈xf,1 <= x/\x <= 3) (hp:M[p]?=some (.lst [])) (hpt:p≠t) :
 ∃ (fs:List F) (ρ':Env) (M':Store),ux.den ⟨prog.call m,prog.cls⟩ [some (.ref t),some (.int v),none,none,none,none,some (.int K),some (.vl (xf.map nD)),some (.ref p),a9,a10,a11] M=.ok (.next,ρ') M' /\
  ρ'[8]?=some (some (.ref p))/\M'[p]?=some (.lst (fs.map F.toD))/\fs.length <= 3/\Good (λk=>xf.getD k 1) fs/\M.length <= M'.length/\Wm t f M'/\(∀ (a:Nat) (o:MO),a≠t->a≠p->M[a]?=some o->M'[a]?=some o):=by
 obtain ⟨w,M1,e1,l1,s1,ll1⟩:=vz hm hs (many:=4) (by decide) (by decide);unfold ux;rw [Gm];have hw:w <= 100000:=by omega
 simp [e1,hw];obtain ⟨ρ',M',e,fs,b9,b10,b11,rfl,h1,h2,h4,h5,h6,h7⟩:=Pa (n:=w) (body:=λd ρ M=>kj.den ⟨prog.call m,prog.cls⟩ (ρ.set 9 (some d)) M)
  (λi ρ M'=>∃ (fs:List F) (b9 b10 b11:Option D),ρ=[some (.ref t),some (.int v),none,none,none,none,some (.int K),some (.vl (xf.map nD)),some (.ref p),b9,b10,b11] /\
   M'[p]?=some (.lst (fs.map F.toD))/\fs.length=i/\Good (λk=>xf.getD k 1) fs/\M.length <= M'.length/\Wm t f M'/\(∀ (a:Nat) (o:MO),a≠t->a≠p->M[a]?=some o->M'[a]?=some o))
  (M:=M1) ⟨[],a9,a10,a11,rfl,by simpa using s1.keep p _ hpt hp,rfl,by intro f hf;simp at hf,s1.len,s1.has,λa o na _ h=>s1.keep a o na h⟩
  (λi ρ M2 hi hI=>by
   obtain ⟨fs,b9,b10,b11,rfl,g1,g2,g3,g4,g5,g6⟩:=hI;obtain ⟨x,M3,ex,lx,sx,llx⟩:=vz hm g5 (many:=K) (by omega) (by omega);obtain ⟨y,M4,ey,ly,sy,lly⟩:=vz hm sx.has (many:=K) (by omega) (by omega);obtain ⟨r,M5,er,lr,rr,sr,llr⟩:=ald (a1:=some (.int v)) (a2:=none) (a3:=none) (a4:=none) (a5:=none) (a6:=some (.int K)) (a8:=some (.ref p)) (a9:=some (.int i)) (i:=x) (j:=y) hm sy.has h3 (by omega) (by omega);have gp:=sr.keep p _ hpt (sy.keep p _ hpt (sx.keep p _ hpt g1));have hl:(fs.map F.toD).length < 100000:=by rw [List.length_map];omega
   refine ⟨.next,_,M5.set p (.lst (fs.map F.toD ++ [F.toD ⟨x,y,r⟩])),?_,.inl rfl,fs ++ [⟨x,y,r⟩],some (.int i),some (.int x),some (.int y),rfl,?_,by simp [g2],?_,?_,?_,?_⟩
   . simp [kj,ex,ey,er,vd gp hl,v7 (sy.keep p _ hpt (sx.keep p _ hpt g1)),dj,F.toD,km]
   . rw [dq gp];simp
   . intro f hf
     rcases List.mem_append.mp hf with q | q
     . exact g3 f q
     . have:f=⟨x,y,r⟩:=by simpa using q
       subst this;refine ⟨by show x < 3;omega,by show y < 3;omega,?_,?_⟩
       . show r.length=xf.getD x 1
         rw [lr];simp [List.getD_eq_getElem?_getD,List.getElem?_eq_getElem (show x < xf.length by omega)]
       . intro z hz
         have:=rr z hz;show z < xf.getD y 1
         simp [List.getD_eq_getElem?_getD,List.getElem?_eq_getElem (show y < xf.length by omega)] at this ⊢;exact this
   . have:=sr.len;have:=sy.len;have:=sx.len;simp;omega
   . obtain ⟨n',q1,q2⟩:=sr.has
     exact ⟨n',by rw [ir hpt];exact q1,q2⟩
   . intro a o na nb h
     rw [ir (Ne.symm nb)];exact sr.keep a o na (sy.keep a o na (sx.keep a o na (g6 a o na nb h))))
 have e':my (Src.con ((List.range w).map λ(k:Nat)=>D.int (k:Int))).fin (Src.con ((List.range w).map λ(k:Nat)=>D.int (k:Int))).item (λd ρ M=>kj.den ⟨prog.call m,prog.cls⟩ (ρ.set 9 (some d)) M) (Src.con ((List.range w).map λ(k:Nat)=>D.int (k:Int))).len 0 [some (.ref t),some (.int v),none,none,none,none,some (.int K),some (.vl (xf.map nD)),some (.ref p),a9,a10,a11] M1=_:=e;exact ⟨fs,[some (.ref t),some (.int v),none,none,none,none,some (.int K),some (.vl (xf.map nD)),some (.ref p),b9,b10,b11],M',e',rfl,h1,by omega,h4,h5,h6,h7⟩
end
section
variable {m t:Nat} {f:Bool} {M:Store}
theorem aci (hm:2 <= m) (hs:Wm t f M):∃ (d:D) (M':Store) (fs:List F) (sz:Nat->Nat),prog.call m 15 [.ref t] M=.ok d M'/\asList M' d=some (fs.map F.toD)/\(∀ n,d=.ref n->n≠t)/\Sz sz/\Good sz fs/\fs.length <= 3/\St t f M M':=by
 have hm1:1 <= m - 1:=by omega
 obtain ⟨v,M1,e1,l1,s1,ll1⟩:=vz hm1 hs (many:=12) (by decide) (by decide);rw [call_of (by omega) rfl]
 by_cases hv:v < 7
 . have hv':(v:Int) < 7:=by omega
   have key:∀ (fs:List F) (sz:Nat->Nat),jr.run ⟨prog.call (m - 1),prog.cls⟩ [.ref t] M=.ok (.vl (fs.map F.toD)) M1->Sz sz->Good sz fs->fs.length <= 3 ->
    ∃ (d:D) (M':Store) (fs:List F) (sz:Nat->Nat),jr.run ⟨prog.call (m - 1),prog.cls⟩ [.ref t] M=.ok d M'/\asList M' d=some (fs.map F.toD)/\(∀ n,d=.ref n->n≠t)/\Sz sz/\Good sz fs/\fs.length <= 3/\St t f M M' :=
    λfs sz a b c d=>⟨_,M1,fs,sz,a,rfl,λn h=>(by cases h),b,c,d,s1⟩
   have run:∀ d,jm (.vl [.vl [.tup [.int 0,.int 1,.tup [.int 0,.int 1]],.tup [.int 0,.int 1,.tup [.int 1,.int 0]]],.vl [.tup [.int 0,.int 1,.tup [.int 0,.int 0,.int 1,.int 1]],.tup [.int 0,.int 1,.tup [.int 0,.int 1,.int 0,.int 1]],.tup [.int 1,.int 0,.tup [.int 0,.int 3]]],
    .vl [.tup [.int 0,.int 0,.tup [.int 1,.int 0]]],.vl [.tup [.int 0,.int 0,.tup [.int 1,.int 2,.int 0]]],.vl [.tup [.int 0,.int 0,.tup [.int 0,.int 0]]],.vl [],.vl [.tup [.int 0,.int 1,.tup [.int 0,.int 1]],.tup [.int 1,.int 2,.tup [.int 0,.int 0,.int 1]]]]) (.int v) M1=some d ->
    jr.run ⟨prog.call (m - 1),prog.cls⟩ [.ref t] M=.ok d M1:=λd hd=>by simp [Fn.run,jr,zu,e1,hv',hd]
   have cs:v=0 \/ v=1 \/ v=2 \/ v=3 \/ v=4 \/ v=5 \/ v=6:=by omega
   rcases cs with rfl | rfl | rfl | rfl | rfl | rfl | rfl
   . refine key [⟨0,1,[0,1]⟩,⟨0,1,[1,0]⟩] (λ_=>2) ?_ (λk=>by simp) (λf hf=>?_) (by decide)
     . exact run _ rfl
     . simp at hf;rcases hf with rfl | rfl<;>exact ⟨by decide,by decide,by decide,by decide⟩
   . refine key [⟨0,1,[0,0,1,1]⟩,⟨0,1,[0,1,0,1]⟩,⟨1,0,[0,3]⟩] (λk=>if k=0 then 4 else 2) ?_ (λk=>by dsimp only;split<;>omega) (λf hf=>?_) (by decide)
     . exact run _ rfl
     . simp at hf;rcases hf with rfl | rfl | rfl<;>exact ⟨by decide,by decide,by decide,by decide⟩
   . refine key [⟨0,0,[1,0]⟩] (λ_=>2) ?_ (λk=>by simp) (λf hf=>?_) (by decide)
     . exact run _ rfl
     . simp at hf;subst hf;exact ⟨by decide,by decide,by decide,by decide⟩
   . refine key [⟨0,0,[1,2,0]⟩] (λ_=>3) ?_ (λk=>by simp) (λf hf=>?_) (by decide)
     . exact run _ rfl
     . simp at hf;subst hf;exact ⟨by decide,by decide,by decide,by decide⟩
   . refine key [⟨0,0,[0,0]⟩] (λ_=>2) ?_ (λk=>by simp) (λf hf=>?_) (by decide)
     . exact run _ rfl
     . simp at hf;subst hf;exact ⟨by decide,by decide,by decide,by decide⟩
   . refine key [] (λ_=>1) ?_ (λk=>by simp) (λf hf=>?_) (by decide)
     . exact run _ rfl
     . simp at hf
   . refine key [⟨0,1,[0,1]⟩,⟨1,2,[0,0,1]⟩] (λk=>if k=1 then 3 else 2) ?_ (λk=>by dsimp only;split<;>omega) (λf hf=>?_) (by decide)
     . exact run _ rfl
     . simp at hf;rcases hf with rfl | rfl<;>exact ⟨by decide,by decide,by decide,by decide⟩
 . have hv':¬ (v:Int) < 7:=by omega
   obtain ⟨u,M2,e2,l2,s2,ll2⟩:=vz hm1 s1.has (many:=3) (by decide) (by decide);obtain ⟨K,eK,hKu⟩:∃ K:Nat,(1:Int)+(u:Int)=(K:Int)/\K=1+u:=⟨1+u,by omega,rfl⟩;obtain ⟨xf,M3,e3,l3,r3,s3,ll3⟩:=ach (a1:=some (.int v)) (a2:=none) (a3:=none) (a4:=none) (a5:=none) (a7:=none) (a8:=none) (a9:=none) (a10:=none) (a11:=none) (K:=K) hm1 s2.has (by omega);have htl:t < M3.length:=by obtain ⟨n,h,_⟩:=s3.has;exact il h
   have h4:Wm t f (M3 ++ [.lst []]):=by obtain ⟨n,h,o⟩:=s3.has;exact ⟨n,iu h,o⟩
   obtain ⟨fs,ρ',M5,e5,q8,q1,q2,q3,q4,q5,q6⟩:=Pk (v:=v) (K:=K) (p:=M3.length) (a9:=none) (a10:=none) (a11:=none) hm1 h4 l3 (by omega) (by omega) r3 (by simp) (by omega);refine ⟨.ref M3.length,M5,fs,λk=>xf.getD k 1,?_,cz q1,λn h=>by cases h;omega,λk=>?_,q3,q2,?_⟩
   . simp [Fn.run,jr,zu,e1,hv',e2,eK,e3,MW.new,e5,q8]
   . show 1 <= xf.getD k 1/\xf.getD k 1 <= 4
     by_cases h:k < xf.length
     . have:=r3 _ (getD_mem h)
       simp [List.getD_eq_getElem?_getD,h] at this ⊢;omega
     . simp [List.getD_eq_getElem?_getD,h]
   . refine s1.trans (s2.trans (s3.trans ⟨?_,q5,λa o na h=>q6 a o na ?_ (iu h)⟩))
     . have:=q4;simp at this;omega
     . have:=il h;omega
end
structure Up (p:Nat) (M M':Store):Prop where
 len:M'.length=M.length
 oth:∀ a:Nat,a≠p->M'[a]?=M[a]?
theorem Up.refl (p:Nat) (M:Store):Up p M M:=⟨rfl,λ_ _=>rfl⟩
theorem Up.trans {p:Nat} {M M1 M2:Store} (a:Up p M M1) (b:Up p M1 M2):Up p M M2:=⟨b.len.trans a.len,λx h=>(b.oth x h).trans (a.oth x h)⟩
theorem Up.set (p:Nat) (M:Store) (o:MO):Up p M (M.set p o):=⟨by simp,λa h=>ir (Ne.symm h)⟩
theorem Dz {M:Store} {p:Nat} {ds:List D} {x:D} (h:M[p]?=some (.lst ds)):Ei M x (.ref p)=memD M x ds:=by simp [Ei,h,gr,asList]
theorem Ht (f:F) (M:Store):jm f.toD (.int 0) M=some (.int f.a):=rfl
theorem Hu (f:F) (M:Store):jm f.toD (.int 1) M=some (.int f.b):=rfl
theorem acj (f:F) (M:Store):jm f.toD (.int 2) M=some (km f.r):=rfl
theorem Bu (M:Store) (r:List Nat) (n:Nat):jd M (km r) (.tup ((List.range n).map λ(k:Nat)=>D.int (k:Int)))=some (decide (r=List.range n)):=Ux M r (List.range n)
theorem eq_nil (M:Store) (r:List Nat):jd M (km r) (.tup [])=some (decide (r=[])):=Ux M r []
theorem gw (M:Store) (a b:Nat):jd M (.int a) (.int b)=some (decide (a=b)):=by rw [eq_int,Wl]
theorem v5 (M:Store) (r:List Nat):dj .len [km r] M=.ok (.int r.length) M:=by simp [dj,gr,km]
theorem G7 (M:Store) (ds:List D):dj .tuple [.vl ds] M=.ok (.tup ds) M:=by simp [dj,gr]
theorem Pn (M:Store) (r:List Nat):dj .tuple [.vl (r.map nD)] M=.ok (km r) M:=G7 M _
theorem U0 {sz:Nat->Nat} {f:F} (hz:Sz sz) (h:Kz sz f):1 <= f.r.length/\f.r.length <= 4:=by rw [h.len];exact hz _
theorem agz (M:Store) (r:List Nat):srcOf M (km r)=some (.con (r.map nD)):=rfl
theorem ack (M:Store) (r:List Nat) {x:Nat} (h:x < r.length):jm (km r) (.int x) M=some (.int (r.getD x 0)):=Dg (by omega) (by simp [h,nD])
section
variable {W:jz} {M:Store} {sz:Nat->Nat}
theorem acn {f g:F} {a0 a1 a2 a3 a4 a5 a6 a9:Option D} (hz:Sz sz) (hf:Kz sz f) (hg:Kz sz g) (h:f.b=g.a) :
 qx.den W [a0,a1,a2,a3,a4,a5,a6,some f.toD,some g.toD,a9] M=.ok (.vl ((f.comp g).r.map nD)) M:=by
 have hsm:(f.r.map nD).length <= 100000:=by rw [List.length_map,hf.len];have:=hz f.a;omega
 unfold qx;rw [Ao];simp [acj,agz];have:=Pb (M:=M) (ds:=f.r.map nD) (g:=λd=>match d with | .int i=>nD (g.r.getD i.toNat 0) | _=>.non)
  (body:=λd M=>((Res.ofOpt (jm (km g.r) d M) M).bind λx M'=>Res.ok (some x) M')) hsm (λd hd=>by
   obtain ⟨x,hx,rfl⟩:=List.mem_map.mp hd;have hx':x < g.r.length:=by rw [hg.len,<- h];exact hf.ran x hx
   rw [show nD x=D.int (x:Int) from rfl,ack M g.r hx'];simp [nD])
 rw [this];simp [F.comp,nD]
noncomputable def zx (gs:List F) (f g:F):List F:=if f.b=g.a/\f.comp g ∉ gs/\¬ (f.comp g).Dy then gs ++ [f.comp g] else gs
theorem U3 (f g:F):D.tup [.int f.a,.int g.b,km (f.comp g).r]=(f.comp g).toD:=rfl
theorem Kc {f g:F} {gs:List F} {p:Nat} {a0 a2 a3 a4 a5 a6 a9:Option D} (hz:Sz sz) (hf:Kz sz f) (hg:Kz sz g) (hp:M[p]?=some (.lst (gs.map F.toD))) (hl:gs.length < 100000) :
 ∃ (b4 b9:Option D) (M':Store),jg.den W [a0,some (.ref p),a2,a3,a4,a5,a6,some f.toD,some g.toD,a9] M=.ok (.next,[a0,some (.ref p),a2,a3,b4,a5,a6,some f.toD,some g.toD,b9]) M' /\
  M'[p]?=some (.lst ((zx gs f g).map F.toD))/\Up p M M':=by
 by_cases h:f.b=g.a
 . have hc:=acn (W:=W) (M:=M) (a0:=a0) (a1:=some (.ref p)) (a2:=a2) (a3:=a3) (a4:=some (.tup [])) (a5:=a5) (a6:=a6) (a9:=a9) hz hf hg h
   have hr:(f.comp g).r≠[]:=λe=>by have:=(U0 hz (hf.comp hg h)).1;rw [e] at this;simp at this
   have hlen:(f.comp g).r.length <= 100000:=by have:=(U0 hz (hf.comp hg h)).2;omega
   have hmem:=acg M (f.comp g) gs;have e0:(f.comp g).a=f.a:=rfl;have e1:(f.comp g).b=g.b:=rfl;have ap:=vd (d:=(f.comp g).toD) hp (by rw [List.length_map];exact hl);have key:∃ T:Res (Flow×Env),jg.den W [a0,some (.ref p),a2,a3,a4,a5,a6,some f.toD,some g.toD,a9] M=T/\(f.comp g∈gs->T=.ok (.next,[a0,some (.ref p),a2,a3,some (km (f.comp g).r),a5,a6,some f.toD,some g.toD,some (f.comp g).toD]) M)/\(f.comp g ∉ gs->(f.comp g).Dy->T=.ok (.next,[a0,some (.ref p),a2,a3,some (km (f.comp g).r),a5,a6,some f.toD,some g.toD,some (f.comp g).toD]) M) /\
    (f.comp g ∉ gs->¬ (f.comp g).Dy->T=.ok (.next,[a0,some (.ref p),a2,a3,some (km (f.comp g).r),a5,a6,some f.toD,some g.toD,some (f.comp g).toD]) (M.set p (.lst ((gs ++ [f.comp g]).map F.toD)))):=by
    refine ⟨_,(by simp [-eq_int,jg,Ht,Hu,gw,h,hc,Pn,U3,eq_nil,hr,Dz hp,hmem];exact rfl),?_,?_,?_⟩
    . intro m;simp [m]
    . intro m i;simp [-eq_int,m,Ht,Hu,gw,i.1,v5,hlen,Bu,decide_eq_true i.2]
    . intro m i
      by_cases i1:(f.comp g).a=(f.comp g).b
      . have i2:¬ (f.comp g).r=List.range (f.comp g).r.length:=λq=>i ⟨i1,q⟩
        simp [-eq_int,Ht,Hu,gw,m,i1,v5,hlen,Bu,i2,v7 hp,ap]
      . simp [-eq_int,Ht,Hu,gw,m,i1,v5,hlen,Bu,v7 hp,ap]
   obtain ⟨T,e,k1,k2,k3⟩:=key
   by_cases m:f.comp g∈gs
   . exact ⟨_,_,M,e.trans (k1 m),by rw [zx,if_neg (λq=>q.2.1 m)];exact hp,Up.refl p M⟩
   . by_cases i:(f.comp g).Dy
     . exact ⟨_,_,M,e.trans (k2 m i),by rw [zx,if_neg (λq=>q.2.2 i)];exact hp,Up.refl p M⟩
     . exact ⟨_,_,_,e.trans (k3 m i),by rw [zx,if_pos ⟨h,m,i⟩,dq hp],Up.set _ _ _⟩
 . refine ⟨some (.tup []),some (.tup [.int f.a,.int g.b,.tup []]),M,?_,by rw [zx,if_neg (λq=>h q.1)];exact hp,Up.refl p M⟩
   have:=Ux M [] [];simp [km] at this;simp [-eq_int,jg,Ht,Hu,gw,h,this]
end
structure Inv (sz:Nat->Nat) (gs:List F):Prop where
 good:Good sz gs
 nd:gs.Nodup
 nid:∀ f∈gs,¬ f.Dy
theorem Inv.snoc {sz:Nat->Nat} {gs:List F} {f:F} (h:Inv sz gs) (hf:Kz sz f) (hm:f ∉ gs) (hi:¬ f.Dy):Inv sz (gs ++ [f]):=by
 refine ⟨λx hx=>?_,?_,λx hx=>?_⟩
 . rcases List.mem_append.mp hx with q | q
   . exact h.good x q
   . have:x=f:=by simpa using q
     exact this ▸ hf
 . rw [List.nodup_append]
   refine ⟨h.nd,by simp,λa ha b hb=>?_⟩;have:b=f:=by simpa using hb
   exact λe=>hm (by rw [<- this,<- e];exact ha)
 . rcases List.mem_append.mp hx with q | q
   . exact h.nid x q
   . have:x=f:=by simpa using q
     exact this ▸ hi
noncomputable def Cl2 (gs:List F) (f g:F):Prop:=f.b=g.a->f.comp g∈gs \/ (f.comp g).Dy
theorem Cl2.mono {gs hs:List F} {f g:F} (h:Cl2 gs f g) (s:gs <+: hs):Cl2 hs f g:=λe=>(h e).imp (λm=>s.subset m) id
theorem Bv (gs:List F) (f g:F):gs <+: zx gs f g:=by
 unfold zx;split
 . exact List.prefix_append _ _
 . exact List.prefix_rfl
theorem Kd (gs:List F) (f g:F):(zx gs f g).length <= gs.length+1:=by unfold zx;split<;>simp
theorem R9 {sz:Nat->Nat} {gs:List F} {f g:F} (h:Inv sz gs) (hf:Kz sz f) (hg:Kz sz g):Inv sz (zx gs f g):=by
 unfold zx;split
 . rename_i q;exact h.snoc (hf.comp hg q.1) q.2.1 q.2.2
 . exact h
theorem Wr (gs:List F) (f g:F):Cl2 (zx gs f g) f g:=by
 intro e;unfold zx
 by_cases m:f.comp g∈gs
 . left;split
   . exact List.mem_append_left _ m
   . exact m
 . by_cases i:(f.comp g).Dy
   . exact .inr i
   . left;rw [if_pos ⟨e,m,i⟩];simp
theorem Fw {gs hs:List F} {i:Nat} {f:F} (s:gs <+: hs) (h:gs[i]?=some f):hs[i]?=some f:=by obtain ⟨t,rfl⟩:=s;rw [List.getElem?_append_left (List.getElem?_eq_some_iff.mp h).1];exact h
theorem De {M:Store} {p:Nat} {gs:List F} {i:Nat} {f:F} (hp:M[p]?=some (.lst (gs.map F.toD))) (h:gs[i]?=some f):jm (.ref p) (.int i) M=some f.toD:=uc (cz hp) (by omega) (by simp [h])
theorem zy {M:Store} {p:Nat} {gs:List F} (hp:M[p]?=some (.lst (gs.map F.toD))):dj .len [.ref p] M=.ok (.int gs.length) M:=by rw [len_list (cz hp)];simp
section
variable {W:jz} {M:Store} {sz:Nat->Nat}
theorem ale {f g:F} {gs:List F} {p k j:Nat} {a0 a2 a3 a4 a7 a8 a9:Option D} (hz:Sz sz) (hi:Inv sz gs) (hp:M[p]?=some (.lst (gs.map F.toD))) (hl:gs.length < 90000) (hk:gs[k]?=some f) (hj:gs[j]?=some g) :
 ∃ (b4 b7 b8 b9:Option D) (M':Store),qy.den W [a0,some (.ref p),a2,a3,a4,some (.int k),some (.int j),a7,a8,a9] M=.ok (.next,[a0,some (.ref p),a2,a3,b4,some (.int k),some (.int j),b7,b8,b9]) M' /\
  M'[p]?=some (.lst ((zx (zx gs f g) g f).map F.toD))/\Up p M M':=by
 have hf:=hi.good f (List.mem_of_getElem? hk);have hg:=hi.good g (List.mem_of_getElem? hj);have l1:=Kd gs f g;obtain ⟨b4,b9,M1,e1,p1,u1⟩:=Kc (W:=W) (M:=M) (a0:=a0) (a2:=a2) (a3:=a3) (a4:=a4) (a5:=some (.int k)) (a6:=some (.int j)) (a9:=a9) hz hf hg hp (by omega);obtain ⟨c4,c9,M2,e2,p2,u2⟩:=Kc (W:=W) (M:=M1) (a0:=a0) (a2:=a2) (a3:=a3) (a4:=b4) (a5:=some (.int k)) (a6:=some (.int j)) (a9:=b9) hz hg hf p1 (by omega);refine ⟨c4,some g.toD,some f.toD,c9,M2,?_,p2,u1.trans u2⟩;unfold qy;rw [Gm];simp [De hp hk,De hp hj,srcOf,Src.len,Src.fin,my,Src.item,e1,e2]
theorem ag1 {f:F} {gs:List F} {p k:Nat} {a0 a2 a3 a4 a6 a7 a8 a9:Option D} (hz:Sz sz) (hi:Inv sz gs) (hp:M[p]?=some (.lst (gs.map F.toD))) (hl:gs.length < 10000) (hk:gs[k]?=some f) :
 ∃ (hs:List F) (b4 b6 b7 b8 b9:Option D) (M':Store),q9.den W [a0,some (.ref p),a2,a3,a4,some (.int k),a6,a7,a8,a9] M=.ok (.next,[a0,some (.ref p),a2,a3,b4,some (.int k),b6,b7,b8,b9]) M' /\
  M'[p]?=some (.lst (hs.map F.toD))/\Up p M M'/\gs <+: hs/\Inv sz hs/\hs.length <= 3 * gs.length/\∀ (j:Nat) (g:F),gs[j]?=some g->Cl2 hs f g/\Cl2 hs g f:=by
 unfold q9;rw [Gm];have hl':gs.length <= 100000:=by omega
 simp [zy hp,hl'];obtain ⟨ρ',M',e,hs,b4,b6,b7,b8,b9,rfl,h1,h2,h3,h4,h5,h6⟩:=Pa (n:=gs.length) (body:=λd ρ M=>qz.den W (ρ.set 6 (some d)) M)
  (λi ρ M'=>∃ (hs:List F) (b4 b6 b7 b8 b9:Option D),ρ=[a0,some (.ref p),a2,a3,b4,some (.int k),b6,b7,b8,b9]/\M'[p]?=some (.lst (hs.map F.toD))/\Up p M M'/\gs <+: hs/\Inv sz hs/\hs.length <= gs.length+2 * i /\
   ∀ (j:Nat) (g:F),j < i->gs[j]?=some g->Cl2 hs f g/\Cl2 hs g f) (ρ:=[a0,some (.ref p),a2,a3,a4,some (.int k),a6,a7,a8,a9]) (M:=M)
  ⟨gs,a4,a6,a7,a8,a9,rfl,hp,Up.refl p M,List.prefix_rfl,hi,by omega,λj g h=>absurd h (Nat.not_lt_zero _)⟩
  (λi ρ M2 hlt hI=>by
   obtain ⟨hs,b4,b6,b7,b8,b9,rfl,g1,g2,g3,g4,g5,g6⟩:=hI;have gi:gs[i]?=some gs[i]:=by simp [hlt]
   obtain ⟨c4,c7,c8,c9,M3,e3,p3,u3⟩:=ale (W:=W) (M:=M2) (a0:=a0) (a2:=a2) (a3:=a3) (a4:=b4) (a7:=b7) (a8:=b8) (a9:=b9) hz g4 g1 (by omega) (Fw g3 hk) (Fw g3 gi);have hf:=g4.good f (List.mem_of_getElem? (Fw g3 hk));have hg:=g4.good gs[i] (List.mem_of_getElem? (Fw g3 gi));refine ⟨.next,_,M3,?_,.inl rfl,zx (zx hs f gs[i]) gs[i] f,c4,some (.int i),c7,c8,c9,rfl,p3,g2.trans u3,(g3.trans (Bv _ _ _)).trans (Bv _ _ _),R9 (R9 g4 hf hg) hg hf,?_,?_⟩
   . simp [qz,e3]
   . have:=Kd hs f gs[i]
     have:=Kd (zx hs f gs[i]) gs[i] f;omega
   . intro j g hj hg'
     have pr:=(Bv hs f gs[i]).trans (Bv (zx hs f gs[i]) gs[i] f);rcases Nat.lt_succ_iff_lt_or_eq.mp hj with q | q
     . exact ⟨(g6 j g q hg').1.mono pr,(g6 j g q hg').2.mono pr⟩
     . subst q
       have:g=gs[j]:=by rw [gi] at hg';exact (Option.some.inj hg').symm
       subst this;exact ⟨(Wr _ _ _).mono (Bv _ _ _),Wr _ _ _⟩)
 refine ⟨hs,b4,b6,b7,b8,b9,M',e,h1,h2,h3,h4,by omega,λj g hg=>h6 j g (List.getElem?_eq_some_iff.mp hg).1 hg⟩
end
theorem aco (f:F) (i j k:Nat) (ρ:Env):(Tg.names [i,j,k]).put f.toD ρ=some (((ρ.set i (some (.int f.a))).set j (some (.int f.b))).set k (some (km f.r))):=rfl
noncomputable def Pq (gs:List F) (f:F):List F:=if ¬ f.Dy/\f ∉ gs then gs ++ [f] else gs
noncomputable def ClK (gs:List F) (k:Nat):Prop:=∀ (i j:Nat) (f g:F),i < k->j < k->gs[i]?=some f->gs[j]?=some g->Cl2 gs f g
section
variable {W:jz} {M:Store} {sz:Nat->Nat}
theorem Yi {f:F} {gs:List F} {p:Nat} {a0 a5 a6 a7 a8 a9:Option D} (hz:Sz sz) (hf:Kz sz f) (hp:M[p]?=some (.lst (gs.map F.toD))) (hl:gs.length < 100000) :
 ∃ M',dz.den W [a0,some (.ref p),some (.int f.a),some (.int f.b),some (km f.r),a5,a6,a7,a8,a9] M=.ok (.next,[a0,some (.ref p),some (.int f.a),some (.int f.b),some (km f.r),a5,a6,a7,a8,a9]) M' /\
  M'[p]?=some (.lst ((Pq gs f).map F.toD))/\Up p M M':=by
 have hlen:f.r.length <= 100000:=by have:=(U0 hz hf).2;omega
 have hmem:=acg M f gs;have hD:D.tup [.int f.a,.int f.b,km f.r]=f.toD:=rfl;have ap:=vd (d:=f.toD) hp (by rw [List.length_map];exact hl)
 by_cases i:f.Dy
 . refine ⟨M,?_,by rw [Pq,if_neg (λq=>q.1 i)];exact hp,Up.refl p M⟩
   simp [-eq_int,dz,gw,i.1,v5,hlen,Bu,decide_eq_true i.2]
 . by_cases m:f∈gs
   . refine ⟨M,?_,by rw [Pq,if_neg (λq=>q.2 m)];exact hp,Up.refl p M⟩
     by_cases i1:f.a=f.b
     . have i2:¬ f.r=List.range f.r.length:=λq=>i ⟨i1,q⟩
       simp [i1] at hD;simp [-eq_int,dz,gw,i1,i2,v5,hlen,Bu,hD,Dz hp,hmem,m]
     . simp [-eq_int,dz,gw,i1,v5,hlen,Bu,hD,Dz hp,hmem,m]
   . refine ⟨M.set p (.lst ((gs ++ [f]).map F.toD)),?_,by rw [Pq,if_pos ⟨i,m⟩,dq hp],Up.set _ _ _⟩
     by_cases i1:f.a=f.b
     . have i2:¬ f.r=List.range f.r.length:=λq=>i ⟨i1,q⟩
       simp [i1] at hD;simp [-eq_int,dz,gw,i1,i2,v5,hlen,Bu,hD,Dz hp,hmem,m,v7 hp,ap]
     . simp [-eq_int,dz,gw,i1,v5,hlen,Bu,hD,Dz hp,hmem,m,v7 hp,ap]
theorem acp {gs:List F} {f:F} (h:Inv sz gs) (hf:Kz sz f):Inv sz (Pq gs f):=by
 unfold Pq;split
 . rename_i q;exact h.snoc hf q.2 q.1
 . exact h
theorem acq (gs:List F) (f:F):(Pq gs f).length <= gs.length+1:=by unfold Pq;split<;>simp
theorem Yj {gs:List F} {p:Nat} {a0 a2 a3 a4 a6 a7 a8 a9:Option D} (hz:Sz sz) (hi:Inv sz gs) (hp:M[p]?=some (.lst (gs.map F.toD))) (hl:gs.length <= 3) :
 ∃ (ρ':Env) (M':Store),rm.den W [a0,some (.ref p),a2,a3,a4,some (.int 0),a6,a7,a8,a9] M=.ok (.next,ρ') M'/\ρ'[1]?=some (some (.ref p))/\∃ hs:List F,M'[p]?=some (.lst (hs.map F.toD))/\Up p M M'/\Inv sz hs/\hs.length <= 15 /\
  (hs.length < 6->Bt hs)/\(gs=[]->hs=[]):=by
 unfold rm;rw [Ua];refine G6 (λm ρ M'=>∃ (hs:List F) (k:Nat) (b4 b6 b7 b8 b9:Option D),ρ=[a0,some (.ref p),a2,a3,b4,some (.int k),b6,b7,b8,b9]/\M'[p]?=some (.lst (hs.map F.toD))/\Up p M M'/\Inv sz hs/\hs.length <= 15/\ClK hs k/\k <= 5/\m=10 - k/\(gs=[]->hs=[]))
  (fun ρ' M'=>ρ'[1]?=some (some (.ref p))/\∃ hs:List F,M'[p]?=some (.lst (hs.map F.toD))/\Up p M M'/\Inv sz hs/\hs.length <= 15/\(hs.length < 6->Bt hs)/\(gs=[]->hs=[])) ?_ Xf 10 _ M (by decide)
  ⟨gs,0,a4,a6,a7,a8,a9,rfl,hp,Up.refl p M,hi,by omega,λi j f g h=>absurd h (Nat.not_lt_zero _),by omega,rfl,id⟩
 intro m ρ M1 hI;obtain ⟨hs,k,b4,b6,b7,b8,b9,rfl,g1,g2,g3,g4,g5,g6,g7,g8⟩:=hI
 by_cases c1:k < hs.length
 . have c1':(k:Int) < (hs.length:Int):=by omega
   by_cases c2:hs.length < 6
   . have c2':(hs.length:Int) < 6:=by omega
     right
     obtain ⟨is,d4,d6,d7,d8,d9,M2,e,p2,u2,pr,inv2,l2,cl2⟩:=ag1 (W:=W) (M:=M1) (a0:=a0) (a2:=a2) (a3:=a3) (a4:=b4) (a6:=b6) (a7:=b7) (a8:=b8) (a9:=b9) (k:=k) hz g3 g1 (by omega) (show hs[k]?=some hs[k] by simp [c1]);refine ⟨M1,.next,_,M2,10 - (k+1),?_,?_,.inl rfl,by omega,is,k+1,d4,d6,d7,d8,d9,rfl,p2,g2.trans u2,inv2,by omega,?_,by omega,rfl,?_⟩
     . simp [zy g1,c1',c2']
     . simp [Ah,e]
     . intro i j f g hi' hj' hf hg
       have back:∀ (i:Nat) (f:F),i < k+1->is[i]?=some f->hs[i]?=some f:=λi f hi hf=>by
        have hlt:i < hs.length:=by omega
        have:=Fw pr (show hs[i]?=some hs[i] by simp [hlt]);rw [hf] at this;rw [this];simp [hlt]
       have hf':=back i f hi' hf;have hg':=back j g hj' hg
       by_cases ei:i=k
       . subst ei
         have:f=hs[i]:=by have:=hf';simp [c1] at this;exact this.symm
         subst this;exact (cl2 j g hg').1
       . by_cases ej:j=k
         . subst ej
           have:g=hs[j]:=by have:=hg';simp [c1] at this;exact this.symm
           subst this;exact (cl2 i f hf').2
         . exact (g5 i j f g (by omega) (by omega) hf' hg').mono pr
     . intro e0
       have:=g8 e0;subst this;simp at c1
   . left
     have c2':¬ (hs.length:Int) < 6:=by omega
     exact ⟨M1,by simp [zy g1,c1',c2'],rfl,hs,g1,g2,g3,g4,λq=>absurd q c2,g8⟩
 . left
   have c1':¬ (k:Int) < (hs.length:Int):=by omega
   refine ⟨M1,by simp [zy g1,c1'],rfl,hs,g1,g2,g3,g4,λ_=>?_,g8⟩;intro f hf g hg;obtain ⟨i,hi',ei⟩:=List.getElem_of_mem hf;obtain ⟨j,hj',ej⟩:=List.getElem_of_mem hg;exact g5 i j f g (by omega) (by omega) (by simp [hi',ei]) (by simp [hj',ej])
theorem Mv {m:Nat} {d:D} {fs:List F} (hm:1 <= m) (hz:Sz sz) (hg:Good sz fs) (hl:fs.length <= 3) (hd:asList M d=some (fs.map F.toD)) :
 ∃ (hs:List F) (M':Store),prog.call m 16 [d] M=.ok (.ref M.length) M'/\M'[M.length]?=some (.lst (hs.map F.toD))/\fu M M'/\M'.length=M.length+1/\Inv sz hs/\hs.length <= 15/\(hs.length < 6->Bt hs)/\(fs=[]->hs=[]):=by
 rw [call_of hm rfl];have hd1:asList (M ++ [.lst []]) d=some (fs.map F.toD):=(fu.app M _).asList hd;obtain ⟨s,hs0,ρ1,M1,e1,gs,b2,b3,b4,rfl,h1,h2,h3,h4,h5⟩:=J9 (body:=λd ρ M=>match (Tg.names [2,3,4]).put d ρ with
  | some ρ'=>dz.den ⟨prog.call (m - 1),prog.cls⟩ ρ' M|none=>.bad)
  (λi ρ M'=>∃ (gs:List F) (b2 b3 b4:Option D),ρ=[some d,some (.ref M.length),b2,b3,b4,none,none,none,none,none]/\M'[M.length]?=some (.lst (gs.map F.toD))/\Up M.length (M ++ [.lst []]) M'/\Inv sz gs/\gs.length <= i/\(fs=[]->gs=[]))
  (ρ:=[some d,some (.ref M.length),none,none,none,none,none,none,none,none]) (M:=M ++ [.lst []]) hd1
  ⟨[],none,none,none,rfl,by simp,Up.refl _ _,⟨λf hf=>by simp at hf,by simp,λf hf=>by simp at hf⟩,by simp,λ_=>rfl⟩
  (λi ρ M' hI=>by
   obtain ⟨gs,b2,b3,b4,rfl,g1,g2,g3,g4,g5⟩:=hI;cases d with
   | vl xs=>exact hd
   | ref n =>
    have hn:n≠M.length:=by
     simp only [asList] at hd;cases e:M[n]? with
     | none=>rw [e] at hd;simp at hd|some o=>have:=il e;omega
    simp only [asList] at hd1 ⊢;rw [g2.oth n hn];exact hd1
   | _=>simp [asList] at hd)
  (λi x ρ M' hx hI=>by
   obtain ⟨gs,b2,b3,b4,rfl,g1,g2,g3,g4,g5⟩:=hI;obtain ⟨f,hf,rfl⟩:∃ f,fs[i]?=some f/\f.toD=x:=by simpa using hx
   have hfm:=List.mem_of_getElem? hf;have hil:=(List.getElem?_eq_some_iff.mp hf).1;obtain ⟨M2,e2,p2,u2⟩:=Yi (W:=⟨prog.call (m - 1),prog.cls⟩) (M:=M') (a0:=some d) (a5:=none) (a6:=none) (a7:=none) (a8:=none) (a9:=none) hz (hg f hfm) g1 (by omega);refine ⟨.next,_,M2,?_,.inl rfl,Pq gs f,some (.int f.a),some (.int f.b),some (km f.r),rfl,p2,g2.trans u2,acp g3 (hg f hfm),?_,λe=>?_⟩
   . rw [aco];exact e2
   . have:=acq gs f;omega
   . subst e;simp at hf)
 have hgl:gs.length <= 3:=by simp at h4;omega
 obtain ⟨ρ2,M2,e2,q1,hs,p2,u2,inv2,l2,c2,z2⟩:=Yj (W:=⟨prog.call (m - 1),prog.cls⟩) (M:=M1) (a0:=some d) (a2:=b2) (a3:=b3) (a4:=b4) (a6:=none) (a7:=none) (a8:=none) (a9:=none) hz h3 h1 hgl;have up:=h2.trans u2;refine ⟨hs,M2,?_,p2,λa o h=>?_,?_,inv2,l2,c2,λe=>z2 (h5 e)⟩
 . have e1':rz.den ⟨prog.call (m - 1),prog.cls⟩ [some d,some (.ref M.length),none,none,none,none,none,none,none,none] (M ++ [.lst []])=.ok (.next,[some d,some (.ref M.length),b2,b3,b4,none,none,none,none,none]) M1:=by
    unfold rz;rw [Gm];simp [hs0];exact e1
   simp [Fn.run,Cy,Cw,MW.new,e1',e2,q1]
 . have:=il h
   rw [up.oth a (by omega)];exact iu h
 . rw [up.len];simp
end
end Yx
namespace MW
section
variable {W:jz} {ρ:Env} {M:Store}
theorem Ce (v:Bool) (k:Nat) (t:Tg) (it:xg) (e:Ex):(Ex.comp v k t it e).den W ρ M=(it.den W ρ M).bind λs M1 =>
 (gf s (λd M=>(Res.ofOpt (t.put d (ρ ++ List.replicate k none)) M).bind fun ρ' M=>(e.den W ρ' M).bind λx M'=>.ok (some x) M') M1).bind λds M2=>if v then .ok (.vl ds) M2 else new (.lst ds) M2:=by
 rw [Ao]
 congr 1;funext s M1;congr 2;funext d M
 cases t.put d (ρ ++ List.replicate k none)<;>rfl
theorem Bw (v:Bool) (k:Nat) (t:Tg) (it:xg) (c e:Ex):(Ex.jh v k t it c e).den W ρ M=(it.den W ρ M).bind λs M1 =>
 (gf s (λd M=>(Res.ofOpt (t.put d (ρ ++ List.replicate k none)) M).bind fun ρ' M=>(c.den W ρ' M).bind λb M' =>
  match b with
   | .bl true=>(e.den W ρ' M').bind λx M''=>.ok (some x) M''
   | .bl false=>.ok none M'|_=>.bad) M1).bind λds M2=>if v then .ok (.vl ds) M2 else new (.lst ds) M2:=by
 rw [Ja]
 congr 1;funext s M1;congr 2;funext d M
 cases t.put d (ρ ++ List.replicate k none)<;>rfl
theorem Fy (t:Tg) (it:xg) (b:bw):(mj.for_ t it b).den W ρ M=(it.den W ρ M).bind λs M1=>my s.fin s.item (λd ρ M=>(Res.ofOpt (t.put d ρ) M).bind fun ρ' M=>b.den W ρ' M) s.len 0 ρ M1:=by
 rw [Gm]
 congr 1;funext s M1;congr 1;funext d ρ M
 cases t.put d ρ<;>rfl
theorem jf {t:Tg} {it:Ex} {b:bw} {n:Nat} {M1:Store} (hit:it.den W ρ M=.ok (.int (n:Int)) M1) (hn:n <= 100000) (I:Nat->Env->Store->Prop) (h0:I 0 ρ M1)
 (step:∀ i ρ M,i < n->I i ρ M->∃ ρ1 fl ρ' M',t.put (.int i) ρ=some ρ1/\b.den W ρ1 M=.ok (fl,ρ') M'/\(fl=.next \/ fl=.cont)/\I (i+1) ρ' M') :
 ∃ ρ' M',(mj.for_ t (.Ib it) b).den W ρ M=.ok (.next,ρ') M'/\I n ρ' M':=by
 rw [Fy,N6,hit];have hn':((n:Int)).natAbs <= 100000:=by omega
 simp only [Res.di,hn',if_true,Int.toNat_natCast];exact Pa I h0 (λi ρ M hi h=>by
  obtain ⟨ρ1,fl,ρ',M',a,b,c,d⟩:=step i ρ M hi h;exact ⟨fl,ρ',M',by rw [a];exact b,c,d⟩)
theorem Fz {t:Tg} {it:Ex} {b:bw} {d:D} {ds:List D} {M1:Store} (hit:it.den W ρ M=.ok d M1) (hd:asList M1 d=some ds) (I:Nat->Env->Store->Prop) (h0:I 0 ρ M1) (stay:∀ i ρ M,I i ρ M->asList M d=some ds)
 (step:∀ i x ρ M,ds[i]?=some x->I i ρ M->∃ ρ1 fl ρ' M',t.put x ρ=some ρ1/\b.den W ρ1 M=.ok (fl,ρ') M'/\(fl=.next \/ fl=.cont)/\I (i+1) ρ' M') :
 ∃ ρ' M',(mj.for_ t (.val it) b).den W ρ M=.ok (.next,ρ') M'/\I ds.length ρ' M':=by
 rw [Fy,yz,hit];obtain ⟨s,h1,h2⟩:=J9 (body:=λd ρ M=>(Res.ofOpt (t.put d ρ) M).bind fun ρ' M=>b.den W ρ' M) I hd h0 stay (λi x ρ M hx h=>by
  obtain ⟨ρ1,fl,ρ',M',a,b,c,d⟩:=step i x ρ M hx h;exact ⟨fl,ρ',M',by rw [a];exact b,c,d⟩)
 simp only [Res.di,h1,Res.ik];exact h2
theorem Sd {t:Tg} {it:Ex} {b:bw} {ds:List D} {M1:Store} (hit:it.den W ρ M=.ok (.tup ds) M1) (I:Nat->Env->Store->Prop) (h0:I 0 ρ M1)
 (step:∀ i x ρ M,ds[i]?=some x->I i ρ M->∃ ρ1 fl ρ' M',t.put x ρ=some ρ1/\b.den W ρ1 M=.ok (fl,ρ') M'/\(fl=.next \/ fl=.cont)/\I (i+1) ρ' M') :
 ∃ ρ' M',(mj.for_ t (.val it) b).den W ρ M=.ok (.next,ρ') M'/\I ds.length ρ' M':=by
 rw [Fy,yz,hit];exact Fq I h0 (λi x ρ M hx h=>by
  obtain ⟨ρ1,fl,ρ',M',a,b,c,d⟩:=step i x ρ M hx h;exact ⟨fl,ρ',M',by rw [a];exact b,c,d⟩)
theorem Bx {t:Tg} {it:Ex} {b:bw} {ds:List D} {M1:Store} (hit:it.den W ρ M=.ok (.tup ds) M1) (I:Nat->Env->Store->Prop) (h0:I 0 ρ M1)
 (step:∀ i x ρ M,ds[i]?=some x->I i ρ M->∃ ρ1 fl ρ' M',t.put (.tup [.int i,x]) ρ=some ρ1/\b.den W ρ1 M=.ok (fl,ρ') M'/\(fl=.next \/ fl=.cont)/\I (i+1) ρ' M') :
 ∃ ρ' M',(mj.for_ t (.Z1 it) b).den W ρ M=.ok (.next,ρ') M'/\I ds.length ρ' M':=by
 rw [Fy,N7,hit];have:=Fq (ds:=jj ds 0) (body:=λd ρ M=>(Res.ofOpt (t.put d ρ) M).bind fun ρ' M=>b.den W ρ' M) I h0 (λi x ρ M hx h=>by
  have hil:i < ds.length:=by have:=(List.getElem?_eq_some_iff.mp hx).1;simpa [jj] using this
  have hx':x=.tup [.int i,ds[i]]:=by simp [jj,hil] at hx;exact hx.symm
  subst hx';obtain ⟨ρ1,fl,ρ',M',a,b,c,d⟩:=step i ds[i] ρ M (by simp [hil]) h;exact ⟨fl,ρ',M',by rw [a];exact b,c,d⟩)
 have e:(jj ds 0).length=ds.length:=by simp [jj]
 rw [e] at this;exact this
theorem j0 {v:Bool} {k:Nat} {t:Tg} {it e:Ex} {d:D} {ds:List D} {g:D->D} {M1:Store} (hit:it.den W ρ M=.ok d M1) (hd:asList M1 d=some ds) (hl:ds.length <= 100000)
 (h:∀ x∈ds,∃ ρ1,t.put x (ρ ++ List.replicate k none)=some ρ1/\e.den W ρ1 M1=.ok (g x) M1) :
 (Ex.comp v k t (.val it) e).den W ρ M=if v then .ok (.vl (ds.map g)) M1 else new (.lst (ds.map g)) M1:=by
 rw [Ce,yz,hit];obtain ⟨s,h1,h2⟩:=Hs (g:=λx=>some (g x)) (body:=λd M=>(Res.ofOpt (t.put d (ρ ++ List.replicate k none)) M).bind fun ρ' M=>(e.den W ρ' M).bind λx M'=>.ok (some x) M') hd hl (λx hx=>by
  obtain ⟨ρ1,a,b⟩:=h x hx;rw [a];simp [b])
 simp only [Res.di,h1,Res.ik,h2,List.filterMap_eq_map']
theorem Pr {v:Bool} {k:Nat} {t:Tg} {it e:Ex} {ds:List D} {g:D->D} {M1:Store} (hit:it.den W ρ M=.ok (.tup ds) M1) (hl:ds.length <= 100000)
 (h:∀ x∈ds,∃ ρ1,t.put x (ρ ++ List.replicate k none)=some ρ1/\e.den W ρ1 M1=.ok (g x) M1) :
 (Ex.comp v k t (.val it) e).den W ρ M=if v then .ok (.vl (ds.map g)) M1 else new (.lst (ds.map g)) M1:=by
 rw [Ce,yz,hit];have h2:=Pb (g:=g) (M:=M1) (body:=λd M=>(Res.ofOpt (t.put d (ρ ++ List.replicate k none)) M).bind fun ρ' M=>(e.den W ρ' M).bind λx M'=>.ok (some x) M') hl (λx hx=>by
  obtain ⟨ρ1,a,b⟩:=h x hx;rw [a];simp [b])
 show (gf (.con ds) _ M1).bind _=_;rw [h2];rfl
theorem Ke {v:Bool} {k:Nat} {t:Tg} {it c e:Ex} {n:Nat} {q:Nat->Bool} {g:Nat->D} {M1:Store} (hit:it.den W ρ M=.ok (.int (n:Int)) M1) (hl:n <= 100000)
 (h:∀ i,i < n->∃ ρ1,t.put (.int i) (ρ ++ List.replicate k none)=some ρ1/\c.den W ρ1 M1=.ok (.bl (q i)) M1/\(q i=true->e.den W ρ1 M1=.ok (g i) M1)) :
 (Ex.jh v k t (.Ib it) c e).den W ρ M=if v then .ok (.vl (((List.range n).filter q).map g)) M1 else new (.lst (((List.range n).filter q).map g)) M1:=by
 rw [Bw,N6,hit];have hn':((n:Int)).natAbs <= 100000:=by omega
 simp only [Res.di,hn',if_true,Int.toNat_natCast];rw [Ka (ds:=(List.range n).map λ(k:Nat)=>D.int (k:Int)) (g:=λd=>match d with | .int i=>if q i.toNat then some (g i.toNat) else none | _=>none) (by simpa using hl) (λx hx=>by
  obtain ⟨i,hi,rfl⟩:=List.mem_map.mp hx;obtain ⟨ρ1,a,b,c⟩:=h i (List.mem_range.mp hi);rw [a,Res.ik,Res.di,b,Res.di];cases e:q i with
  | true=>simp [e,c e]|false=>simp [e])]
 have:(((List.range n).map λ(k:Nat)=>D.int (k:Int)).filterMap λd=>match d with | .int i=>if q i.toNat then some (g i.toNat) else none | _=>none)=((List.range n).filter q).map g:=by
  rw [List.filterMap_map]
  induction List.range n with
  | nil=>rfl|cons a l ih=>by_cases e:q a=true<;>simp [e,ih]
 rw [this];rfl
theorem Kf {v:Bool} {k:Nat} {t:Tg} {it c e:Ex} {ds:List D} {q:Nat->Bool} {g:Nat->D} {M1:Store} (hit:it.den W ρ M=.ok (.tup ds) M1) (hl:ds.length <= 100000)
 (h:∀ (i:Nat) (x:D),ds[i]?=some x->∃ ρ1,t.put (.tup [.int i,x]) (ρ ++ List.replicate k none)=some ρ1/\c.den W ρ1 M1=.ok (.bl (q i)) M1/\(q i=true->e.den W ρ1 M1=.ok (g i) M1)) :
 (Ex.jh v k t (.Z1 it) c e).den W ρ M=if v then .ok (.vl (((List.range ds.length).filter q).map g)) M1 else new (.lst (((List.range ds.length).filter q).map g)) M1:=by
 rw [Bw,N7,hit];simp only [Res.di];rw [Ka (ds:=jj ds 0) (g:=λd=>match d with | .tup [.int i,_]=>if q i.toNat then some (g i.toNat) else none | _=>none) (by simpa [jj] using hl) (λx hx=>by
  obtain ⟨i,hi,ei⟩:=List.getElem_of_mem hx;have hil:i < ds.length:=by simpa [jj] using hi
  have hx':x=.tup [.int i,ds[i]]:=by rw [<- ei];simp [jj]
  subst hx';obtain ⟨ρ1,a,b,c⟩:=h i ds[i] (by simp [hil]);rw [a,Res.ik,Res.di,b,Res.di];cases e:q i with
  | true=>simp [e,c e]|false=>simp [e])]
 have:((jj ds 0).filterMap λd=>match d with | .tup [.int i,_]=>if q i.toNat then some (g i.toNat) else none | _=>none)=((List.range ds.length).filter q).map g:=by
  have aux:∀ (l:List D) (s:Nat),((jj l s).filterMap λd=>match d with | .tup [.int i,_]=>if q i.toNat then some (g i.toNat) else none | _=>none)=((List.range' s l.length).filter q).map g:=by
   intro l
   induction l with
   | nil=>intro s;rfl
   | cons a l ih =>
    intro s;have e1:jj (a :: l) s=.tup [.int s,a] :: jj l (s+1):=by simp [jj]
    rw [e1,List.length_cons,List.range'_succ]
    by_cases e:q s=true<;>simp [e,ih]
  rw [aux,List.range_eq_range']
 rw [this];rfl
end
end MW
namespace Yx
open MW
noncomputable def eD (f:F):D:=.tup [.int f.a,.int f.b]
noncomputable def u0 (hs:List F):D:=.tup (hs.map eD)
noncomputable def ent (hs:List F) (f g:F):Int:=if f.comp g∈hs then (pos (f.comp g) hs:Int) else -1
noncomputable def ky (j k:Nat):List Kx:=[.inl (j:Int),.inl (k:Int)]
theorem U4 {j k j' k':Nat} (h:ky j k=ky j' k'):j=j'/\k=k':=by simp [ky] at h;omega
noncomputable def Mw (j k j' k':Nat):Prop:=j' < j \/ (j'=j/\k' < k)
structure Tb (hs:List F) (j k:Nat) (kvs:List (List Kx×D)):Prop where
 keys:∀ p∈kvs,∃ (j' k':Nat) (f g:F),p=(ky j' k',.int (ent hs f g))/\hs[j']?=some f/\hs[k']?=some g/\f.b=g.a/\Mw j k j' k'
 look:∀ (j' k':Nat) (f g:F),hs[j']?=some f->hs[k']?=some g->f.b=g.a->Mw j k j' k'->jo kvs (ky j' k')=some (.int (ent hs f g))
 len:kvs.length <= j * hs.length+k
theorem Yk {kvs:List (List Kx×D)} {q:List Kx} (h:∀ p∈kvs,p.1≠q):jo kvs q=none:=by unfold jo;rw [List.find?_eq_none.mpr (λp hp=>by simpa using h p hp)];rfl
theorem Yl {kvs:List (List Kx×D)} {q:List Kx} {v:D} (h:∀ p∈kvs,p.1≠q):Aa kvs q v=kvs ++ [(q,v)]:=by unfold Aa;rw [if_neg];simp only [List.any_eq_true,decide_eq_true_eq,not_exists,not_and];exact h
theorem Pu {kvs:List (List Kx×D)} {q q':List Kx} {v:D} (h:q≠q'):jo (kvs ++ [(q,v)]) q'=jo kvs q':=by
 unfold jo;rw [List.find?_append];cases e:kvs.find? (λp=>decide (p.1=q')) with
 | some p=>rfl|none=>simp [h]
theorem Px {kvs:List (List Kx×D)} {q:List Kx} {v:D} (h:∀ p∈kvs,p.1≠q):jo (kvs ++ [(q,v)]) q=some v:=by unfold jo;rw [List.find?_append,List.find?_eq_none.mpr (λp hp=>by simpa using h p hp)];simp
theorem Tb.skip {hs:List F} {j k:Nat} {kvs:List (List Kx×D)} (h:Tb hs j k kvs) {f g:F} (hf:hs[j]?=some f) (hg:hs[k]?=some g) (n:f.b≠g.a):Tb hs j (k+1) kvs:=by
 refine ⟨λp hp=>?_,λj' k' f' g' a b c d=>?_,by have:=h.len;omega⟩
 . obtain ⟨j',k',f',g',e,a,b,c,d⟩:=h.keys p hp
   exact ⟨j',k',f',g',e,a,b,c,by unfold Mw at *;omega⟩
 . by_cases q:j'=j/\k'=k
   . obtain ⟨rfl,rfl⟩:=q
     rw [hf] at a;rw [hg] at b;cases a;cases b;exact absurd c n
   . exact h.look j' k' f' g' a b c (by unfold Mw at *;omega)
theorem Tb.fresh {hs:List F} {j k:Nat} {kvs:List (List Kx×D)} (h:Tb hs j k kvs):∀ p∈kvs,p.1≠ky j k:=by intro p hp e;obtain ⟨j',k',f',g',rfl,a,b,c,d⟩:=h.keys p hp;have:=U4 e;unfold Mw at d;omega
theorem Tb.put {hs:List F} {j k:Nat} {kvs:List (List Kx×D)} (h:Tb hs j k kvs) {f g:F} (hf:hs[j]?=some f) (hg:hs[k]?=some g) (n:f.b=g.a):Tb hs j (k+1) (Aa kvs (ky j k) (.int (ent hs f g))):=by
 rw [Yl h.fresh];refine ⟨λp hp=>?_,λj' k' f' g' a b c d=>?_,by have:=h.len;simp;omega⟩
 . rcases List.mem_append.mp hp with q | q
   . obtain ⟨j',k',f',g',e,a,b,c,d⟩:=h.keys p q
     exact ⟨j',k',f',g',e,a,b,c,by unfold Mw at *;omega⟩
   . have:p=(ky j k,.int (ent hs f g)):=by simpa using q
     exact ⟨j,k,f,g,this,hf,hg,n,by unfold Mw;omega⟩
 . by_cases q:j'=j/\k'=k
   . obtain ⟨rfl,rfl⟩:=q
     rw [hf] at a;rw [hg] at b;cases a;cases b;exact Px h.fresh
   . rw [Pu (λe=>q (by have:=U4 e;omega))]
     exact h.look j' k' f' g' a b c (by unfold Mw at *;omega)
theorem Tb.next {hs:List F} {j:Nat} {kvs:List (List Kx×D)} (h:Tb hs j hs.length kvs):Tb hs (j+1) 0 kvs:=by
 refine ⟨λp hp=>?_,λj' k' f' g' a b c d=>?_,by have:=h.len;have e:(j+1) * hs.length=j * hs.length+hs.length:=Nat.succ_mul _ _;omega⟩
 . obtain ⟨j',k',f',g',e,a,b,c,d⟩:=h.keys p hp
   exact ⟨j',k',f',g',e,a,b,c,by unfold Mw at *;omega⟩
 . have:=(List.getElem?_eq_some_iff.mp b).1
   exact h.look j' k' f' g' a b c (by unfold Mw at *;omega)
section
variable {W:jz} {M:Store} {sz:Nat->Nat}
theorem acr {f g:F} {hs:List F} {q j k:Nat} {a0 a1 a3 a4 a7:Option D} (hz:Sz sz) (hf:Kz sz f) (hg:Kz sz g) (h:f.b=g.a) (hq:M[q]?=some (.lst (hs.map F.toD))) (hj:hs[j]?=some f) (hk:hs[k]?=some g) :
 o7.den W [a0,a1,some (.ref q),a3,a4,some (.int j),some (.int k),a7] M=.ok (.vl ((f.comp g).r.map nD)) M:=by
 have hsm:(f.r.map nD).length <= 100000:=by rw [List.length_map,hf.len];have:=hz f.a;omega
 unfold o7;rw [Pr (ds:=f.r.map nD) (M1:=M) (g:=λd=>match d with | .int i=>nD (g.r.getD i.toNat 0) | _=>.non) (by simp [De hq hj,acj,km]) hsm (λx hx=>by
  obtain ⟨y,hy,rfl⟩:=List.mem_map.mp hx;have hy':y < g.r.length:=by rw [hg.len,<- h];exact hf.ran y hy
  exact ⟨_,rfl,by simp [De hq hk,acj,nD,ack M g.r hy']⟩)]
 simp [F.comp,nD]
theorem U5 {f g:F} {hs:List F} {q r j k:Nat} {kvs:List (List Kx×D)} {a0 a1 a3 a7:Option D} (hz:Sz sz) (hi:Inv sz hs) (hl:hs.length <= 5) (hq:M[q]?=some (.lst (hs.map F.toD))) (hr:M[r]?=some (.dT kvs)) (hj:hs[j]?=some f) (hk:hs[k]?=some g) (ht:Tb hs j k kvs) :
 ∃ (b7:Option D) (M':Store) (kvs':List (List Kx×D)),ig.den W [a0,a1,some (.ref q),a3,some (.ref r),some (.int j),some (.int k),a7] M=.ok (.next,[a0,a1,some (.ref q),a3,some (.ref r),some (.int j),some (.int k),b7]) M' /\
  M'[r]?=some (.dT kvs')/\Tb hs j (k+1) kvs'/\Up r M M':=by
 have hjl:=(List.getElem?_eq_some_iff.mp hj).1;have hkl:=(List.getElem?_eq_some_iff.mp hk).1;have hf:=hi.good f (List.mem_of_getElem? hj);have hg:=hi.good g (List.mem_of_getElem? hk)
 by_cases h:f.b=g.a
 . have hc:=acr (W:=W) (M:=M) (a0:=a0) (a1:=a1) (a3:=a3) (a4:=some (.ref r)) (a7:=a7) hz hf hg h hq hj hk
   have hmem:=acg M (f.comp g) hs;have hkv:kvs.length < 100000:=by
    have:=ht.len;have:j * hs.length <= 5 * 5:=Nat.mul_le_mul (by omega) hl
    omega
   have st:=ajt (d:=.int (ent hs f g)) (b:=.tup [.int j,.int k]) hr rfl hkv;refine ⟨some (f.comp g).toD,_,Aa kvs (ky j k) (.int (ent hs f g)),?_,dq (o:=.dT (Aa kvs (ky j k) (.int (ent hs f g)))) hr,ht.put hj hk h,Up.set _ _ _⟩
   by_cases m:f.comp g∈hs
   . have hix:Dk .index (.ref q) [(f.comp g).toD] M=.ok (.int (pos (f.comp g) hs)) M:=by simp [Dk,Jb (cz hq),aq7,m]
     have hty:Hy .index (.ref q) M=true:=by simp [Hy,cz hq]
     have he:ent hs f g=(pos (f.comp g) hs:Int):=if_pos m;rw [he] at st;simp [-eq_int,ig,De hq hj,De hq hk,Ht,Hu,gw,h,hc,Pn,U3,Dz hq,hmem,m,hty,hix,st,he,ky]
   . have he:ent hs f g=-1:=if_neg m
     rw [he] at st;simp [-eq_int,ig,De hq hj,De hq hk,Ht,Hu,gw,h,hc,Pn,U3,Dz hq,hmem,m,st,he,ky]
 . refine ⟨a7,M,kvs,?_,hr,ht.skip hj hk h,Up.refl r M⟩
   simp [-eq_int,ig,De hq hj,De hq hk,Ht,Hu,gw,h]
theorem alf {hs:List F} {q r:Nat} {a0 a1 a3 a5 a6 a7:Option D} (hz:Sz sz) (hi:Inv sz hs) (hl:hs.length <= 5) (hq:M[q]?=some (.lst (hs.map F.toD))) (hr:M[r]?=some (.dT [])) (hqr:q≠r) :
 ∃ (ρ':Env) (M':Store) (kvs:List (List Kx×D)),o9.den W [a0,a1,some (.ref q),a3,some (.ref r),a5,a6,a7] M=.ok (.next,ρ') M'/\ρ'[2]?=some (some (.ref q))/\ρ'[3]?=some a3/\ρ'[4]?=some (some (.ref r))/\ρ'.length=8 /\
  M'[r]?=some (.dT kvs)/\Tb hs hs.length 0 kvs/\Up r M M':=by
 unfold o9;have hlen:∀ (M':Store),Up r M M'->dj .len [.ref q] M'=.ok (.int hs.length) M':=λM' u=>zy (by rw [u.oth q hqr];exact hq)
 obtain ⟨ρ',M',e,b5,b6,b7,kvs,rfl,h1,h2,h3⟩:=jf (W:=W) (t:=.name 5) (b:=o8) (it:=.blt .len (.cons (.var 2) .nil)) (n:=hs.length) (ρ:=[a0,a1,some (.ref q),a3,some (.ref r),a5,a6,a7]) (M:=M) (M1:=M) (by simp [zy hq]) (by omega)
  (λj ρ M'=>∃ (b5 b6 b7:Option D) (kvs:List (List Kx×D)),ρ=[a0,a1,some (.ref q),a3,some (.ref r),b5,b6,b7]/\M'[r]?=some (.dT kvs)/\Tb hs j 0 kvs/\Up r M M')
  ⟨a5,a6,a7,[],rfl,hr,⟨λp hp=>by simp at hp,λj' k' f g a b c d=>by unfold Mw at d;omega,by simp⟩,Up.refl r M⟩
  (λj ρ M1 hj hI=>by
   obtain ⟨b5,b6,b7,kvs,rfl,g1,g2,g3⟩:=hI;have hq1:M1[q]?=some (.lst (hs.map F.toD)):=by rw [g3.oth q hqr];exact hq
   obtain ⟨ρ2,M2,e2,c6,c7,av7,rfl,k1,k2,k3⟩:=jf (W:=W) (t:=.name 6) (b:=ig) (it:=.blt .len (.cons (.var 2) .nil)) (n:=hs.length) (ρ:=[a0,a1,some (.ref q),a3,some (.ref r),some (.int j),b6,b7]) (M:=M1) (M1:=M1) (by simp [zy hq1]) (by omega)
    (λk ρ M'=>∃ (b6 b7:Option D) (kvs:List (List Kx×D)),ρ=[a0,a1,some (.ref q),a3,some (.ref r),some (.int j),b6,b7]/\M'[r]?=some (.dT kvs)/\Tb hs j k kvs/\Up r M1 M')
    ⟨b6,b7,kvs,rfl,g1,g2,Up.refl r M1⟩
    (λk ρ M2 hk hI=>by
     obtain ⟨b6,b7,kvs,rfl,k1,k2,k3⟩:=hI;have hq2:M2[q]?=some (.lst (hs.map F.toD)):=by rw [k3.oth q hqr];exact hq1
     obtain ⟨c7,M3,av8,e3,p3,t3,u3⟩:=U5 (W:=W) (M:=M2) (a0:=a0) (a1:=a1) (a3:=a3) (a7:=b7) hz hi hl hq2 k1 (show hs[j]?=some hs[j] by simp [hj]) (show hs[k]?=some hs[k] by simp [hk]) k2;exact ⟨_,.next,_,M3,rfl,e3,.inl rfl,_,c7,av8,rfl,p3,t3,k3.trans u3⟩)
   exact ⟨_,.next,_,M2,rfl,by simp [o8,yo,e2],  .inl rfl,some (.int j),c6,c7,av7,rfl,k1,k2.next,g3.trans k3⟩)
 exact ⟨_,M',kvs,e,rfl,rfl,rfl,rfl,h1,h2,h3⟩
end
structure Kg (sz:Nat->Nat) (K:Nat) (hs:List F) (kvs:List (List Kx×D)):Prop where
 hz:Sz sz
 inv:Inv sz hs
 cl:Bt hs
 len:hs.length <= 5
 k1:1 <= K
 k3:K <= 3
 alg:∀ f∈hs,f.a < K
 alh:∀ f∈hs,f.b < K
 tb:Tb hs hs.length 0 kvs
theorem Sg:∀ (xs:List Nat) (a:Nat),∃ v:Nat,(xs.map λ(x:Nat)=>(x:Int)).foldl (λm x=>if m < x then x else m) (a:Int)=(v:Int)/\a <= v/\(∀ x∈xs,x <= v)/\(v=a \/ v∈xs)
 | [],a=>⟨a,rfl,Nat.le_refl _,by simp,.inl rfl⟩
 | x :: xs,a=>by
  obtain ⟨v,e,h1,h2,h3⟩:=Sg xs (if a < x then x else a);refine ⟨v,?_,?_,λy hy=>?_,?_⟩
  . rw [List.map_cons,List.foldl_cons,<- e]
    congr 1
    by_cases q:a < x
    . have:(a:Int) < (x:Int):=by omega
      simp [q]
    . have:¬ (a:Int) < (x:Int):=by omega
      simp [q]
  . split at h1<;>omega
  . rcases List.mem_cons.mp hy with q | q
    . subst q;split at h1<;>omega
    . exact h2 y q
  . rcases h3 with q | q
    . by_cases w:a < x
      . right;rw [if_pos w] at q;subst q;simp
      . left;rw [if_neg w] at q;exact q
    . right;exact List.mem_cons_of_mem _ q
theorem Sh:∀ xs:List Nat,Vo (xs.map nD)=some (xs.map λ(x:Nat)=>(x:Int))
 | []=>rfl|x :: xs=>by simp [nD,Vo,show Vo (xs.map nD)=_ from Sh xs]
section
variable {W:jz} {M:Store} {sz:Nat->Nat}
theorem ali {xs:List Nat} (h:xs≠[]):∃ v:Nat,dj .max [.vl (xs.map nD)] M=.ok (.int v) M/\(∀ x∈xs,x <= v)/\v∈xs:=by
 obtain ⟨a,r,rfl⟩:∃ a r,xs=a :: r:=List.exists_cons_of_ne_nil h;obtain ⟨v,e,h1,h2,h3⟩:=Sg r a;refine ⟨v,?_,λx hx=>?_,?_⟩
 . have:=Sh (a :: r)
   simp only [dj,aes,Xl,Option.bind_some,this];simp only [List.map_cons,aji,Option.bind_some,Option.map_some,Res.ik,e]
 . rcases List.mem_cons.mp hx with q | q
   . subst q;exact h1
   . exact h2 x q
 . rcases h3 with q | q
   . rw [q];simp
   . exact List.mem_cons_of_mem _ q
theorem max2 (a b:Nat):dj .max [.int a,.int b] M=.ok (nD (max a b)) M:=by
 by_cases h:a < b
 . have h':(a:Int) < b:=by omega
   have e:max a b=b:=by omega
   simp [dj,h,nD,e]
 . have h':¬ (a:Int) < b:=by omega
   have e:max a b=a:=by omega
   simp [dj,h,nD,e]
noncomputable def toF:D->F
 | .tup [.int a,.int b,.tup r]=>⟨a.toNat,b.toNat,r.map λd=>match d with | .int i=>i.toNat | _=>0⟩
 | _=>⟨0,0,[]⟩
theorem Ij (f:F):toF f.toD=f:=by
 obtain ⟨a,b,r⟩:=f;simp only [F.toD,km,toF,List.map_map,Int.toNat_natCast,F.mk.injEq,true_and]
 conv=>rhs;rw [<- List.map_id r]
 exact List.map_congr_left λx _=>by simp [nD]
theorem acs {hs:List F} {q:Nat} {a0 a1 a3 a4 a5 a6 a7:Option D} (hl:hs.length <= 100000) (hq:M[q]?=some (.lst (hs.map F.toD))) :
 ph.den W [a0,a1,some (.ref q),a3,a4,a5,a6,a7] M=.ok (.vl ((hs.map λf=>max f.a f.b).map nD)) M:=by
 unfold ph;rw [j0 (d:=.ref q) (ds:=hs.map F.toD) (M1:=M) (g:=λd=>nD (max (toF d).a (toF d).b)) (by simp) (cz hq) (by simpa using hl) (λx hx=>by
  obtain ⟨f,hf,rfl⟩:=List.mem_map.mp hx;exact ⟨_,aco _ _ _ _ _,by simp [max2,Ij]⟩)]
 simp [Ij]
theorem Ym {hs:List F} {q:Nat} {ρ:Env} (hρ:ρ[2]?=some (some (.ref q))) (hρl:ρ.length=8) (hl:hs.length <= 100000) (hq:M[q]?=some (.lst (hs.map F.toD))) :
 o6.den W ρ M=.ok (.vl (hs.map eD)) M:=by
 unfold o6;rw [j0 (d:=.ref q) (ds:=hs.map F.toD) (M1:=M) (g:=λd=>eD (toF d)) (by simp [hρ]) (cz hq) (by simpa using hl) (λx hx=>by
  obtain ⟨f,hf,rfl⟩:=List.mem_map.mp hx;refine ⟨_,aco _ _ _ _ _,?_⟩;rw [Ij];simp [eD,List.getElem?_set,hρl])]
 simp [Ij]
theorem Yn {m t:Nat} {f:Bool} {d:D} {fs hs:List F} {q:Nat} {a3 a4 a5 a6 a7:Option D} (hm:1 <= m) (hz:Sz sz) (hs0:Wm t f M) (hg:Good sz fs) (hl:fs.length <= 3) (hd:asList M d=some (fs.map F.toD))
 (hq:M[q]?=some (.lst (hs.map F.toD))) (hqt:q≠t) (hi:Inv sz hs) (hhl:hs.length <= 15) (hc:hs.length < 6->Bt hs) (h0:fs=[]->hs=[]) :
 ∃ (ρ':Env) (M':Store),pq.den ⟨prog.call m,prog.cls⟩ [some (.ref t),some d,some (.ref q),a3,a4,a5,a6,a7] M=.ok (.next,ρ') M'/\∃ (d':D) (q':Nat) (hs':List F),ρ'=[some (.ref t),some d',some (.ref q'),a3,a4,a5,a6,a7] /\
  M'[q']?=some (.lst (hs'.map F.toD))/\q'≠t/\Inv sz hs'/\hs'.length <= 5/\Bt hs'/\fu M M':=by
 unfold pq;rw [Ua];refine G6 (λn ρ M'=>∃ (d:D) (fs hs:List F) (q:Nat),ρ=[some (.ref t),some d,some (.ref q),a3,a4,a5,a6,a7]/\fs.length=n/\Good sz fs/\fs.length <= 3/\asList M' d=some (fs.map F.toD)/\M'[q]?=some (.lst (hs.map F.toD))/\q≠t /\
  Inv sz hs/\hs.length <= 15/\(hs.length < 6->Bt hs)/\(fs=[]->hs=[])/\fu M M')
  (fun ρ' M'=>∃ (d':D) (q':Nat) (hs':List F),ρ'=[some (.ref t),some d',some (.ref q'),a3,a4,a5,a6,a7]/\M'[q']?=some (.lst (hs'.map F.toD))/\q'≠t/\Inv sz hs'/\hs'.length <= 5/\Bt hs'/\fu M M') ?_ Xf fs.length _ M (by unfold Xf;omega)
  ⟨d,fs,hs,q,rfl,rfl,hg,hl,hd,hq,hqt,hi,hhl,hc,h0,fu.refl M⟩
 intro n ρ M1 hI;obtain ⟨d,fs,hs,q,rfl,rfl,g1,g2,g3,g4,g5,g6,g7,g8,g9,g10⟩:=hI
 by_cases c:5 < hs.length
 . right
   have c':(5:Int) < (hs.length:Int):=by omega
   have hne:fs≠[]:=λe=>by rw [g9 e] at c;simp at c
   have hpos:1 <= fs.length:=List.length_pos_iff.mpr hne
   have awa:cutOp d none (some (-1)) M1=some (.vl (fs.dropLast.map F.toD)):=by
    have hcl:Nz (fs.map F.toD) none (some (-1))=fs.dropLast.map F.toD:=by
     have e2:((-1:Int)+(fs.length:Int)).toNat=fs.length - 1:=by omega
     simp [Nz,clip,e2,List.map_dropLast,List.dropLast_eq_take]
    cases d with
    | tup ds=>simp [asList] at g3|vl ds=>simp only [cutOp,g3,Option.map_some,hcl]|ref n=>simp only [cutOp,g3,Option.map_some,hcl]|_=>simp [asList] at g3
   have gd:Good sz fs.dropLast:=λf hf=>g1 f (List.dropLast_subset fs hf)
   obtain ⟨hs',M2,e,p2,k2,l2,i2,b2,c2,z2⟩:=Mv (M:=M1) (m:=m) (d:=.vl (fs.dropLast.map F.toD)) hm hz gd (by simp;omega) rfl;have ht1:t < M1.length:=by obtain ⟨n,h,_⟩:=hs0;exact il (g10 t _ h)
   refine ⟨M1,.next,_,M2,fs.length - 1,?_,?_,.inl rfl,by omega,.vl (fs.dropLast.map F.toD),fs.dropLast,hs',M1.length,rfl,by simp,gd,by simp;omega,rfl,p2,by omega,i2,b2,c2,z2,g10.trans k2⟩
   . simp [zy g4,c']
   . simp [-List.map_dropLast,yp,awa,e]
 . left
   have c':¬ (5:Int) < (hs.length:Int):=by omega
   exact ⟨M1,by simp [zy g4,c'],d,q,hs,rfl,g4,g5,g6,by omega,g8 (by omega),g10⟩
theorem Kh {m t:Nat} {f:Bool} (hm:3 <= m) (hs0:Wm t f M):∃ (K r:Nat) (sz:Nat->Nat) (hs:List F) (kvs:List (List Kx×D)) (M':Store),prog.call m 17 [.ref t] M=.ok (.tup [.int K,u0 hs,.ref r]) M'/\M'[r]?=some (.dT kvs)/\M.length <= r/\Kg sz K hs kvs/\St t f M M':=by
 rw [call_of (by omega) rfl];have ht0:t < M.length:=by obtain ⟨n,h,_⟩:=hs0;exact il h
 obtain ⟨d,M1,fs,sz,e1,d1,n1,hz,g1,l1,s1⟩:=aci (m:=m - 1) (by omega) hs0;obtain ⟨hs,M2,e2,p2,k2,ll2,i2,b2,c2,z2⟩:=Mv (M:=M1) (m:=m - 1) (d:=d) (by omega) hz g1 l1 d1;have ht1:t < M1.length:=by obtain ⟨n,h,_⟩:=s1.has;exact il h
 have s2:St t f M1 M2:=St.of s1.has k2;obtain ⟨ρ3,M3,e3,d',q,hs',rfl,p3,q3,i3,l3,c3,k3⟩:=Yn (M:=M2) (m:=m - 1) (t:=t) (f:=f) (d:=d) (fs:=fs) (hs:=hs) (q:=M1.length) (a3:=none) (a4:=none) (a5:=none) (a6:=none) (a7:=none) (by omega) hz s2.has g1 l1 (k2.asList d1) p2 (by omega) i2 b2 c2 z2;have s3:St t f M2 M3:=St.of s2.has k3;have s03:=s1.trans (s2.trans s3);have ahz:=acs (W:=⟨prog.call (m - 1),prog.cls⟩) (M:=M3) (a0:=some (.ref t)) (a1:=some d') (a3:=none) (a4:=none) (a5:=none) (a6:=none) (a7:=none) (by omega:hs'.length <= 100000) p3;obtain ⟨v,ev,hv1,hv2⟩:=ali (M:=M3) (xs:=(hs'.map λf:F=>max f.a f.b) ++ [0]) (by simp);have hadd:qp .add (.vl ((hs'.map λf:F=>max f.a f.b).map nD)) (.vl [.int 0]) M3=.ok (.vl (((hs'.map λf:F=>max f.a f.b) ++ [0]).map nD)) M3:=by rw [Lx _ _ (by simp;omega)];simp [nD]
 generalize hX:(D.vl ((hs'.map λf:F=>max f.a f.b).map nD))=X at ahz hadd;generalize hY:(D.vl (((hs'.map λf:F=>max f.a f.b) ++ [0]).map nD))=Y at ev hadd;have hv3:v <= 2:=by
  rcases List.mem_append.mp hv2 with w | w
  . obtain ⟨x,hx,rfl⟩:=List.mem_map.mp w
    have:=(i3.good x hx).a;have:=(i3.good x hx).b;omega
  . simp at w;omega
 have heq:jd M3 (.ref q) (.vl [])=some (decide (hs'=[])):=by
  have hdc:Lr M3 (.ref q)=false:=by simp [Lr,p3]
  simp only [jd,hdc];cases hs' with
  | nil=>simp [qm,asList,p3,Dj]|cons a l=>simp [qm,asList,p3]
 obtain ⟨K,M4,hK,k1,k3',ka,kb,p4,s4,l4⟩:∃ (K:Nat) (M4:Store),
  (mj.iff (.cmp .eq (.var 2) (.xj .nil)) (.cons (.asg (.tg (.name 3)) (.bin .add (.cst (.int 1)) (.call 14 (.cons (.var 0) (.cons (.cst (.int 3)) .nil))))) .nil) .nil).den ⟨prog.call (m - 1),prog.cls⟩ [some (.ref t),some d',some (.ref q),some (.int (1+(v:Int))),none,none,none,none] M3
   = .ok (.next,[some (.ref t),some d',some (.ref q),some (.int K),none,none,none,none]) M4/\1 <= K/\K <= 3/\(∀ f∈hs',f.a < K)/\(∀ f∈hs',f.b < K)/\M4[q]?=some (.lst (hs'.map F.toD))/\St t f M3 M4/\M4.length=M3.length:=by
  by_cases he:hs'=[]
  . obtain ⟨w,M4,ew,lw,sw,llw⟩:=vz (m:=m - 1) (by omega) s3.has (many:=3) (by decide) (by decide)
    refine ⟨1+w,M4,?_,by omega,by omega,by simp [he],by simp [he],sw.keep q _ q3 p3,sw,llw⟩;simp [heq,he,ew]
  . refine ⟨1+v,M3,?_,by omega,by omega,λx hx=>?_,λx hx=>?_,p3,St.of s3.has (fu.refl _),rfl⟩
    . simp [heq,he]
    . have:=hv1 (max x.a x.b) (List.mem_append_left _ (List.mem_map.mpr ⟨x,hx,rfl⟩));omega
    . have:=hv1 (max x.a x.b) (List.mem_append_left _ (List.mem_map.mpr ⟨x,hx,rfl⟩));omega
 have p5:(M4 ++ [.dT []])[q]?=some (.lst (hs'.map F.toD)):=iu p4;have hql:=il p4;obtain ⟨ρ6,M6,kvs,e6,r2,r3,r4,r8,p6,t6,u6⟩:=alf (W:=⟨prog.call (m - 1),prog.cls⟩) (M:=M4 ++ [.dT []]) (q:=q) (r:=M4.length) (a0:=some (.ref t)) (a1:=some d') (a3:=some (.int K)) (a5:=none) (a6:=none) (a7:=none) hz i3 l3 p5 (by simp) (by omega);have p6q:M6[q]?=some (.lst (hs'.map F.toD)):=by rw [u6.oth q (by omega)];exact p5
 have hc1:=Ym (W:=⟨prog.call (m - 1),prog.cls⟩) (M:=M6) r2 r8 (by omega:hs'.length <= 100000) p6q;have s04:=s03.trans s4;refine ⟨K,M4.length,sz,hs',kvs,M6,?_,p6,s04.len,⟨hz,i3,c3,l3,k1,k3',ka,kb,t6⟩,?_⟩
 . simp only [Fn.run,Bo,Bl]
   simp [-aoq,e1,e2,e3,ahz,hadd,ev,hK,MW.new,e6,r3,r4,hc1,G7,u0]
 . refine s04.trans ⟨?_,?_,λa o na h=>?_⟩
   . rw [u6.len];simp
   . obtain ⟨n,h,o⟩:=s4.has
     exact ⟨n,by rw [u6.oth t (by have:=il h;omega)];exact iu h,o⟩
   . rw [u6.oth a (by have:=il h;omega)];exact iu h
end
noncomputable def pD (p:Nat×Nat):D:=.tup [.int p.1,.int p.2]
noncomputable def Meet (hs:List F) (j k:Nat):Prop:=∃ f g,hs[j]?=some f/\hs[k]?=some g/\f.b=g.a
structure Ps (hs:List F) (j k:Nat) (ps:List (Nat×Nat)):Prop where
 all:∀ p:Nat×Nat,p∈ps ↔ Meet hs p.1 p.2/\Mw j k p.1 p.2
 len:ps.length <= j * hs.length+k
theorem Ps.skip {hs:List F} {j k:Nat} {ps:List (Nat×Nat)} (h:Ps hs j k ps) {f g:F} (hf:hs[j]?=some f) (hg:hs[k]?=some g) (n:f.b≠g.a):Ps hs j (k+1) ps:=by
 refine ⟨λp=>?_,by have:=h.len;omega⟩;rw [h.all p];constructor
 . exact λq=>⟨q.1,by have:=q.2;unfold Mw at *;omega⟩
 . intro q
   refine ⟨q.1,?_⟩;have hb:=q.2
   by_cases e:p.1=j/\p.2=k
   . obtain ⟨f',g',a,b,c⟩:=q.1
     rw [e.1,hf] at a;rw [e.2,hg] at b;cases a;cases b;exact absurd c n
   . unfold Mw at *;omega
theorem Ps.put {hs:List F} {j k:Nat} {ps:List (Nat×Nat)} (h:Ps hs j k ps) {f g:F} (hf:hs[j]?=some f) (hg:hs[k]?=some g) (n:f.b=g.a):Ps hs j (k+1) (ps ++ [(j,k)]):=by
 refine ⟨λp=>?_,by have:=h.len;simp;omega⟩;rw [List.mem_append,h.all p,List.mem_singleton];constructor
 . rintro (q | q)
   . exact ⟨q.1,by have:=q.2;unfold Mw at *;omega⟩
   . subst q;exact ⟨⟨f,g,hf,hg,n⟩,by unfold Mw;omega⟩
 . intro q
   by_cases e:p.1=j/\p.2=k
   . right;exact Prod.ext e.1 e.2
   . left;exact ⟨q.1,by have:=q.2;unfold Mw at *;omega⟩
theorem Ps.next {hs:List F} {j:Nat} {ps:List (Nat×Nat)} (h:Ps hs j hs.length ps):Ps hs (j+1) 0 ps:=by
 refine ⟨λp=>?_,by have:=h.len;have e:(j+1) * hs.length=j * hs.length+hs.length:=Nat.succ_mul _ _;omega⟩;rw [h.all p];constructor
 . exact λq=>⟨q.1,by have:=q.2;unfold Mw at *;omega⟩
 . intro q
   refine ⟨q.1,?_⟩;obtain ⟨f,g,a,b,c⟩:=q.1;have:=(List.getElem?_eq_some_iff.mp b).1;have:=q.2;unfold Mw at *;omega
theorem Kl (f:F) (M:Store):jm (eD f) (.int 0) M=some (.int f.a):=rfl
theorem Km (f:F) (M:Store):jm (eD f) (.int 1) M=some (.int f.b):=rfl
theorem Ko {hs:List F} {M:Store} {i:Nat} {f:F} (h:hs[i]?=some f):jm (u0 hs) (.int i) M=some (eD f):=Dg (by omega) (by simp [h])
theorem Kp {hs:List F} {M:Store}:dj .len [u0 hs] M=.ok (.int hs.length) M:=by simp [dj,gr,u0]
theorem lg (x y:D) (i j:Nat) (ρ:Env):(Tg.names [i,j]).put (.tup [x,y]) ρ=some ((ρ.set i (some x)).set j (some y)):=rfl
section
variable {W:jz} {M:Store} {sz:Nat->Nat}
theorem Sq {f g:F} {hs:List F} {q j k:Nat} {ps:List (Nat×Nat)} {a0:Option D} (hl:hs.length <= 5) (hq:M[q]?=some (.lst (ps.map pD))) (hj:hs[j]?=some f) (hk:hs[k]?=some g) (hp:Ps hs j k ps) :
 ∃ (M':Store) (ps':List (Nat×Nat)),iz.den W [a0,some (.ref q),some (.int j),some (eD f),some (.int k),some (eD g)] M=.ok (.next,[a0,some (.ref q),some (.int j),some (eD f),some (.int k),some (eD g)]) M' /\
  M'[q]?=some (.lst (ps'.map pD))/\Ps hs j (k+1) ps'/\Up q M M':=by
 have hjl:=(List.getElem?_eq_some_iff.mp hj).1;have hkl:=(List.getElem?_eq_some_iff.mp hk).1
 by_cases h:f.b=g.a
 . have hpl:(ps.map pD).length < 100000:=by
    have:=hp.len;have:j * hs.length <= 5 * 5:=Nat.mul_le_mul (by omega) hl
    rw [List.length_map];omega
   have ap:=vd (d:=.tup [.int j,.int k]) hq hpl;refine ⟨M.set q (.lst ((ps ++ [(j,k)]).map pD)),ps ++ [(j,k)],?_,dq hq,hp.put hj hk h,Up.set _ _ _⟩;simp [-eq_int,iz,Kl,Km,gw,h,v7 hq,ap,pD]
 . refine ⟨M,ps,?_,hq,hp.skip hj hk h,Up.refl q M⟩
   simp [-eq_int,iz,Kl,Km,gw,h]
theorem Ss {m:Nat} {hs:List F} (hm:1 <= m) (hl:hs.length <= 5) :
 ∃ (M':Store) (ps:List (Nat×Nat)),prog.call m 7 [u0 hs] M=.ok (.ref M.length) M'/\M'[M.length]?=some (.lst (ps.map pD))/\Ps hs hs.length 0 ps/\Up M.length (M ++ [.lst []]) M':=by
 rw [call_of hm rfl];obtain ⟨ρ',M',e,b2,b3,b4,b5,ps,rfl,h1,h2,h3⟩:=Bx (W:=⟨prog.call (m - 1),prog.cls⟩) (t:=.names [2,3]) (b:=kh) (it:=.var 0) (ds:=hs.map eD) (ρ:=[some (u0 hs),some (.ref M.length),none,none,none,none]) (M:=M ++ [.lst []]) (M1:=M ++ [.lst []]) (by simp [u0])
  (λj ρ M'=>∃ (b2 b3 b4 b5:Option D) (ps:List (Nat×Nat)),ρ=[some (u0 hs),some (.ref M.length),b2,b3,b4,b5]/\M'[M.length]?=some (.lst (ps.map pD))/\Ps hs j 0 ps/\Up M.length (M ++ [.lst []]) M')
  ⟨none,none,none,none,[],rfl,by simp,⟨λp=>by simp [Mw],by simp⟩,Up.refl _ _⟩
  (λj x ρ M1 hj hI=>by
   obtain ⟨b2,b3,b4,b5,ps,rfl,g1,g2,g3⟩:=hI;obtain ⟨f,hf,rfl⟩:∃ f,hs[j]?=some f/\eD f=x:=by simpa using hj
   obtain ⟨ρ2,M2,e2,c4,c5,ps2,rfl,k1,k2,k3⟩:=Bx (W:=⟨prog.call (m - 1),prog.cls⟩) (t:=.names [4,5]) (b:=iz) (it:=.var 0) (ds:=hs.map eD) (ρ:=[some (u0 hs),some (.ref M.length),some (.int j),some (eD f),b4,b5]) (M:=M1) (M1:=M1) (by simp [u0])
    (λk ρ M'=>∃ (b4 b5:Option D) (ps:List (Nat×Nat)),ρ=[some (u0 hs),some (.ref M.length),some (.int j),some (eD f),b4,b5]/\M'[M.length]?=some (.lst (ps.map pD))/\Ps hs j k ps/\Up M.length M1 M')
    ⟨b4,b5,ps,rfl,g1,g2,Up.refl _ _⟩
    (λk y ρ M2 hk hI=>by
     obtain ⟨b4,b5,ps,rfl,k1,k2,k3⟩:=hI;obtain ⟨g,hg,rfl⟩:∃ g,hs[k]?=some g/\eD g=y:=by simpa using hk
     obtain ⟨M3,ps3,e3,p3,t3,u3⟩:=Sq (W:=⟨prog.call (m - 1),prog.cls⟩) (M:=M2) (a0:=some (u0 hs)) hl k1 hf hg k2;exact ⟨_,.next,_,M3,lg _ _ _ _ _,e3,.inl rfl,some (.int k),some (eD g),ps3,rfl,p3,t3,k3.trans u3⟩)
   rw [List.length_map] at k2;exact ⟨_,.next,_,M2,lg _ _ _ _ _,by simp [kh,vo,e2],.inl rfl,some (.int j),some (eD f),c4,c5,ps2,rfl,k1,k2.next,g3.trans k3⟩)
 rw [List.length_map] at h2;refine ⟨M',ps,?_,h1,h2,h3⟩;simp [Fn.run,Af,Ae,MW.new,vq,e]
noncomputable def bothW (hs:List F) (kvs:List (List Kx×D)) (x y:Int):Option D:=if x=-1 then some (.int y) else if y=-1 then some (.int x) else jo kvs [.inl x,.inl y]
theorem Py {m r:Nat} {hs:List F} {kvs:List (List Kx×D)} {x y:Int} {v:D} (hm:1 <= m) (hr:M[r]?=some (.dT kvs)) (h:bothW hs kvs x y=some v):prog.call m 6 [.ref r,.int x,.int y] M=.ok v M:=by
 rw [call_of hm rfl];unfold bothW at h
 by_cases hx:x=-1
 . rw [if_pos hx] at h;cases h
   simp [Fn.run,vm,vh,hx]
 . rw [if_neg hx] at h
   by_cases hy:y=-1
   . rw [if_pos hy] at h;cases h
     simp [Fn.run,vm,vh,hx,hy]
   . rw [if_neg hy] at h
     simp [Fn.run,vm,vh,hx,hy,Qw hr (Ly x y),h]
end
noncomputable def Yo (hs:List F) (c:F):Int:=if c∈hs then (pos c hs:Int) else -1
theorem Ea (hs:List F) (f g:F):ent hs f g=Yo hs (f.comp g):=rfl
theorem Ws {hs:List F} (nd:hs.Nodup) {i:Nat} {f:F} (h:hs[i]?=some f):Yo hs f=i:=by have m:f∈hs:=List.mem_of_getElem? h;rw [Yo,if_pos m,Uy nd h]
theorem Gx:∀ k:List Kx,Gj (Z3 k)=some k:=by
 intro k;show Ny (k.map Z2)=some k
 induction k with
 | nil=>rfl|cons a l ih=>cases a<;>simp [Ny,Z2,K7,ih]
theorem Su:∀ kvs:List (List Kx×D),j5 (kvs.map λp=>Z3 p.1)=some (kvs.map (·.1))
 | []=>rfl|p :: l=>by simp [j5,Gx,Su l]
theorem Sv:∀ ps:List (Nat×Nat),j5 (ps.map pD)=some (ps.map λp=>ky p.1 p.2)
 | []=>rfl|p :: l=>by simp [j5,pD,Sv l,ky]
theorem acu {kvs:List (List Kx×D)} {q:List Kx} {v:D} (h:jo kvs q=some v):∃ p∈kvs,p.1=q:=by
 unfold jo at h;cases e:kvs.find? (λp=>decide (p.1=q)) with
 | none=>rw [e] at h;cases h|some p=>exact ⟨p,List.mem_of_find?_eq_some e,by simpa using List.find?_some e⟩
section
variable {sz:Nat->Nat} {K:Nat} {hs:List F} {kvs:List (List Kx×D)} (P:Kg sz K hs kvs)
include P
theorem Kg.look {j k:Nat} {f g:F} (hj:hs[j]?=some f) (hk:hs[k]?=some g) (h:f.b=g.a):jo kvs (ky j k)=some (.int (ent hs f g)) :=
 P.tb.look j k f g hj hk h (.inl (List.getElem?_eq_some_iff.mp hj).1)
theorem Kg.no {j k:Nat} (h:¬ Meet hs j k):jo kvs (ky j k)=none:=by apply Yk;intro p hp e;obtain ⟨j',k',f,g,rfl,a,b,c,_⟩:=P.tb.keys p hp;obtain ⟨rfl,rfl⟩:=U4 e;exact h ⟨f,g,a,b,c⟩
theorem Kg.kl:kvs.length <= 25:=by
 have:=P.tb.len;have:hs.length * hs.length <= 5 * 5:=Nat.mul_le_mul P.len P.len
 omega
theorem Kg.plain:j6 (kvs.map (·.1))=true:=by have:=P.kl;simp only [j6,List.length_map,Bool.and_eq_true,decide_eq_true_eq];refine ⟨by omega,?_⟩;rw [List.all_eq_true];intro k hk;obtain ⟨p,hp,rfl⟩:=List.mem_map.mp hk;obtain ⟨j,k,f,g,rfl,_⟩:=P.tb.keys p hp;simp [ky]
theorem Kg.sm:T9 kvs=true:=by unfold T9;rw [List.all_eq_true];intro p hp;obtain ⟨j,k,f,g,rfl,a,b,_⟩:=P.tb.keys p hp;have:=(List.getElem?_eq_some_iff.mp a).1;have:=(List.getElem?_eq_some_iff.mp b).1;have:=P.len;simp [ky];omega
theorem Kg.same {ps:List (Nat×Nat)} (h:Ps hs hs.length 0 ps):u9 (kvs.map (·.1)) (ps.map λp=>ky p.1 p.2)=true:=by
 unfold u9;rw [Bool.and_eq_true,List.all_eq_true,List.all_eq_true];constructor
 . intro x hx
   obtain ⟨p,hp,rfl⟩:=List.mem_map.mp hx;obtain ⟨j,k,f,g,rfl,a,b,c,d⟩:=P.tb.keys p hp;rw [List.any_eq_true];exact ⟨ky j k,List.mem_map.mpr ⟨(j,k),(h.all (j,k)).mpr ⟨⟨f,g,a,b,c⟩,d⟩,rfl⟩,by simp⟩
 . intro y hy
   obtain ⟨p,hp,rfl⟩:=List.mem_map.mp hy;obtain ⟨⟨f,g,a,b,c⟩,d⟩:=(h.all p).mp hp;obtain ⟨q,hq,e⟩:=acu (P.look a b c);rw [List.any_eq_true];exact ⟨q.1,List.mem_map.mpr ⟨q,hq,rfl⟩,by simp [e]⟩
theorem Kg.uz {c:F} (h:c∈hs \/ c.Dy):(Yo hs c=-1/\c.Dy) \/ ∃ i:Nat,hs[i]?=some c/\Yo hs c=i:=by
 by_cases m:c∈hs
 . exact .inr ⟨pos c hs,Ph c m,if_pos m⟩
 . exact .inl ⟨if_neg m,h.resolve_left m⟩
theorem Kg.alj {j k l:Nat} {f g h:F} (hj:hs[j]?=some f) (hk:hs[k]?=some g) (hl:hs[l]?=some h) (e1:f.b=g.a) (e2:g.b=h.a) :
 ∃ v:Int,bothW hs kvs (ent hs f g) l=some (.int v)/\bothW hs kvs j (ent hs g h)=some (.int v):=by
 have mf:=List.mem_of_getElem? hj;have mg:=List.mem_of_getElem? hk;have mh:=List.mem_of_getElem? hl;have of:=P.inv.good f mf;have og:=P.inv.good g mg;have oh:=P.inv.good h mh;have as:=Uz (h:=h) of og e1;rw [Ea,Ea];have nj:¬ ((j:Int)=-1):=by omega
 have nl:¬ ((l:Int)=-1):=by omega
 rcases P.uz (P.cl f mf g mg e1) with ⟨x1,i1⟩ | ⟨u,hu,x1⟩
 . have c1:=Pj (of.comp og e1) i1
   have ha:f.a=g.b:=i1.1;have left:(f.comp g).comp h=h:=by rw [c1];show (idF sz f.a).comp h=h;rw [ha,e2];exact id_comp oh
   rcases P.uz (P.cl g mg h mh e2) with ⟨x2,i2⟩ | ⟨w,hw,x2⟩
   . have c2:=Pj (og.comp oh e2) i2
     have right:f.comp (g.comp h)=f:=by rw [c2];show f.comp (idF sz g.a)=f;rw [<- e1];exact comp_id of
     have fh:f=h:=by rw [<- right,<- as,left]
     have jl:j=l:=by rw [<- Uy P.inv.nd hj,<- Uy P.inv.nd hl,fh]
     refine ⟨l,by simp [bothW,x1],?_⟩;rw [x2,bothW,if_neg nj,if_pos rfl,jl]
   . have nw:¬ ((w:Int)=-1):=by omega
     refine ⟨l,by simp [bothW,x1],?_⟩;rw [x2,bothW,if_neg nj,if_neg nw];have:=P.look hj hw (show f.b=(g.comp h).a from e1);rw [Ea,<- as,left,Ws P.inv.nd hl] at this;exact this
 . have nu:¬ ((u:Int)=-1):=by omega
   have lu:=P.look hu hl (show (f.comp g).b=h.a from e2);rcases P.uz (P.cl g mg h mh e2) with ⟨x2,i2⟩ | ⟨w,hw,x2⟩
   . have c2:=Pj (og.comp oh e2) i2
     have right:f.comp (g.comp h)=f:=by rw [c2];show f.comp (idF sz g.a)=f;rw [<- e1];exact comp_id of
     refine ⟨j,?_,?_⟩
     . rw [x1,bothW,if_neg nu,if_neg nl]
       rw [Ea,as,right,Ws P.inv.nd hj] at lu;exact lu
     . rw [x2,bothW,if_neg nj,if_pos rfl]
   . have nw:¬ ((w:Int)=-1):=by omega
     refine ⟨Yo hs ((f.comp g).comp h),?_,?_⟩
     . rw [x1,bothW,if_neg nu,if_neg nl];exact lu
     . rw [x2,bothW,if_neg nj,if_neg nw]
       have:=P.look hj hw (show f.b=(g.comp h).a from e1);rw [Ea,<- as] at this;exact this
end
section
variable {W:jz} {M:Store} {sz:Nat->Nat} {K:Nat} {hs:List F} {kvs:List (List Kx×D)}
theorem ag2 {m:Nat} (hm:1 <= m) (P:Kg sz K hs kvs):prog.call m 9 [.int K,u0 hs] M=.ok .non M:=by
 rw [call_of hm rfl];obtain ⟨ρ',M',e,⟨b2,rfl⟩,rfl⟩:=Sd (W:=⟨prog.call (m - 1),prog.cls⟩) (t:=.name 2) (b:=o4) (it:=.var 1) (ds:=hs.map eD) (ρ:=[some (.int K),some (u0 hs),none]) (M:=M) (M1:=M) (by simp [u0])
  (λj ρ M'=>(∃ b2:Option D,ρ=[some (.int K),some (u0 hs),b2])/\M'=M) ⟨⟨none,rfl⟩,rfl⟩
  (λj x ρ M1 hj hI=>by
   obtain ⟨⟨b2,rfl⟩,rfl⟩:=hI;obtain ⟨f,hf,rfl⟩:∃ f,hs[j]?=some f/\eD f=x:=by simpa using hj
   have mf:=List.mem_of_getElem? hf;have h1:=P.alg f mf;have h2:=P.alh f mf;refine ⟨_,.next,_,M1,rfl,?_,.inl rfl,⟨some (eD f),rfl⟩,rfl⟩;have h1':(f.a:Int) < K:=by omega
   have h2':(f.b:Int) < K:=by omega
   have z1:(0:Int) <= (f.a:Int):=by omega
   have z2:(0:Int) <= (f.b:Int):=by omega
   simp [o4,Kl,Km,h1,h2,h1',h2',z1,z2])
 have k1:(1:Int) <= K:=by have:=P.k1;omega
 have k3:(K:Int) <= 3:=by have:=P.k3;omega
 have l5:¬ (5:Int) < (hs.length:Int):=by have:=P.len;omega
 simp [Fn.run,Bf,Be,k1,k3,Kp,l5,yj,e]
theorem alk {m:Nat} {j k:Nat} {f g:F} (hm:1 <= m) (P:Kg sz K hs kvs) (hj:hs[j]?=some f) (hk:hs[k]?=some g) (h:f.b=g.a):prog.call m 8 [u0 hs,.int (ent hs f g),.int f.a,.int g.b] M=.ok (.bl true) M:=by
 rw [call_of hm rfl,Ea];have mf:=List.mem_of_getElem? hj;have mg:=List.mem_of_getElem? hk;rcases P.uz (P.cl f mf g mg h) with ⟨x1,i1⟩ | ⟨u,hu,x1⟩
 . have ha:f.a=g.b:=i1.1
   simp [Fn.run,ou,n6,x1,ha]
 . have hul:=(List.getElem?_eq_some_iff.mp hu).1
   have nu:¬ ((u:Int)=-1):=by omega
   have z:(0:Int) <= (u:Int):=by omega
   have awb:(u:Int) < (hs.length:Int):=by omega
   have e:jd M (eD (f.comp g)) (.tup [.int f.a,.int g.b])=some true:=by show Dj (qm M 5) [.int f.a,.int g.b] [.int f.a,.int g.b]=some true;rw [xm (Fv M 4 _ _) (xm (Fv M 4 _ _) (show Dj (qm M 5) [] []=some true from rfl))];simp
   simp [Fn.run,ou,n6,x1,nu,z,hul,awb,Kp,Ko hu,e]
theorem ag3 {m r:Nat} (hm:2 <= m) (P:Kg sz K hs kvs) (hr:M[r]?=some (.dT kvs)):∃ M',prog.call m 10 [u0 hs,.ref r] M=.ok .non M'/\fu M M'/\M'.length=M.length+1:=by
 rw [call_of (by omega) rfl];obtain ⟨M1,ps,e1,p1,t1,u1⟩:=Ss (M:=M) (m:=m - 1) (hs:=hs) (by omega) P.len;have k1:fu M M1:=λa o h=>by rw [u1.oth a (by have:=il h;omega)];exact iu h
 have r1:=k1 r _ hr;have hks:(keysOf M1 (.ref r)).bind j5=some (kvs.map (·.1)):=by simp only [keysOf,r1,Option.bind_some,Su]
 have hkp:(keysOf M1 (.ref M.length)).bind j5=some (ps.map λp=>ky p.1 p.2):=by simp only [keysOf,p1,asList,Option.bind_some,Sv]
 have hpl:j6 (ps.map λp=>ky p.1 p.2)=true:=by
  have:=t1.len;have:hs.length * hs.length <= 5 * 5:=Nat.mul_le_mul P.len P.len
  simp only [j6,List.length_map,Bool.and_eq_true,decide_eq_true_eq];refine ⟨by omega,?_⟩;rw [List.all_eq_true];intro k hk;obtain ⟨p,hp,rfl⟩:=List.mem_map.mp hk;simp [ky]
 have awc:(Ex.Iu (.var 1) (.var 2)).den ⟨prog.call (m - 1),prog.cls⟩ [some (u0 hs),some (.ref r),some (.ref M.length),none,none] M1=.ok (.bl false) M1:=by rw [Ls];simp only [Vq,List.getElem?_cons_succ,List.getElem?_cons_zero,Res.di,hks,P.plain,hkp,hpl,P.same t1,if_true,Bool.not_true]
 obtain ⟨ρ',M',e,⟨b3,b4,rfl⟩,rfl⟩:=Fz (W:=⟨prog.call (m - 1),prog.cls⟩) (t:=.names [3,4]) (b:=qw) (it:=.var 2) (d:=.ref M.length) (ds:=ps.map pD) (ρ:=[some (u0 hs),some (.ref r),some (.ref M.length),none,none]) (M:=M1) (M1:=M1) (by simp) (cz p1)
  (λj ρ M'=>(∃ b3 b4:Option D,ρ=[some (u0 hs),some (.ref r),some (.ref M.length),b3,b4])/\M'=M1) ⟨⟨none,none,rfl⟩,rfl⟩ (λi ρ M h=>by rw [h.2];exact cz p1)
  (λi x ρ M2 hx hI=>by
   obtain ⟨⟨b3,b4,rfl⟩,rfl⟩:=hI;obtain ⟨p,hp,rfl⟩:∃ p,ps[i]?=some p/\pD p=x:=by simpa using hx
   obtain ⟨⟨f,g,a,b,c⟩,d⟩:=(t1.all p).mp (List.mem_of_getElem? hp);refine ⟨_,.next,_,M2,lg _ _ _ _ _,?_,.inl rfl,⟨some (.int p.1),some (.int p.2),rfl⟩,rfl⟩;have lk:=Qw r1 (Ly p.1 p.2);rw [show ([.inl (p.1:Int),.inl (p.2:Int)]:List Kx)=ky p.1 p.2 from rfl,P.look a b c] at lk;simp [qw,lk,Ko a,Ko b,Kl,Km,alk (show 1 <= m - 1 by omega) P a b c])
 refine ⟨M',?_,k1,by rw [u1.len];simp⟩;simp [Fn.run,Cv,Cu,e1,awc,Ag,e]
theorem ag4 {m r:Nat} (hm:2 <= m) (P:Kg sz K hs kvs) (hr:M[r]?=some (.dT kvs)):∃ M',prog.call m 11 [u0 hs,.ref r] M=.ok .non M'/\fu M M'/\M'.length=M.length+1:=by
 rw [call_of (by omega) rfl];obtain ⟨M1,ps,e1,p1,t1,u1⟩:=Ss (M:=M) (m:=m - 1) (hs:=hs) (by omega) P.len;have k1:fu M M1:=λa o h=>by rw [u1.oth a (by have:=il h;omega)];exact iu h
 have r1:=k1 r _ hr;have hl:=P.len;obtain ⟨ρ',M',e,⟨b3,b4,b5,b6,b7,rfl⟩,rfl⟩:=Fz (W:=⟨prog.call (m - 1),prog.cls⟩) (t:=.names [3,4]) (b:=o5) (it:=.var 2) (d:=.ref M.length) (ds:=ps.map pD) (ρ:=[some (u0 hs),some (.ref r),some (.ref M.length),none,none,none,none,none]) (M:=M1) (M1:=M1) (by simp) (cz p1)
  (λj ρ M'=>(∃ b3 b4 b5 b6 b7:Option D,ρ=[some (u0 hs),some (.ref r),some (.ref M.length),b3,b4,b5,b6,b7])/\M'=M1) ⟨⟨none,none,none,none,none,rfl⟩,rfl⟩ (λi ρ M h=>by rw [h.2];exact cz p1)
  (λi x ρ M2 hx hI=>by
   obtain ⟨⟨b3,b4,b5,b6,b7,rfl⟩,rfl⟩:=hI;obtain ⟨p,hp,rfl⟩:∃ p,ps[i]?=some p/\pD p=x:=by simpa using hx
   obtain ⟨⟨f,g,a,b,c⟩,d⟩:=(t1.all p).mp (List.mem_of_getElem? hp);obtain ⟨ρ3,M3,e3,⟨c5,c6,c7,rfl⟩,rfl⟩:=jf (W:=⟨prog.call (m - 1),prog.cls⟩) (t:=.name 5) (b:=jq) (it:=.blt .len (.cons (.var 0) .nil)) (n:=hs.length) (ρ:=[some (u0 hs),some (.ref r),some (.ref M.length),some (.int p.1),some (.int p.2),b5,b6,b7]) (M:=M2) (M1:=M2) (by simp [Kp]) (by omega)
    (λj ρ M'=>(∃ b5 b6 b7:Option D,ρ=[some (u0 hs),some (.ref r),some (.ref M.length),some (.int p.1),some (.int p.2),b5,b6,b7])/\M'=M2) ⟨⟨b5,b6,b7,rfl⟩,rfl⟩
    (λl ρ M4 hll hI=>by
     obtain ⟨⟨b5,b6,b7,rfl⟩,rfl⟩:=hI;have hl':hs[l]?=some hs[l]:=by simp [hll]
     have hin:=aoy r1 (Ly p.2 l);rw [show ([.inl (p.2:Int),.inl (l:Int)]:List Kx)=ky p.2 l from rfl] at hin
     by_cases q:g.b=hs[l].a
     . rw [P.look b hl' q] at hin
       obtain ⟨v,v1,v2⟩:=P.alj a b hl' c q;have lk1:=Qw r1 (Ly p.1 p.2);rw [show ([.inl (p.1:Int),.inl (p.2:Int)]:List Kx)=ky p.1 p.2 from rfl,P.look a b c] at lk1;have lk2:=Qw r1 (Ly p.2 l);rw [show ([.inl (p.2:Int),.inl (l:Int)]:List Kx)=ky p.2 l from rfl,P.look b hl' q] at lk2;refine ⟨_,.next,_,M4,rfl,?_,.inl rfl,⟨some (.int l),some (.int v),some (.int v),rfl⟩,rfl⟩;simp [jq,hin,lk1,lk2,Py (show 1 <= m - 1 by omega) r1 v1,Py (show 1 <= m - 1 by omega) r1 v2]
     . rw [P.no (λ⟨g',h',x,y,z⟩=>by rw [b] at x;rw [hl'] at y;cases x;cases y;exact q z)] at hin
       refine ⟨_,.cont,_,M4,rfl,?_,.inr rfl,⟨some (.int l),b6,b7,rfl⟩,rfl⟩;simp [jq,hin])
   refine ⟨_,.next,_,M3,lg _ _ _ _ _,?_,.inl rfl,⟨some (.int p.1),some (.int p.2),c5,c6,c7,rfl⟩,rfl⟩;simp [o5,yl,e3])
 refine ⟨M',?_,k1,by rw [u1.len];simp⟩;simp [Fn.run,Bh,Bg,e1,ym,e]
noncomputable def Made (n r K:Nat) (hs:List F) (kvs:List (List Kx×D)) (M:Store):Prop:=M[n]?=some (.ins 2 [(2,.int K),(1,u0 hs),(0,.ref r)])/\M[r]?=some (.dT kvs)
theorem Wt {m r n:Nat} (hm:3 <= m) (P:Kg sz K hs kvs) (hr:M[r]?=some (.dT kvs)) (hn:M[n]?=some (.ins 2 [])) :
 ∃ M' r',prog.call m 0 [.ref n,.int K,u0 hs,.ref r] M=.ok .non M'/\Made n r' K hs kvs M'/\M.length <= r'/\r' < M'.length/\(∀ (a:Nat) (o:MO),a≠n->M[a]?=some o->M'[a]?=some o):=by
 rw [call_of (by omega) rfl];have d1:=ag2 (M:=M) (m:=m - 1) (by omega) P;obtain ⟨M1,e1,k1,l1⟩:=ag3 (M:=M) (m:=m - 1) (by omega) P hr;obtain ⟨M2,e2,k2,l2⟩:=ag4 (M:=M1) (m:=m - 1) (by omega) P (k1 r _ hr);have k:=k1.trans k2;have n2:=k n _ hn;have r2:=k r _ hr;have hrn:r≠n:=λe=>by rw [e,hn] at hr;cases hr
 have s1:Ek (.ref n) 2 (.int K) M2=some (M2.set n (.ins 2 [(2,.int K)])):=by simp [Ek,n2,Hd]
 have n3:=dq (o:=.ins 2 [(2,.int K)]) n2;have s2:Ek (.ref n) 1 (u0 hs) (M2.set n (.ins 2 [(2,.int K)]))=some (M2.set n (.ins 2 [(2,.int K),(1,u0 hs)])):=by simp [Ek,n3,Hd]
 have n4:=dq (o:=.ins 2 [(2,.int K),(1,u0 hs)]) n2;have r4:(M2.set n (.ins 2 [(2,.int K),(1,u0 hs)]))[r]?=some (.dT kvs):=by rw [ir (Ne.symm hrn)];exact r2
 have dc:dj .dict [.ref r] (M2.set n (.ins 2 [(2,.int K),(1,u0 hs)]))=.ok (.ref M2.length) (M2.set n (.ins 2 [(2,.int K),(1,u0 hs)]) ++ [.dT kvs]):=by simp [dj,r4,P.sm,MW.new]
 have n5:(M2.set n (.ins 2 [(2,.int K),(1,u0 hs)]) ++ [.dT kvs])[n]?=some (.ins 2 [(2,.int K),(1,u0 hs)]):=iu n4;have s3:Ek (.ref n) 0 (.ref M2.length) (M2.set n (.ins 2 [(2,.int K),(1,u0 hs)]) ++ [.dT kvs])=some ((List.set M2 n (MO.ins 2 [(2,.int K),(1,u0 hs)]) ++ [MO.dT kvs]).set n (MO.ins 2 [(2,.int K),(1,u0 hs),(0,.ref M2.length)])):=by simp [Ek,n5,Hd]
 have hnl:=il n2;refine ⟨_,M2.length,?_,⟨dq (o:=.ins 2 [(2,.int K),(1,u0 hs),(0,.ref M2.length)]) n5,?_⟩,by omega,by simp,λa o na h=>?_⟩
 . simp [Fn.run,yd,yc,d1,e1,e2,s1,s2,dc,s3]
 . rw [ir (by omega)]
   rw [List.getElem?_append_right (by simp)];simp
 . rw [ir (Ne.symm na)]
   exact iu (by rw [ir (Ne.symm na)];exact k a o h)
end
noncomputable def lq (hs:List F) (k i:Nat):Bool:=match hs[i]? with | some f=>decide (f.a=k) | none=>false
noncomputable def ju (hs:List F) (k:Nat):List D:=.int (-1) :: ((List.range hs.length).filter (lq hs k)).map nD
theorem Ga {hs:List F} {k:Nat} {d:D} (h:d∈ju hs k):d=.int (-1) \/ ∃ (i:Nat) (f:F),d=.int i/\hs[i]?=some f/\f.a=k:=by
 rcases List.mem_cons.mp h with q | q
 . exact .inl q
 . obtain ⟨i,hi,rfl⟩:=List.mem_map.mp q
   obtain ⟨h1,h2⟩:=List.mem_filter.mp hi;have hil:=List.mem_range.mp h1;have e:hs[i]?=some hs[i]:=by simp [hil]
   rw [lq,e] at h2;exact .inr ⟨i,hs[i],rfl,e,by simpa using h2⟩
theorem acv {hs:List F} {k:Nat} {d:D} (h:d∈ju hs k):∃ i:Int,d=.int i:=by rcases Ga h with rfl | ⟨i,f,rfl,_⟩<;>exact ⟨_,rfl⟩
theorem Kq {hs:List F} {k:Nat} (hl:hs.length <= 5):(ju hs k).length <= 6:=by have:=List.length_filter_le (lq hs k) (List.range hs.length);simp at this;simp [ju];omega
noncomputable def gq (K r:Nat) (hs:List F):D:=.tup [.int K,u0 hs,.ref r]
theorem Sw (K r:Nat) (hs:List F) (M:Store):jm (gq K r hs) (.int 0) M=some (.int K):=rfl
theorem Kr (K r:Nat) (hs:List F) (M:Store):jm (gq K r hs) (.int 1) M=some (u0 hs):=rfl
theorem acw (K r:Nat) (hs:List F) (M:Store):jm (gq K r hs) (.int 2) M=some (.ref r):=rfl
section
variable {M:Store} {sz:Nat->Nat} {K:Nat} {hs:List F} {kvs:List (List Kx×D)} {n r m:Nat}
theorem Made.keep {M':Store} (h:Made n r K hs kvs M) (k:fu M M'):Made n r K hs kvs M':=⟨k _ _ h.1,k _ _ h.2⟩
theorem Made.f2 (h:Made n r K hs kvs M):Ej (.ref n) 2 M=some (.int K):=by simp [Ej,h.1,List.lookup]
theorem Made.f1 (h:Made n r K hs kvs M):Ej (.ref n) 1 M=some (u0 hs):=by simp [Ej,h.1,List.lookup]
theorem Made.f0 (h:Made n r K hs kvs M):Ej (.ref n) 0 M=some (.ref r):=by simp [Ej,h.1,List.lookup]
theorem kinds_ok (hm:1 <= m) (h:Made n r K hs kvs M):prog.call m 1 [.ref n] M=.ok (.int K) M:=by rw [call_of hm rfl];simp [Fn.run,Ad,Ac,h.f2]
theorem Yp (hm:1 <= m) (h:Made n r K hs kvs M):prog.call m 2 [.ref n] M=.ok (u0 hs) M:=by rw [call_of hm rfl];simp [Fn.run,yf,ye,h.f1]
theorem Yq (hm:2 <= m) (h:Made n r K hs kvs M) {x y:Int} {v:D} (hv:bothW hs kvs x y=some v):prog.call m 3 [.ref n,.int x,.int y] M=.ok v M:=by rw [call_of (by omega) rfl];simp [Fn.run,yh,yg,h.f0,Py (show 1 <= m - 1 by omega) h.2 hv]
theorem ag5 (hm:1 <= m) (h:Made n r K hs kvs M) (hl:hs.length <= 5) {k:Nat}:prog.call m 4 [.ref n,.int k] M=.ok (.ref M.length) (M ++ [.lst (ju hs k)]):=by
 rw [call_of hm rfl];have hc:nq.den ⟨prog.call (m - 1),prog.cls⟩ [some (.ref n),some (.int k)] M=.ok (.vl (((List.range hs.length).filter (lq hs k)).map nD)) M:=by
  unfold nq;rw [Kf (ds:=hs.map eD) (M1:=M) (q:=lq hs k) (g:=nD) (by simp [h.f1,u0]) (by simp;omega) (λi x hx=>by
   obtain ⟨f,hf,rfl⟩:∃ f,hs[i]?=some f/\eD f=x:=by simpa using hx
   refine ⟨_,lg _ _ _ _ _,?_,λ_=>?_⟩
   . simp [-eq_int,Kl,gw,lq,hf]
   . simp [nD])]
  simp
 have:=Xk (M:=M) [.int (-1)] (((List.range hs.length).filter (lq hs k)).map nD) (by
  have:=List.length_filter_le (lq hs k) (List.range hs.length);simp at this ⊢;omega)
 simp [Fn.run,Bd,Bc,hc,this,MW.new,ju]
theorem alm (hm:1 <= m) (h:Made n r K hs kvs M) {k i:Nat} {f:F} (hf:hs[i]?=some f):prog.call m 5 [.ref n,.int k,.int i] M=.ok (.int f.b) M:=by
 rw [call_of hm rfl];have ni:¬ ((i:Int)=-1):=by omega
 simp [Fn.run,wj,wg,ni,h.f1,Ko hf,Km]
theorem acx (hm:1 <= m) (h:Made n r K hs kvs M) {k:Nat}:prog.call m 5 [.ref n,.int k,.int (-1)] M=.ok (.int k) M:=by rw [call_of hm rfl];simp [Fn.run,wj,wg]
theorem acy (hm:1 <= m) (hl:hs.length <= 5) {k r:Nat}:prog.call m 18 [gq K r hs,.int k] M=.ok (.vl (ju hs k)) M:=by
 rw [call_of hm rfl];have hc:wk.den ⟨prog.call (m - 1),prog.cls⟩ [some (gq K r hs),some (.int k)] M=.ok (.vl (((List.range hs.length).filter (lq hs k)).map nD)) M:=by
  unfold wk;rw [Ke (n:=hs.length) (M1:=M) (q:=lq hs k) (g:=nD) (by simp [Kr,Kp]) (by omega) (λi hi=>by
   have e:hs[i]?=some hs[i]:=by simp [hi]
   refine ⟨_,rfl,?_,λ_=>?_⟩
   . simp [-eq_int,Kr,Ko e,Kl,gw,lq,hi]
   . simp [nD])]
  simp
 have:=Lx (M:=M) [.int (-1)] (((List.range hs.length).filter (lq hs k)).map nD) (by
  have:=List.length_filter_le (lq hs k) (List.range hs.length);simp at this ⊢;omega)
 simp [Fn.run,Ho,Hn,hc,this,ju]
theorem ag6 (hm:1 <= m) {k i r:Nat} {f:F} (hf:hs[i]?=some f):prog.call m 19 [gq K r hs,.int k,.int i] M=.ok (.int f.b) M:=by
 rw [call_of hm rfl];have ni:¬ ((i:Int) < 0):=by omega
 simp [Fn.run,Dw,Du,ni,Kr,Ko hf,Km]
theorem Yr (hm:1 <= m) {k r:Nat}:prog.call m 19 [gq K r hs,.int k,.int (-1)] M=.ok (.int k) M:=by rw [call_of hm rfl];simp [Fn.run,Dw,Du]
theorem U6 (hm:1 <= m) {r':Nat} (hr:M[r']?=some (.dT kvs)) {x y:Int} {v:D} (hx:-1 <= x) (hy:-1 <= y) (hv:bothW hs kvs x y=some v):prog.call m 20 [gq K r' hs,.int x,.int y] M=.ok v M:=by
 rw [call_of hm rfl];unfold bothW at hv
 by_cases ex:x=-1
 . rw [if_pos ex] at hv;cases hv
   subst ex;have:(-1:Int)+y+1=y:=by omega
   simp [Fn.run,qe,qd,this]
 . rw [if_neg ex] at hv
   have nx:¬ x < 0:=by omega
   by_cases ey:y=-1
   . rw [if_pos ey] at hv;cases hv
     subst ey;have:x+(-1:Int)+1=x:=by omega
     simp [Fn.run,qe,qd,nx,this]
   . rw [if_neg ey] at hv
     have ny:¬ y < 0:=by omega
     simp [Fn.run,qe,qd,nx,ny,acw,Qw hr (Ly x y),hv]
theorem Gb {W:jz} {ρ:Env} {o:Ex} {mm fi c:Nat} {es:ji} {ds:List D} {fs:List (Nat×D)} (ho:o.den W ρ M=.ok (.ref n) M) (he:es.den W ρ M=.ok ds M) (hn:M[n]?=some (.ins c fs)) (hm:(W.cls[c]?).bind (λC=>C.meths.lookup mm)=some fi) :
 (Ex.meth o mm es).den W ρ M=W.call fi (.ref n :: ds) M:=by
 rw [Em,ho,Res.di,he,Res.di];simp only [hn,hm]
end
end Yx
namespace MW
section
variable {W:jz} {ρ:Env} {M:Store}
theorem Ai {v:Bool} {k:Nat} {t:Tg} {it c e:Ex} {d:D} {ds:List D} {q:D->Bool} {g:D->D} {M1:Store} (hit:it.den W ρ M=.ok d M1) (hd:asList M1 d=some ds) (hl:ds.length <= 100000)
 (h:∀ x∈ds,∃ ρ1,t.put x (ρ ++ List.replicate k none)=some ρ1/\c.den W ρ1 M1=.ok (.bl (q x)) M1/\(q x=true->e.den W ρ1 M1=.ok (g x) M1)) :
 (Ex.jh v k t (.val it) c e).den W ρ M=if v then .ok (.vl ((ds.filter q).map g)) M1 else new (.lst ((ds.filter q).map g)) M1:=by
 rw [Bw,yz,hit];obtain ⟨s,h1,h2⟩:=Hs (g:=λx=>if q x then some (g x) else none) (body:=λd M=>(Res.ofOpt (t.put d (ρ ++ List.replicate k none)) M).bind fun ρ' M=>(c.den W ρ' M).bind λb M' =>
  match b with
   | .bl true=>(e.den W ρ' M').bind λx M''=>.ok (some x) M''
   | .bl false=>.ok none M'|_=>.bad) hd hl (λx hx=>by
  obtain ⟨ρ1,a,b,c⟩:=h x hx;rw [a,Res.ik,Res.di,b,Res.di];cases e:q x with
  | true=>simp [c e]|false=>simp)
 have:ds.filterMap (λx=>if q x then some (g x) else none)=(ds.filter q).map g:=by
  clear h2 h hl hd
  induction ds with
  | nil=>rfl|cons a l ih=>by_cases e:q a=true<;>simp [e,ih]
 rw [this] at h2;simp only [Res.di,h1,Res.ik];exact congrArg (λr=>Res.bind r λds M2=>if v=true then Res.ok (D.vl ds) M2 else new (MO.lst ds) M2) h2
theorem Pz {k:Nat} {t:Tg} {a b e:Ex} {x y:D} {ds es:List D} {g:D->D} {M1 M2:Store} (ha:a.den W ρ M=.ok x M1) (hb:b.den W ρ M1=.ok y M2) (hx:Iz x=some ds) (hy:Iz y=some es) (hl:ds.length <= 100000)
 (h:∀ p∈(ds.zip es).map λp=>D.tup [p.1,p.2],∃ ρ1,t.put p (ρ ++ List.replicate k none)=some ρ1/\e.den W ρ1 M2=.ok (g p) M2) :
 (Ex.comp true k t (.zip a b) e).den W ρ M=.ok (.vl (((ds.zip es).map λp=>D.tup [p.1,p.2]).map g)) M2:=by
 rw [Ce];show ((a.den W ρ M).bind _).bind _=_;rw [ha,Res.di,hb,Res.di,hx,Res.ik,Res.di,hy,Res.ik,Res.di,Res.di];rw [Pb (g:=g) (M:=M2) (by simp;omega) (λx hx=>by
  obtain ⟨ρ1,a,b⟩:=h x hx;rw [a];simp [b])]
 rfl
theorem Sx {t:Tg} {a b:Ex} {bd:bw} {x y:D} {ds es:List D} {M1 M2:Store} (ha:a.den W ρ M=.ok x M1) (hb:b.den W ρ M1=.ok y M2) (hx:Iz x=some ds) (hy:Iz y=some es) (I:Nat->Env->Store->Prop) (h0:I 0 ρ M2)
 (step:∀ i p ρ M,((ds.zip es).map λp=>D.tup [p.1,p.2])[i]?=some p->I i ρ M->∃ ρ1 fl ρ' M',t.put p ρ=some ρ1/\bd.den W ρ1 M=.ok (fl,ρ') M'/\(fl=.next \/ fl=.cont)/\I (i+1) ρ' M') :
 ∃ ρ' M',(mj.for_ t (.zip a b) bd).den W ρ M=.ok (.next,ρ') M'/\I ((ds.zip es).map λp=>D.tup [p.1,p.2]).length ρ' M':=by
 rw [Fy];show ∃ ρ' M',((a.den W ρ M).bind _).bind _=_/\_;rw [ha,Res.di,hb,Res.di,hx,Res.ik,Res.di,hy,Res.ik,Res.di,Res.di];exact Fq I h0 (λi x ρ M hx h=>by
  obtain ⟨ρ1,fl,ρ',M',a,b,c,d⟩:=step i x ρ M hx h;exact ⟨fl,ρ',M',by rw [a];exact b,c,d⟩)
end
end MW
namespace Yx
open MW
noncomputable def endI (hs:List F) (k:Nat):D->Nat
 | .int i=>if i=-1 then k else match hs[i.toNat]? with | some f=>f.b | none=>0
 | _=>0
noncomputable def wT (hs:List F) (k g:Nat):List D:=(ju hs k).filter λd=>decide (endI hs k d=g)
theorem acz {hs:List F} {k g:Nat} {d:D} (h:d∈wT hs k g):d∈ju hs k/\endI hs k d=g:=by have:=List.mem_filter.mp h;exact ⟨this.1,by simpa using this.2⟩
theorem Ik {hs:List F} {k i:Nat} {f:F} (h:hs[i]?=some f):endI hs k (.int i)=f.b:=by
 have:¬ ((i:Int)=-1):=by omega
 simp [endI,this,h]
theorem aln {hs:List F} {k i:Nat} {f:F} (h:hs[i]?=some f) (e:f.a=k):.int i∈ju hs k:=by refine List.mem_cons_of_mem _ (List.mem_map.mpr ⟨i,List.mem_filter.mpr ⟨List.mem_range.mpr (List.getElem?_eq_some_iff.mp h).1,?_⟩,rfl⟩);simp [lq,h,e]
theorem ah0 {hs:List F} {k i:Nat} {f:F} (h:hs[i]?=some f) (e:f.a=k):.int i∈wT hs k f.b :=
 List.mem_filter.mpr ⟨aln h e,by simp [Ik h]⟩
theorem U7 {hs:List F} {k g:Nat} (hl:hs.length <= 5):(wT hs k g).length <= 6 :=
 Nat.le_trans (List.length_filter_le _ _) (Kq hl)
theorem ac0 {hs:List F} {k g:Nat} {d:D} (h:d∈wT hs k g):∃ i:Int,d=.int i:=acv (acz h).1
noncomputable def bv (hs:List F) (kvs:List (List Kx×D)) (j:Nat):D->Int
 | .int x=>match bothW hs kvs x j with | some (.int v)=>v | _=>0
 | _=>0
section
variable {sz:Nat->Nat} {K:Nat} {hs:List F} {kvs:List (List Kx×D)}
theorem Wu (P:Kg sz K hs kvs) {k j:Nat} {f:F} {d:D} (hj:hs[j]?=some f) (hd:d∈wT hs k f.a) :
 ∃ x:Int,d=.int x/\-1 <= x/\bothW hs kvs x j=some (.int (bv hs kvs j d))/\.int (bv hs kvs j d)∈wT hs k f.b:=by
 obtain ⟨h1,h2⟩:=acz hd;have nj:¬ ((j:Int)=-1):=by omega
 rcases Ga h1 with rfl | ⟨i,g,rfl,hg,e⟩
 . have e:k=f.a:=by simpa [endI] using h2
   have:bothW hs kvs (-1) j=some (.int j):=by simp [bothW]
   refine ⟨-1,rfl,by omega,by simp [bv,this],?_⟩;simp only [bv,this];exact ah0 hj e.symm
 . rw [Ik hg] at h2
   have ni:¬ ((i:Int)=-1):=by omega
   have:bothW hs kvs i j=some (.int (ent hs g f)):=by rw [bothW,if_neg ni,if_neg nj];exact P.look hg hj h2
   refine ⟨i,rfl,by omega,by simp [bv,this],?_⟩;simp only [bv,this];have mg:=List.mem_of_getElem? hg;have mf:=List.mem_of_getElem? hj;rw [Ea];rcases P.uz (P.cl g mg f mf h2) with ⟨x1,i1⟩ | ⟨u,hu,x1⟩
   . rw [x1]
     refine List.mem_filter.mpr ⟨by simp [ju],?_⟩;have:g.a=f.b:=i1.1;simp [endI,<- e,this]
   . rw [x1]
     exact ah0 (f:=g.comp f) hu e
end
noncomputable def ixI (v:Int) (ds:List D):Nat:=(ds.findIdx? λd=>match d with | .int i=>decide (i=v) | _=>false).getD 0
theorem Sy (M:Store) (v:Int):∀ ds:List D,(∀ d∈ds,∃ i:Int,d=.int i)->Gk M (.int v) ds=some (ds.map λd=>match d with | .int i=>decide (i=v) | _=>false)
 | [],_=>rfl
 | d :: l,h=>by
  obtain ⟨i,rfl⟩:=h d (by simp);simp [Gk,Sy M v l (λx hx=>h x (List.mem_cons_of_mem _ hx))]
theorem S8 {α:Type} (f:α->Bool):∀ l:List α,(l.map f).findIdx? id=l.findIdx? f
 | []=>rfl|a :: l=>by simp [List.findIdx?_cons,S8 f l]
theorem S9 {M:Store} {ds:List D} {v:Int} (hi:∀ d∈ds,∃ i:Int,d=.int i) (h:.int v∈ds):Dk .index (.vl ds) [.int v] M=.ok (.int (ixI v ds)) M:=by
 have e:Qu M (.int v) ds=some (ixI v ds):=by
  rw [Qu,Sy M v ds hi,Option.bind_some,S8];unfold ixI;cases q:ds.findIdx? (λd=>match d with | .int i=>decide (i=v) | _=>false) with
  | some j=>rfl
  | none =>
   rw [List.findIdx?_eq_none_iff] at q;have:=q _ h;simp at this
 simp [Dk,e]
end Yx
namespace Yx
open MW
section
variable {M:Store} {sz:Nat->Nat} {K:Nat} {hs:List F} {kvs:List (List Kx×D)} {n r r' m k:Nat}
theorem ag8 (hm:1 <= m) (h:Made n r K hs kvs M) {d:D} (hd:d∈ju hs k):prog.call m 5 [.ref n,.int k,d] M=.ok (.int (endI hs k d)) M:=by
 rcases Ga hd with rfl | ⟨i,f,rfl,hf,_⟩
 . rw [acx hm h];simp [endI]
 . rw [alm hm h hf,Ik hf]
theorem ac1 (hm:1 <= m) {d:D} (hd:d∈ju hs k):prog.call m 19 [gq K r hs,.int k,d] M=.ok (.int (endI hs k d)) M:=by
 rcases Ga hd with rfl | ⟨i,f,rfl,hf,_⟩
 . rw [Yr hm];simp [endI]
 . rw [ag6 hm hf,Ik hf]
theorem alo (hm:1 <= m) (h:Made n r K hs kvs M) (hl:hs.length <= 5) {g:Nat} {a2:Option D} :
 p7.den ⟨prog.call m,prog.cls⟩ [some (.ref n),some (.int k),a2,some (.int g)] M=.ok (.vl (wT hs k g)) (M ++ [.lst (ju hs k)]):=by
 unfold p7;have h':=h.keep (fu.app M [.lst (ju hs k)]);have h1:=Gb (M:=M) (W:=⟨prog.call m,prog.cls⟩) (n:=n) (ρ:=[some (.ref n),some (.int k),a2,some (.int g)]) (o:=.var 0) (mm:=3) (es:=.cons (.var 1) .nil) (ds:=[.int k]) (fi:=4) (by simp) (by simp) h.1 rfl;rw [Ai (d:=.ref M.length) (ds:=ju hs k) (M1:=M ++ [.lst (ju hs k)]) (q:=λd=>decide (endI hs k d=g)) (g:=id) (h1.trans (ag5 hm h hl)) (cz (by simp)) (Nat.le_trans (Kq hl) (by decide)) (λx hx=>by
  refine ⟨_,rfl,?_,λ_=>by simp⟩;have h2:=Gb (M:=M ++ [.lst (ju hs k)]) (W:=⟨prog.call m,prog.cls⟩) (n:=n) (ρ:=[some (.ref n),some (.int k),a2,some (.int g),some x]) (o:=.var 0) (mm:=4) (es:=.cons (.var 1) (.cons (.var 4) .nil)) (ds:=[.int k,x]) (fi:=5) (by simp) (by simp) h'.1 rfl;replace h2:=h2.trans (ag8 hm h' hx);show (Ex.cmp .eq _ _).den _ [some (.ref n),some (.int k),a2,some (.int g),some x] _=_;rw [Vr,h2];simp [-eq_int,gw])]
 simp [wT]
theorem alp (hm:1 <= m) (hl:hs.length <= 5) {g:Nat} {a2 a4 a5 a6 a7:Option D} :
 w5.den ⟨prog.call m,prog.cls⟩ [some (gq K r hs),some (.int k),a2,some (.int g),a4,a5,a6,a7] M=.ok (.vl (wT hs k g)) M:=by
 unfold w5;rw [Ai (d:=.vl (ju hs k)) (ds:=ju hs k) (M1:=M) (q:=λd=>decide (endI hs k d=g)) (g:=id) (by simp [acy hm hl]) rfl (Nat.le_trans (Kq hl) (by decide)) (λx hx=>by
  refine ⟨_,rfl,?_,λ_=>by simp⟩;show (Ex.cmp .eq _ _).den _ [some (gq K r hs),some (.int k),a2,some (.int g),a4,a5,a6,a7,some x] _=_;simp [-eq_int,gw,ac1 hm hx])]
 simp [wT]
noncomputable def lz (hs:List F) (k j:Nat):List D:=(List.range j).map λg=>.vl (wT hs k g)
theorem Mx (hs:List F) (k j:Nat):lz hs k (j+1)=lz hs k j ++ [.vl (wT hs k j)]:=by simp [lz,List.range_succ]
theorem Ks (hs:List F) (k j:Nat):(lz hs k j).length=j:=by simp [lz]
theorem ac2 {M M':Store} {p:Nat} {o:MO} {X:Store} (hp:M.length <= p) (hk:fu M M'):fu M ((M' ++ X).set p o):=λa q h=>by rw [ir (by have:=il h;omega)];exact iu (hk a q h)
theorem alq (hm:2 <= m) (P:Kg sz K hs kvs) (h:Made n r K hs kvs M):∃ M',prog.call m 22 [.ref n,.int k] M=.ok (.ref M.length) M'/\M'[M.length]?=some (.lst (lz hs k K))/\fu M M':=by
 rw [call_of (by omega) rfl];have h0:=h.keep (fu.app M [.lst []]);have hk:=Gb (M:=M ++ [.lst []]) (W:=⟨prog.call (m - 1),prog.cls⟩) (n:=n) (ρ:=[some (.ref n),some (.int k),some (.ref M.length),none]) (o:=.var 0) (mm:=0) (es:=.nil) (ds:=[]) (fi:=1) (by simp) (by simp) h0.1 rfl;replace hk:=hk.trans (kinds_ok (by omega) h0);have:=P.k3;obtain ⟨ρ',M',e,⟨b3,rfl⟩,p1,k1⟩:=jf (W:=⟨prog.call (m - 1),prog.cls⟩) (t:=.name 3) (b:=p8) hk (by omega)
  (λj ρ M'=>(∃ b3:Option D,ρ=[some (.ref n),some (.int k),some (.ref M.length),b3])/\M'[M.length]?=some (.lst (lz hs k j))/\fu M M') ⟨⟨none,rfl⟩,by simp [lz],fu.app M _⟩
  (λj ρ M1 hj hI=>by
   obtain ⟨⟨b3,rfl⟩,q1,q2⟩:=hI;have c:=alo (M:=M1) (m:=m - 1) (k:=k) (g:=j) (a2:=some (.ref M.length)) (by omega) (h.keep q2) P.len;have q1':=iu (X:=[.lst (ju hs k)]) q1;refine ⟨_,.next,_,_,rfl,?_,.inl rfl,⟨some (.int j),rfl⟩,dq (o:=.lst (lz hs k (j+1))) q1',ac2 (Nat.le_refl _) q2⟩;have ap:=vd (d:=.vl (wT hs k j)) q1' (by rw [Ks];omega);rw [<- Mx] at ap;simp [p8,v7 q1,c,ap])
 refine ⟨M',?_,p1,k1⟩;simp [Fn.run,Bq,Bp,MW.new,yq,e]
noncomputable def Ys (hs:List F) (kvs:List (List Kx×D)) (k j:Nat):D:=match hs[j]? with
 | some f=>.tup ((wT hs k f.a).map λd=>.int (ixI (bv hs kvs j d) (wT hs k f.b)))
 | none=>.non
noncomputable def yr (hs:List F) (kvs:List (List Kx×D)) (k j:Nat):List D:=(List.range j).map (Ys hs kvs k)
theorem My (hs:List F) (kvs:List (List Kx×D)) (k j:Nat):yr hs kvs k (j+1)=yr hs kvs k j ++ [Ys hs kvs k j]:=by simp [yr,List.range_succ]
theorem Ku (hs:List F) (kvs:List (List Kx×D)) (k j:Nat):(yr hs kvs k j).length=j:=by simp [yr]
noncomputable def Tc (hs:List F) (k K:Nat):List D:=(List.range K).map λg=>.int (wT hs k g).length
noncomputable def Mz (K:Nat) (hs:List F) (kvs:List (List Kx×D)) (k:Nat):D:=.tup [.tup (Tc hs k K),.tup (yr hs kvs k hs.length)]
theorem Il {p j:Nat} {M:Store} (h:M[p]?=some (.lst (lz hs k K))) (hj:j < K):jm (.ref p) (.int j) M=some (.vl (wT hs k j)):=uc (cz h) (by omega) (by simp [lz,hj])
theorem Nb {W:jz} {ρ:Env} {x y p:Nat} (hx:ρ[x]?=some (some (.ref p))) (hy:y=ρ.length) (hp:M[p]?=some (.lst (lz hs k K))) (hK:K <= 3) :
 (Ex.comp true 1 (.name y) (.val (.var x)) (.blt .len (.cons (.var y) .nil))).den W ρ M=.ok (.vl (Tc hs k K)) M:=by
 subst hy;rw [j0 (d:=.ref p) (ds:=lz hs k K) (M1:=M) (g:=λd=>match d with | .vl l=>.int l.length | _=>.non) (by simp [hx]) (cz hp) (by rw [Ks];omega) (λd hd=>by
  obtain ⟨g,hg,rfl⟩:=List.mem_map.mp hd;refine ⟨_,rfl,?_⟩;simp [dj,Iw])]
 simp [lz,Tc]
end
theorem Kv {M M':Store} {p:Nat} {o:MO} (hp:M.length <= p) (hk:fu M M'):fu M (M'.set p o):=λa q h=>by rw [ir (by have:=il h;omega)];exact hk a q h
section
variable {M:Store} {sz:Nat->Nat} {K:Nat} {hs:List F} {kvs:List (List Kx×D)} {n r r' m k:Nat}
theorem U8 {j:Nat} {f:F} (h:hs[j]?=some f):Ys hs kvs k j=.tup ((wT hs k f.a).map λd=>.int (ixI (bv hs kvs j d) (wT hs k f.b))):=by simp [Ys,h]
theorem alr (hm:2 <= m) (P:Kg sz K hs kvs) (h:Made n r K hs kvs M) {p j:Nat} {f:F} {a1 a3:Option D} (hp:M[p]?=some (.lst (lz hs k K))) (hj:hs[j]?=some f) :
 J7.den ⟨prog.call m,prog.cls⟩ [some (.ref n),a1,some (.ref p),a3,some (.int j),some (eD f),some (.vl (wT hs k f.b))] M=.ok (.vl ((wT hs k f.a).map λd=>.int (ixI (bv hs kvs j d) (wT hs k f.b)))) M:=by
 have hf:=List.mem_of_getElem? hj;unfold J7;rw [j0 (d:=.vl (wT hs k f.a)) (ds:=wT hs k f.a) (M1:=M) (g:=λd=>.int (ixI (bv hs kvs j d) (wT hs k f.b))) (by simp [Kl,Il hp (P.alg f hf)]) rfl (Nat.le_trans (U7 P.len) (by decide)) (λd hd=>by
  obtain ⟨x,rfl,_,hv,hin⟩:=Wu P hj hd;refine ⟨_,rfl,?_⟩;have h2:=(Gb (M:=M) (W:=⟨prog.call m,prog.cls⟩) (n:=n) (ρ:=[some (.ref n),a1,some (.ref p),a3,some (.int j),some (eD f),some (.vl (wT hs k f.b)),some (.int x)]) (o:=.var 0) (mm:=2) (es:=.cons (.var 7) (.cons (.var 4) .nil)) (ds:=[.int x,.int j]) (fi:=3) (by simp) (by simp) h.1 rfl).trans (Yq hm h hv);show (Ex.bm .index (.var 6) (.cons _ .nil)).den _ [some (.ref n),a1,some (.ref p),a3,some (.int j),some (eD f),some (.vl (wT hs k f.b)),some (.int x)] _=_;simp [-Em,h2,Hy,S9 (M:=M) (λd hd=>ac0 hd) hin])]
 rfl
theorem ag9 (hm:3 <= m) (P:Kg sz K hs kvs) (h:Made n r K hs kvs M):∃ M',prog.call m 21 [.ref n,.int k] M=.ok (Mz K hs kvs k) M'/\fu M M':=by
 rw [call_of (by omega) rfl];obtain ⟨M1,e1,p1,k1⟩:=alq (k:=k) (m:=m - 1) (by omega) P h;have h1:=(h.keep k1).keep (fu.app M1 [.lst []]);have hk:=(Gb (M:=M1 ++ [.lst []]) (W:=⟨prog.call (m - 1),prog.cls⟩) (n:=n) (ρ:=[some (.ref n),some (.int k),some (.ref M.length),some (.ref M1.length),none,none,none]) (o:=.var 0) (mm:=1) (es:=.nil) (ds:=[]) (fi:=2) (by simp) (by simp) h1.1 rfl).trans (Yp (by omega) h1);have hl:=P.len;obtain ⟨ρ',M2,e,⟨b4,b5,b6,rfl⟩,p2,k2⟩:=Bx (W:=⟨prog.call (m - 1),prog.cls⟩) (t:=.names [4,5]) (b:=J8) (ds:=hs.map eD) hk
  (λj ρ M'=>(∃ b4 b5 b6:Option D,ρ=[some (.ref n),some (.int k),some (.ref M.length),some (.ref M1.length),b4,b5,b6])/\M'[M1.length]?=some (.lst (yr hs kvs k j))/\fu M1 M') ⟨⟨none,none,none,rfl⟩,by simp [yr],fu.app M1 _⟩
  (λj x ρ M2 hx hI=>by
   obtain ⟨⟨b4,b5,b6,rfl⟩,q1,q2⟩:=hI;obtain ⟨f,hf,rfl⟩:∃ f,hs[j]?=some f/\eD f=x:=by simpa using hx
   have hjl:=(List.getElem?_eq_some_iff.mp hf).1;have hp:=q2 _ _ p1;have c:=alr (M:=M2) (m:=m - 1) (a1:=some (.int k)) (a3:=some (.ref M1.length)) (by omega) P (h.keep (k1.trans q2)) hp hf;have ap:=vd (d:=Ys hs kvs k j) q1 (by rw [Ku];omega);rw [<- My] at ap;rw [U8 hf] at ap;refine ⟨_,.next,_,_,lg _ _ _ _ _,?_,.inl rfl,⟨some (.int j),some (eD f),some (.vl (wT hs k f.b)),rfl⟩,dq (o:=.lst (yr hs kvs k (j+1))) q1,Kv (Nat.le_refl _) q2⟩;simp [J8,Km,Il hp (P.alh f (List.mem_of_getElem? hf)),v7 q1,c,G7,ap])
 have e':(List.map eD hs).length=hs.length:=by simp
 rw [e'] at p2;refine ⟨M2,?_,k1.trans k2⟩;have c1:=Nb (M:=M2) (W:=⟨prog.call (m - 1),prog.cls⟩) (ρ:=[some (.ref n),some (.int k),some (.ref M.length),some (.ref M1.length),b4,b5,b6]) (x:=2) (y:=7) rfl rfl (k2 _ _ p1) P.k3;simp [Fn.run,aca,ab9,e1,MW.new,Ry,e,Rx,c1,G7,dj,Jb (cz p2),Mz]
theorem als (hm:1 <= m) (P:Kg sz K hs kvs) (hr:M[r]?=some (.dT kvs)) {p j:Nat} {f:F} {a1 a3 a4:Option D} (hp:M[p]?=some (.lst (lz hs k K))) (hj:hs[j]?=some f) :
 wy.den ⟨prog.call m,prog.cls⟩ [some (gq K r hs),a1,some (.ref p),a3,a4,some (.int j),some (.int f.a),some (.int f.b)] M=.ok (.vl ((wT hs k f.a).map λd=>.int (ixI (bv hs kvs j d) (wT hs k f.b)))) M:=by
 have hf:=List.mem_of_getElem? hj;unfold wy;rw [j0 (d:=.vl (wT hs k f.a)) (ds:=wT hs k f.a) (M1:=M) (g:=λd=>.int (ixI (bv hs kvs j d) (wT hs k f.b))) (by simp [Il hp (P.alg f hf)]) rfl (Nat.le_trans (U7 P.len) (by decide)) (λd hd=>by
  obtain ⟨x,rfl,hx,hv,hin⟩:=Wu P hj hd;refine ⟨_,rfl,?_⟩;show (Ex.bm .index (.ix (.var 2) (.var 7)) (.cons _ .nil)).den _ [some (gq K r hs),a1,some (.ref p),a3,a4,some (.int j),some (.int f.a),some (.int f.b),some (.int x)] _=_;simp [Hy,Il hp (P.alh f hf),U6 hm hr hx (show (-1:Int) <= j by omega) hv,S9 (M:=M) (λd hd=>ac0 hd) hin])]
 rfl
theorem ac3 (hm:2 <= m) (P:Kg sz K hs kvs) (hr:M[r]?=some (.dT kvs)):∃ M',prog.call m 24 [gq K r hs,.int k] M=.ok (Mz K hs kvs k) M'/\fu M M':=by
 rw [call_of (by omega) rfl];have:=P.k3;have hl:=P.len;obtain ⟨ρ1,M1,e1,⟨b3,rfl⟩,p1,k1⟩:=jf (W:=⟨prog.call (m - 1),prog.cls⟩) (t:=.name 3) (b:=w6) (it:=.ix (.var 0) (.cst (.int 0))) (n:=K) (ρ:=[some (gq K r hs),some (.int k),some (.ref M.length),none,none,none,none,none]) (M:=M ++ [.lst []]) (M1:=M ++ [.lst []]) (by simp [Sw]) (by omega)
  (λj ρ M'=>(∃ b3:Option D,ρ=[some (gq K r hs),some (.int k),some (.ref M.length),b3,none,none,none,none])/\M'[M.length]?=some (.lst (lz hs k j))/\fu M M') ⟨⟨none,rfl⟩,by simp [lz],fu.app M _⟩
  (λj ρ M1 hj hI=>by
   obtain ⟨⟨b3,rfl⟩,q1,q2⟩:=hI;have c:=alp (M:=M1) (K:=K) (r:=r) (m:=m - 1) (k:=k) (g:=j) (a2:=some (.ref M.length)) (a4:=none) (a5:=none) (a6:=none) (a7:=none) (by omega) hl;refine ⟨_,.next,_,_,rfl,?_,.inl rfl,⟨some (.int j),rfl⟩,dq (o:=.lst (lz hs k (j+1))) q1,Kv (Nat.le_refl _) q2⟩;have ap:=vd (d:=.vl (wT hs k j)) q1 (by rw [Ks];omega);rw [<- Mx] at ap;simp [w6,v7 q1,c,ap])
 obtain ⟨ρ2,M2,e2,⟨b5,b6,b7,rfl⟩,p2,k2⟩:=jf (W:=⟨prog.call (m - 1),prog.cls⟩) (t:=.name 5) (b:=wz) (it:=.blt .len (.cons (.ix (.var 0) (.cst (.int 1))) .nil)) (n:=hs.length) (ρ:=[some (gq K r hs),some (.int k),some (.ref M.length),b3,some (.ref M1.length),none,none,none]) (M:=M1 ++ [.lst []]) (M1:=M1 ++ [.lst []]) (by simp [Kr,Kp]) (by omega)
  (λj ρ M'=>(∃ b5 b6 b7:Option D,ρ=[some (gq K r hs),some (.int k),some (.ref M.length),b3,some (.ref M1.length),b5,b6,b7])/\M'[M1.length]?=some (.lst (yr hs kvs k j))/\fu M1 M') ⟨⟨none,none,none,rfl⟩,by simp [yr],fu.app M1 _⟩
  (λj ρ M2 hj hI=>by
   obtain ⟨⟨b5,b6,b7,rfl⟩,q1,q2⟩:=hI;have hf:hs[j]?=some hs[j]:=by simp [hj]
   have hp:=q2 _ _ p1;have c:=als (M:=M2) (m:=m - 1) (a1:=some (.int k)) (a3:=b3) (a4:=some (.ref M1.length)) (by omega) P (q2 _ _ (k1 _ _ hr)) hp hf;have ap:=vd (d:=Ys hs kvs k j) q1 (by rw [Ku];omega);rw [<- My] at ap;rw [U8 hf] at ap;refine ⟨_,.next,_,_,rfl,?_,.inl rfl,⟨some (.int j),some (.int hs[j].a),some (.int hs[j].b),rfl⟩,dq (o:=.lst (yr hs kvs k (j+1))) q1,Kv (Nat.le_refl _) q2⟩;have pe:∀ ρ,(Tg.names [6,7]).put (eD hs[j]) ρ=some ((ρ.set 6 (some (.int hs[j].a))).set 7 (some (.int hs[j].b))):=λ_=>rfl
   simp [wz,Kr,Ko hf,pe,v7 q1,c,G7,ap])
 refine ⟨M2,?_,k1.trans k2⟩;have c1:=Nb (M:=M2) (W:=⟨prog.call (m - 1),prog.cls⟩) (ρ:=[some (gq K r hs),some (.int k),some (.ref M.length),b3,some (.ref M1.length),b5,b6,b7]) (x:=2) (y:=8) rfl rfl (k2 _ _ p1) P.k3;simp [Fn.run,Hr,Hq,MW.new,Dd,e1,Dc,e2,Cz,c1,G7,dj,Jb (cz p2),Mz]
theorem ac4 {α:Type}:∀ l:List α,allB (l.map λ_=>D.bl true)=some true
 | []=>rfl|_ :: l=>by simp [allB,ac4 l]
theorem same_int (hm:1 <= m) (i:Int):prog.call m 23 [.int i,.int i] M=.ok (.bl true) M:=by rw [call_of hm rfl];simp [Fn.run,Bs,Br,dj,isS,isB]
theorem Gd (hm:1 <= m) {ds:List D} (hl:ds.length <= 100000) (h:∀ d∈ds,prog.call (m - 1) 23 [d,d] M=.ok (.bl true) M):prog.call m 23 [.tup ds,.tup ds] M=.ok (.bl true) M:=by
 rw [call_of hm rfl];have c:wu.den ⟨prog.call (m - 1),prog.cls⟩ [some (.tup ds),some (.tup ds)] M=.ok (.vl (((ds.zip ds).map λp=>D.tup [p.1,p.2]).map λ_=>D.bl true)) M:=by
  unfold wu;refine Pz (x:=.tup ds) (y:=.tup ds) (M1:=M) (by simp) (by simp) rfl rfl hl (λp hp=>?_);obtain ⟨⟨d,d'⟩,hq,rfl⟩:=List.mem_map.mp hp;obtain ⟨i,hi,ei⟩:=List.getElem_of_mem hq;have:d=d'/\d∈ds:=by simp at ei hi;obtain ⟨rfl,rfl⟩:=ei;exact ⟨rfl,List.getElem_mem hi⟩
  obtain ⟨rfl,hd⟩:=this;refine ⟨_,lg _ _ _ _ _,?_⟩;simp [h d hd]
 have al:=ac4 ((ds.zip ds).map λp=>D.tup [p.1,p.2]);simp [-List.map_map,Fn.run,Bs,Br,c,dj,isS,isT,isL,al]
theorem Yt (hm:4 <= m) (P:Kg sz K hs kvs):prog.call m 23 [Mz K hs kvs k,Mz K hs kvs k] M=.ok (.bl true) M:=by
 have:=P.k3;have:=P.len;refine Gd (by omega) (by simp) (λd hd=>?_);have hd':d=.tup (Tc hs k K) \/ d=.tup (yr hs kvs k hs.length):=by simpa using hd
 rcases hd' with rfl | rfl
 . refine Gd (by omega) (by simp [Tc];omega) (λd hd=>?_)
   obtain ⟨g,_,rfl⟩:=List.mem_map.mp hd;exact same_int (by omega) _
 . refine Gd (by omega) (by rw [Ku];omega) (λd hd=>?_)
   obtain ⟨j,hj,rfl⟩:=List.mem_map.mp hd;obtain ⟨f,hf⟩:∃ f,hs[j]?=some f:=⟨_,List.getElem?_eq_getElem (List.mem_range.mp hj)⟩;rw [U8 hf];refine Gd (by omega) (by rw [List.length_map];exact Nat.le_trans (U7 P.len) (by decide)) (λd hd=>?_);obtain ⟨x,_,rfl⟩:=List.mem_map.mp hd;exact same_int (by omega) _
end
section
variable {W:jz} {ρ:Env} {M M1 M2:Store}
theorem ac5 {body:D->Store->Res (Option D)} {d0 d1 x0 x1:D} (h0:body d0 M=.ok (some x0) M1) (h1:body d1 M1=.ok (some x1) M2):gf (.con [d0,d1]) body M=.ok [x0,x1] M2:=by simp [gf,Src.len,jw,Src.item,Src.fin,h0,h1]
theorem ac6 {k:Nat} {t:Tg} {it e:Ex} {d0 d1 x0 x1:D} {ρ0 ρ1:Env} (hi:it.den W ρ M=.ok (.vl [d0,d1]) M) (p0:t.put d0 (ρ ++ List.replicate k none)=some ρ0) (h0:e.den W ρ0 M=.ok x0 M1) (p1:t.put d1 (ρ ++ List.replicate k none)=some ρ1) (h1:e.den W ρ1 M1=.ok x1 M2) :
 (Ex.comp true k t (.val it) e).den W ρ M=.ok (.vl [x0,x1]) M2:=by
 rw [Ce,yz,hi];have:=ac5 (d0:=d0) (d1:=d1) (x0:=x0) (x1:=x1) (M:=M) (M1:=M1) (M2:=M2) (body:=λd M=>(Res.ofOpt (t.put d (ρ ++ List.replicate k none)) M).bind fun ρ' M=>(e.den W ρ' M).bind λx M'=>.ok (some x) M') (by rw [p0];simp [h0]) (by rw [p1];simp [h1]);simp only [Res.di];show (gf (.con [d0,d1]) _ M).bind _=_;rw [this];rfl
end
structure Two (n r a:Nat) (sz:Nat->Nat) (K:Nat) (hs:List F) (kvs:List (List Kx×D)) (M:Store):Prop where
 pat:Kg sz K hs kvs
 made:Made n a K hs kvs M
 tab:M[r]?=some (.dT kvs)
theorem Two.keep {n r a:Nat} {sz:Nat->Nat} {K:Nat} {hs:List F} {kvs:List (List Kx×D)} {M M':Store} (T:Two n r a sz K hs kvs M) (k:fu M M'):Two n r a sz K hs kvs M':=⟨T.pat,T.made.keep k,k _ _ T.tab⟩
section
variable {m:Nat} {M:Store} {n r a:Nat} {sz:Nat->Nat} {K:Nat} {hs:List F} {kvs:List (List Kx×D)}
theorem Wv (hm:4 <= m) (T:Two n r a sz K hs kvs M) {k:Nat} {a0 a1 a2 a3:Option D} :
 ∃ M',Fp.den ⟨prog.call m,prog.cls⟩ [a0,a1,a2,a3,some (.int k),some (gq K r hs),some (.ref n)] M=.ok (.next,[a0,a1,a2,a3,some (.int k),some (gq K r hs),some (.ref n)]) M'/\fu M M':=by
 by_cases h:k < K
 . obtain ⟨M1,e1,k1⟩:=ag9 (k:=k) (m:=m) (by omega) T.pat T.made
   obtain ⟨M2,e2,k2⟩:=ac3 (k:=k) (m:=m) (by omega) T.pat (k1 _ _ T.tab);have e3:=Yt (M:=M2) (k:=k) hm T.pat;refine ⟨M2,?_,k1.trans k2⟩;have h':(k:Int) < (K:Int):=by omega
   simp [Fp,Sw,h',e1,e2,e3]
 . refine ⟨M,?_,fu.refl M⟩
   have h':¬ (k:Int) < (K:Int):=by omega
   simp [Fp,Sw,h']
end
theorem alu {m:Nat} {ns:List Int} {M:Store} (hm:5 <= m):∃ M',prog.call m 25 [.fz (ns.map D.int)] M=.ok (.bl true) M':=by
 rw [call_of (by omega) rfl];obtain ⟨n0,f0,s0,o0⟩:=R8 (m:=m - 1) (k:=0) (ns:=ns) (M:=M) (by omega);have hh0:Wm M.length f0 (M ++ [.lst [.int n0,.bl f0]]):=⟨n0,by simp,o0⟩;obtain ⟨K0,r0,sz0,hs0,ac7,M1,e0,p0,lr0,P0,t0⟩:=Kh (m:=m - 1) (by omega) hh0;obtain ⟨n1,f1,s1,o1⟩:=R8 (m:=m - 1) (k:=1) (ns:=ns) (M:=M1) (by omega);have hh1:Wm M1.length f1 (M1 ++ [.lst [.int n1,.bl f1]]):=⟨n1,by simp,o1⟩;obtain ⟨K1,r1,sz1,hs1,aha,M2,e1,p1,lr1,P1,t1⟩:=Kh (m:=m - 1) (by omega) hh1;have p0':M2[r0]?=some (.dT ac7):=t1.keep r0 _ (by have:=il p0;omega) (iu p0);have d0:dj .dict [.ref r0] M2=.ok (.ref M2.length) (M2 ++ [.dT ac7]):=by simp [dj,p0',P0.sm,MW.new]
 have nn0:(M2 ++ [.dT ac7] ++ [.ins 2 []])[M2.length+1]?=some (.ins 2 []):=by simp
 obtain ⟨M4,a0,i0,m0,la0,lb0,k0⟩:=Wt (M:=M2 ++ [.dT ac7] ++ [.ins 2 []]) (m:=m - 1) (r:=M2.length) (n:=M2.length+1) (by omega) P0 (by simp) nn0;have k0':fu M2 M4:=λx o h=>k0 x o (by have:=il h;omega) (iu (iu h))
 have d1:dj .dict [.ref r1] M4=.ok (.ref M4.length) (M4 ++ [.dT aha]):=by simp [dj,k0' _ _ p1,P1.sm,MW.new]
 have nn1:(M4 ++ [.dT aha] ++ [.ins 2 []])[M4.length+1]?=some (.ins 2 []):=by simp
 obtain ⟨M5,a1,i1,m1,la1,lb1,k1⟩:=Wt (M:=M4 ++ [.dT aha] ++ [.ins 2 []]) (m:=m - 1) (r:=M4.length) (n:=M4.length+1) (by omega) P1 (by simp) nn1;have k1':fu M4 M5:=λx o h=>k1 x o (by have:=il h;omega) (iu (iu h))
 have T0:Two (M2.length+1) r0 a0 sz0 K0 hs0 ac7 M5:=⟨P0,m0.keep k1',k1' _ _ (k0' _ _ p0')⟩;have T1:Two (M4.length+1) r1 a1 sz1 K1 hs1 aha M5:=⟨P1,m1,k1' _ _ (k0' _ _ p1)⟩;have c1:Wk.den ⟨prog.call (m - 1),prog.cls⟩ [some (.fz (ns.map D.int)),some (.vl [gq K0 r0 hs0,gq K1 r1 hs1]),none,none,none,none,none] M2=.ok (.vl [.ref (M2.length+1),.ref (M4.length+1)]) M5:=by have cl:(prog.cls)[2]?=some ⟨0,[(0,1),(1,2),(2,3),(3,4),(4,5)]⟩:=rfl;simp at i0 i1;exact ac6 (M1:=M4) (d0:=gq K0 r0 hs0) (d1:=gq K1 r1 hs1) (x0:=.ref (M2.length+1)) (x1:=.ref (M4.length+1)) (by simp) rfl (by simp [Sw,Kr,acw,d0,cl,i0]) rfl (by simp [Sw,Kr,acw,d1,cl,i1])
 have sl0:∃ ρ' M',Wj.den ⟨prog.call (m - 1),prog.cls⟩ [some (.fz (ns.map D.int)),some (.vl [gq K0 r0 hs0,gq K1 r1 hs1]),some (.vl [.ref (M2.length+1),.ref (M4.length+1)]),none,none,none,none] M5=.ok (.next,ρ') M':=by
  obtain ⟨ρ',M',e,_⟩:=jf (W:=⟨prog.call (m - 1),prog.cls⟩) (t:=.name 3) (b:=Wi) (it:=.cst (.int 2)) (n:=2) (ρ:=[some (.fz (ns.map D.int)),some (.vl [gq K0 r0 hs0,gq K1 r1 hs1]),some (.vl [.ref (M2.length+1),.ref (M4.length+1)]),none,none,none,none]) (M:=M5) (M1:=M5) (by simp) (by decide)
   (λ_ ρ M'=>(∃ b3 b4 b5 b6:Option D,ρ=[some (.fz (ns.map D.int)),some (.vl [gq K0 r0 hs0,gq K1 r1 hs1]),some (.vl [.ref (M2.length+1),.ref (M4.length+1)]),b3,b4,b5,b6])/\fu M5 M') ⟨⟨none,none,none,none,rfl⟩,fu.refl _⟩
   (λi ρ M6 hi hI=>by
    obtain ⟨⟨b3,b4,b5,b6,rfl⟩,q⟩:=hI;obtain ⟨ρ2,M7,e2,⟨c4,c5,c6,rfl⟩,q2⟩:=jf (W:=⟨prog.call (m - 1),prog.cls⟩) (t:=.name 4) (b:=Wh) (it:=.cst (.int 3)) (n:=3) (ρ:=[some (.fz (ns.map D.int)),some (.vl [gq K0 r0 hs0,gq K1 r1 hs1]),some (.vl [.ref (M2.length+1),.ref (M4.length+1)]),some (.int i),b4,b5,b6]) (M:=M6) (M1:=M6) (by simp) (by decide)
     (λ_ ρ M'=>(∃ b4 b5 b6:Option D,ρ=[some (.fz (ns.map D.int)),some (.vl [gq K0 r0 hs0,gq K1 r1 hs1]),some (.vl [.ref (M2.length+1),.ref (M4.length+1)]),some (.int i),b4,b5,b6])/\fu M5 M') ⟨⟨b4,b5,b6,rfl⟩,q⟩
     (λj ρ M7 hj hI=>by
      obtain ⟨⟨b4,b5,b6,rfl⟩,q⟩:=hI;obtain ⟨ρ3,M8,e3,⟨c5,c6,rfl⟩,q3⟩:=Sx (W:=⟨prog.call (m - 1),prog.cls⟩) (t:=.names [5,6]) (bd:=Fp) (a:=.var 1) (b:=.var 2) (x:=.vl [gq K0 r0 hs0,gq K1 r1 hs1]) (y:=.vl [.ref (M2.length+1),.ref (M4.length+1)]) (ρ:=[some (.fz (ns.map D.int)),some (.vl [gq K0 r0 hs0,gq K1 r1 hs1]),some (.vl [.ref (M2.length+1),.ref (M4.length+1)]),some (.int i),some (.int j),b5,b6]) (M:=M7) (M1:=M7) (M2:=M7) (by simp) (by simp) rfl rfl
       (λ_ ρ M'=>(∃ b5 b6:Option D,ρ=[some (.fz (ns.map D.int)),some (.vl [gq K0 r0 hs0,gq K1 r1 hs1]),some (.vl [.ref (M2.length+1),.ref (M4.length+1)]),some (.int i),some (.int j),b5,b6])/\fu M5 M') ⟨⟨b5,b6,rfl⟩,q⟩
       (λl p ρ M8 hp hI=>by
        obtain ⟨⟨b5,b6,rfl⟩,q⟩:=hI
        match l,hp with
        | 0,hp =>
         cases hp;obtain ⟨M9,e9,k9⟩:=Wv (m:=m - 1) (by omega) (T0.keep q) (k:=j) (a0:=some (.fz (ns.map D.int))) (a1:=some (.vl [gq K0 r0 hs0,gq K1 r1 hs1])) (a2:=some (.vl [.ref (M2.length+1),.ref (M4.length+1)])) (a3:=some (.int i));exact ⟨_,.next,_,M9,lg _ _ _ _ _,e9,.inl rfl,⟨_,_,rfl⟩,q.trans k9⟩
        | 1,hp =>
         cases hp;obtain ⟨M9,e9,k9⟩:=Wv (m:=m - 1) (by omega) (T1.keep q) (k:=j) (a0:=some (.fz (ns.map D.int))) (a1:=some (.vl [gq K0 r0 hs0,gq K1 r1 hs1])) (a2:=some (.vl [.ref (M2.length+1),.ref (M4.length+1)])) (a3:=some (.int i));exact ⟨_,.next,_,M9,lg _ _ _ _ _,e9,.inl rfl,⟨_,_,rfl⟩,q.trans k9⟩
        | l+2,hp=>simp at hp)
      refine ⟨_,.next,_,M8,rfl,?_,.inl rfl,⟨some (.int j),c5,c6,rfl⟩,q3⟩;show (bw.cons O7 .nil).den _ [some (.fz (ns.map D.int)),some (.vl [gq K0 r0 hs0,gq K1 r1 hs1]),some (.vl [.ref (M2.length+1),.ref (M4.length+1)]),some (.int i),some (.int j),b5,b6] M7=_;simp [O7,e3])
    refine ⟨_,.next,_,M7,rfl,?_,.inl rfl,⟨some (.int i),c4,c5,c6,rfl⟩,q2⟩;show (bw.cons O8 .nil).den _ [some (.fz (ns.map D.int)),some (.vl [gq K0 r0 hs0,gq K1 r1 hs1]),some (.vl [.ref (M2.length+1),.ref (M4.length+1)]),some (.int i),b4,b5,b6] M6=_;simp [O8,e2])
  exact ⟨ρ',M',e⟩
 obtain ⟨ρ',M',sl0⟩:=sl0;refine ⟨M',?_⟩;simp at s0 s1;have e0':prog.call (m - 1) 17 [.ref M.length] (M ++ [.lst [.int n0,.bl f0]])=.ok (gq K0 r0 hs0) M1:=e0;have e1':prog.call (m - 1) 17 [.ref M1.length] (M1 ++ [.lst [.int n1,.bl f1]])=.ok (gq K1 r1 hs1) M2:=e1;simp [Fn.run,acb,ahy,s0,s1,e0',e1',c1,sl0]
end Yx
namespace Yx
open PySem L2
open PySem.W
theorem all_mk {l:OpenLaw} {w:World} {K:Frag} {h:Heap} {mg:Str->Option Value} {fa:Addr} (X:K.In h) (G:h.Ns mainGlobals mg) (hfa:mg "law" = some (.ref fa))
 {C2:Addr} {f0 f1 f2 f3 f4 f5 f6 f7 f8 f9 f10 f11 f12 f13 f14 f15 f16 f17 f18 f19 f20 f21 f22 f23 f24 f25:Addr}
 {od0 od1 od2 od3 od4 od5 od6 od7 od8 od9 awf awg awh awi awj awk awl awm awn awo awp awq awr aws awt awu an0 an1 an2 an3 an4 an5 an6 an7 an8 an9 awv aww awx awy awz aw0 aw1 aw2 aw3 aw4 aw5 aw6 aw7 aw8 aw9 aq9:Option Addr} {sl0 sl1 sl2 sl3 sl4 sl5 sl6 sl7 sl8 sl9 axa axb axc axd axe axf axg axh axi axj axk axl axm axn axo axp:Array (Option Value)} {oc0 oc1 oc2 oc3 oc4 oc5 oc6 oc7 oc8 oc9 axq axr axs axt axu axv axw axx axy axz ax0 ax1 ax2 ax3 ax4 ax5 kV0 kV1 kV2 kV3 kV4 kV5 kV6 kV7 kV8 kV9 ax6 ax7 ax8 ax9 aya ayb ayc ayd aye ayf ayg ayh ayi ayj ayk ara dc0 dc1 dc2 dc3 dc4 dc5 dc6 dc7 dc8 dc9 ayl aym ayn ayo ayp ayq ayr ays ayt ayu ayv ayw ayx ayy ayz arb pm0 pm1 pm2 pm3 pm4 pm5 pm6 pm7 pm8 pm9 ay0 ay1 ay2 ay3 ay4 ay5 ay6 ay7 ay8 ay9 aza azb azc azd aze arc cd0 cd1 cd2 cd3 cd4 cd5 cd6 cd7 cd8 cd9 ard arf arh ari arj ark arl arn aro arp arq ars art aru arv alv ct0 ct1 ct2 ct3 ct4 ct5 ct6 ct7 ct8 ct9 azf azg azh azi azj azk azl azm azn azo azp azq azr azs azt arw:Value}
 {tk0 tk1 tk2:Tok}
 (aC2:nsIn K mainGlobals "Pattern" = some (some (.ref C2)))
 (a0:findIn K (.ref C2) "__init__" = some (some (.ref f0)))
 (i0:isFn K (.ref f0)=true)
 (l0:K.lookup f0=some ⟨oc0,od0,.func (fnOf "__init__" "Pattern.__init__" (cj (inClass (top 7) 0)) (bz (inClass (top 7) 0)) (bf (inClass (top 7) 0)) .none kV0 dc0 pm0 an0 cd0 ct0),sl0⟩)
 (c0:codeIn K cd0 "Pattern.__init__" = true)
 (k0:keepIn K (.ref f0)=true)
 (a1:findIn K (.ref C2) "kinds" = some (some (.ref f1)))
 (i1:isFn K (.ref f1)=true)
 (l1:K.lookup f1=some ⟨oc1,od1,.func (fnOf "kinds" "Pattern.kinds" (cj (inClass (top 7) 1)) (bz (inClass (top 7) 1)) (bf (inClass (top 7) 1)) .none kV1 dc1 pm1 an1 cd1 ct1),sl1⟩)
 (c1:codeIn K cd1 "Pattern.kinds" = true)
 (k1:keepIn K (.ref f1)=true)
 (a2:findIn K (.ref C2) "doings" = some (some (.ref f2)))
 (i2:isFn K (.ref f2)=true)
 (l2:K.lookup f2=some ⟨oc2,od2,.func (fnOf "doings" "Pattern.doings" (cj (inClass (top 7) 2)) (bz (inClass (top 7) 2)) (bf (inClass (top 7) 2)) .none kV2 dc2 pm2 an2 cd2 ct2),sl2⟩)
 (c2:codeIn K cd2 "Pattern.doings" = true)
 (k2:keepIn K (.ref f2)=true)
 (a3:findIn K (.ref C2) "behind" = some (some (.ref f3)))
 (i3:isFn K (.ref f3)=true)
 (l3:K.lookup f3=some ⟨oc3,od3,.func (fnOf "behind" "Pattern.behind" (cj (inClass (top 7) 3)) (bz (inClass (top 7) 3)) (bf (inClass (top 7) 3)) .none kV3 dc3 pm3 an3 cd3 ct3),sl3⟩)
 (c3:codeIn K cd3 "Pattern.behind" = true)
 (k3:keepIn K (.ref f3)=true)
 (a4:findIn K (.ref C2) "ways" = some (some (.ref f4)))
 (i4:isFn K (.ref f4)=true)
 (l4:K.lookup f4=some ⟨oc4,od4,.func (fnOf "ways" "Pattern.ways" (cj (inClass (top 7) 4)) (bz (inClass (top 7) 4)) (bf (inClass (top 7) 4)) .none kV4 dc4 pm4 an4 cd4 ct4),sl4⟩)
 (c4:codeIn K cd4 "Pattern.ways" = true)
 (k4:keepIn K (.ref f4)=true)
 (a5:findIn K (.ref C2) "end" = some (some (.ref f5)))
 (i5:isFn K (.ref f5)=true)
 (l5:K.lookup f5=some ⟨oc5,od5,.func (fnOf "end" "Pattern.end" (cj (inClass (top 7) 5)) (bz (inClass (top 7) 5)) (bf (inClass (top 7) 5)) .none kV5 dc5 pm5 an5 cd5 ct5),sl5⟩)
 (c5:codeIn K cd5 "Pattern.end" = true)
 (k5:keepIn K (.ref f5)=true)
 (a6:nsIn K mainGlobals "both_ways" = some (some (.ref f6)))
 (l6:K.lookup f6=some ⟨oc6,od6,.func (fnOf "both_ways" "both_ways" (cj (top 8)) (bz (top 8)) (bf (top 8)) .none kV6 dc6 pm6 an6 cd6 ct6),sl6⟩)
 (c6:codeIn K cd6 "both_ways" = true)
 (k6:keepIn K (.ref f6)=true)
 (a7:nsIn K mainGlobals "meeting_pairs" = some (some (.ref f7)))
 (l7:K.lookup f7=some ⟨oc7,od7,.func (fnOf "meeting_pairs" "meeting_pairs" (cj (top 9)) (bz (top 9)) (bf (top 9)) .none kV7 dc7 pm7 an7 cd7 ct7),sl7⟩)
 (c7:codeIn K cd7 "meeting_pairs" = true)
 (k7:keepIn K (.ref f7)=true)
 (a8:nsIn K mainGlobals "is_way_between" = some (some (.ref f8)))
 (l8:K.lookup f8=some ⟨oc8,od8,.func (fnOf "is_way_between" "is_way_between" (cj (top 10)) (bz (top 10)) (bf (top 10)) .none kV8 dc8 pm8 an8 cd8 ct8),sl8⟩)
 (c8:codeIn K cd8 "is_way_between" = true)
 (k8:keepIn K (.ref f8)=true)
 (a9:nsIn K mainGlobals "check_doings" = some (some (.ref f9)))
 (l9:K.lookup f9=some ⟨oc9,od9,.func (fnOf "check_doings" "check_doings" (cj (top 11)) (bz (top 11)) (bf (top 11)) .none kV9 dc9 pm9 an9 cd9 ct9),sl9⟩)
 (c9:codeIn K cd9 "check_doings" = true)
 (k9:keepIn K (.ref f9)=true)
 (a10:nsIn K mainGlobals "check_table" = some (some (.ref f10)))
 (l10:K.lookup f10=some ⟨axq,awf,.func (fnOf "check_table" "check_table" (cj (top 12)) (bz (top 12)) (bf (top 12)) .none ax6 ayl ay0 awv ard azf),axa⟩)
 (c10:codeIn K ard "check_table" = true)
 (k10:keepIn K (.ref f10)=true)
 (a11:nsIn K mainGlobals "check_threes" = some (some (.ref f11)))
 (l11:K.lookup f11=some ⟨axr,awg,.func (fnOf "check_threes" "check_threes" (cj (top 13)) (bz (top 13)) (bf (top 13)) .none ax7 aym ay1 aww arf azg),axb⟩)
 (c11:codeIn K arf "check_threes" = true)
 (k11:keepIn K (.ref f11)=true)
 (a12:nsIn K mainGlobals "_law_cell_at" = some (some (.ref f12)))
 (l12:K.lookup f12=some ⟨axs,awh,.func (fnOf "_law_cell_at" "_law_cell_at" (cj (top 18)) (bz (top 18)) (bf (top 18)) .none ax8 ayn ay2 awx arh azh),axc⟩)
 (c12:codeIn K arh "_law_cell_at" = true)
 (k12:keepIn K (.ref f12)=true)
 (a13:nsIn K mainGlobals "_law_state" = some (some (.ref f13)))
 (l13:K.lookup f13=some ⟨axt,awi,.func (fnOf "_law_state" "_law_state" (cj (top 19)) (bz (top 19)) (bf (top 19)) .none ax9 ayo ay3 awy ari azi),axd⟩)
 (c13:codeIn K ari "_law_state" = true)
 (k13:keepIn K (.ref f13)=true)
 (a14:nsIn K mainGlobals "_law_take" = some (some (.ref f14)))
 (l14:K.lookup f14=some ⟨axu,awj,.func (fnOf "_law_take" "_law_take" (cj (top 20)) (bz (top 20)) (bf (top 20)) .none aya ayp ay4 awz arj azj),axe⟩)
 (c14:codeIn K arj "_law_take" = true)
 (k14:keepIn K (.ref f14)=true)
 (a15:nsIn K mainGlobals "_law_begun" = some (some (.ref f15)))
 (l15:K.lookup f15=some ⟨axv,awk,.func (fnOf "_law_begun" "_law_begun" (cj (top 21)) (bz (top 21)) (bf (top 21)) .none ayb ayq ay5 aw0 ark azk),axf⟩)
 (c15:codeIn K ark "_law_begun" = true)
 (k15:keepIn K (.ref f15)=true)
 (a16:nsIn K mainGlobals "_law_closed" = some (some (.ref f16)))
 (l16:K.lookup f16=some ⟨axw,awl,.func (fnOf "_law_closed" "_law_closed" (cj (top 22)) (bz (top 22)) (bf (top 22)) .none ayc ayr ay6 aw1 arl azl),axg⟩)
 (c16:codeIn K arl "_law_closed" = true)
 (k16:keepIn K (.ref f16)=true)
 (a17:nsIn K mainGlobals "_law_pattern" = some (some (.ref f17)))
 (l17:K.lookup f17=some ⟨axx,awm,.func (fnOf "_law_pattern" "_law_pattern" (cj (top 23)) (bz (top 23)) (bf (top 23)) .none ayd ays ay7 aw2 arn azm),axh⟩)
 (c17:codeIn K arn "_law_pattern" = true)
 (k17:keepIn K (.ref f17)=true)
 (a18:nsIn K mainGlobals "_law_ways" = some (some (.ref f18)))
 (l18:K.lookup f18=some ⟨axy,awn,.func (fnOf "_law_ways" "_law_ways" (cj (top 24)) (bz (top 24)) (bf (top 24)) .none aye ayt ay8 aw3 aro azn),axi⟩)
 (c18:codeIn K aro "_law_ways" = true)
 (k18:keepIn K (.ref f18)=true)
 (a19:nsIn K mainGlobals "_law_end" = some (some (.ref f19)))
 (l19:K.lookup f19=some ⟨axz,awo,.func (fnOf "_law_end" "_law_end" (cj (top 25)) (bz (top 25)) (bf (top 25)) .none ayf ayu ay9 aw4 arp azo),axj⟩)
 (c19:codeIn K arp "_law_end" = true)
 (k19:keepIn K (.ref f19)=true)
 (a20:nsIn K mainGlobals "_law_behind" = some (some (.ref f20)))
 (l20:K.lookup f20=some ⟨ax0,awp,.func (fnOf "_law_behind" "_law_behind" (cj (top 26)) (bz (top 26)) (bf (top 26)) .none ayg ayv aza aw5 arq azp),axk⟩)
 (c20:codeIn K arq "_law_behind" = true)
 (k20:keepIn K (.ref f20)=true)
 (a21:nsIn K mainGlobals "seed" = some (some (.ref f21)))
 (l21:K.lookup f21=some ⟨ax1,awq,.func (fnOf "seed" "seed" (cj (top 15)) (bz (top 15)) (bf (top 15)) .none ayh ayw azb aw6 ars azq),axl⟩)
 (c21:codeIn K ars "seed" = true)
 (k21:keepIn K (.ref f21)=true)
 (a22:nsIn K mainGlobals "ways_by_ends" = some (some (.ref f22)))
 (l22:K.lookup f22=some ⟨ax2,awr,.func (fnOf "ways_by_ends" "ways_by_ends" (cj (top 16)) (bz (top 16)) (bf (top 16)) .none ayi ayx azc aw7 art azr),axm⟩)
 (c22:codeIn K art "ways_by_ends" = true)
 (k22:keepIn K (.ref f22)=true)
 (a23:nsIn K mainGlobals "_law_same" = some (some (.ref f23)))
 (l23:K.lookup f23=some ⟨ax3,aws,.func (fnOf "_law_same" "_law_same" (cj (top 27)) (bz (top 27)) (bf (top 27)) .none ayj ayy azd aw8 aru azs),axn⟩)
 (c23:codeIn K aru "_law_same" = true)
 (k23:keepIn K (.ref f23)=true)
 (a24:nsIn K mainGlobals "_law_seed" = some (some (.ref f24)))
 (l24:K.lookup f24=some ⟨ax4,awt,.func (fnOf "_law_seed" "_law_seed" (cj (top 28)) (bz (top 28)) (bf (top 28)) .none ayk ayz aze aw9 arv azt),axo⟩)
 (c24:codeIn K arv "_law_seed" = true)
 (k24:keepIn K (.ref f24)=true)
 (a25:nsIn K mainGlobals "law" = some (some (.ref f25)))
 (l25:K.lookup f25=some ⟨ax5,awu,.func (fnOf "law" "law" (cj (top 29)) (bz (top 29)) (bf (top 29)) .none ara arb arc aq9 alv arw),axp⟩)
 (c25:codeIn K alv "law" = true)
 (k25:keepIn K (.ref f25)=true)
 (pg2:plainGet K C2 Str.empty=true)
 (hd2:hasDictIn K C2=true)
 (po2:plainOver K C2=true)
 (sa2:findIn K (.ref C2) "__setattr__" = some (some (.builtin "object.__setattr__")))
 (mk2:makesIn K C2=true)
 (kc2:keepIn K (.ref C2)=true)
 (alw:findIn K (.ref C2) "together" = some none)
 (alx:findIn K (.ref C2) "doing_ends" = some none)
 (aly:findIn K (.ref C2) "kind_count" = some none)
 (v0:nsIn K mainGlobals "STAYING" = some (some (.int (-1) tk0)))
 (v1:nsIn K mainGlobals "MOST_KINDS" = some (some (.int (3) tk1)))
 (v2:nsIn K mainGlobals "MOST_DOINGS" = some (some (.int (5) tk2)))
 (z0:nsIn K mainGlobals "len" = some none)
 (z1:nsIn K mainGlobals "tuple" = some none)
 (z2:nsIn K mainGlobals "list" = some none)
 (z3:nsIn K mainGlobals "dict" = some none)
 (z4:nsIn K mainGlobals "max" = some none)
 (z5:nsIn K mainGlobals "min" = some none)
 (z6:nsIn K mainGlobals "isinstance" = some none)
 (z7:nsIn K mainGlobals "range" = some none)
 (z8:nsIn K mainGlobals "enumerate" = some none)
 (z9:nsIn K mainGlobals "set" = some none)
 (z10:nsIn K mainGlobals "zip" = some none)
 (z11:nsIn K mainGlobals "all" = some none)
 (z12:nsIn K mainGlobals "bool" = some none)
 : ∃ fd:FuncData,(∀ (s:Shared) (v:Value),BindsTo s fd ⟨[v],[]⟩ [("script",v)])/\∀ base:Heap,K.In base->base.Ns mainGlobals mg->m5 l.prog w K mg base Nv 170 fa fd ["script"] (Ck.Wg K):=by
 have e:=(mg_of X G a25).symm.trans hfa;cases e;have F0:=gb (st:=inClass (top 7) 0) l0 c0 k0;have b0:=F0.binds (ps:=["self", "kinds", "doings", "table"]) λ_ _ _ _ _ _ us hl=>match us,hl with | [_,_,_,_],_=>rfl
 have F1:=gb (st:=inClass (top 7) 1) l1 c1 k1;have b1:=F1.binds (ps:=["self"]) λ_ _ _ _ _ _ us hl=>match us,hl with | [_],_=>rfl
 have F2:=gb (st:=inClass (top 7) 2) l2 c2 k2;have b2:=F2.binds (ps:=["self"]) λ_ _ _ _ _ _ us hl=>match us,hl with | [_],_=>rfl
 have F3:=gb (st:=inClass (top 7) 3) l3 c3 k3;have b3:=F3.binds (ps:=["self", "one", "other"]) λ_ _ _ _ _ _ us hl=>match us,hl with | [_,_,_],_=>rfl
 have F4:=gb (st:=inClass (top 7) 4) l4 c4 k4;have b4:=F4.binds (ps:=["self", "kind"]) λ_ _ _ _ _ _ us hl=>match us,hl with | [_,_],_=>rfl
 have F5:=gb (st:=inClass (top 7) 5) l5 c5 k5;have b5:=F5.binds (ps:=["self", "kind", "way"]) λ_ _ _ _ _ _ us hl=>match us,hl with | [_,_,_],_=>rfl
 have F6:=gb (st:=top 8) l6 c6 k6;have b6:=F6.binds (ps:=["table", "one", "other"]) λ_ _ _ _ _ _ us hl=>match us,hl with | [_,_,_],_=>rfl
 have F7:=gb (st:=top 9) l7 c7 k7;have b7:=F7.binds (ps:=["doings"]) λ_ _ _ _ _ _ us hl=>match us,hl with | [_],_=>rfl
 have F8:=gb (st:=top 10) l8 c8 k8;have b8:=F8.binds (ps:=["doings", "way", "start", "goal"]) λ_ _ _ _ _ _ us hl=>match us,hl with | [_,_,_,_],_=>rfl
 have F9:=gb (st:=top 11) l9 c9 k9;have b9:=F9.binds (ps:=["kinds", "doings"]) λ_ _ _ _ _ _ us hl=>match us,hl with | [_,_],_=>rfl
 have F10:=gb (st:=top 12) l10 c10 k10;have b10:=F10.binds (ps:=["doings", "table"]) λ_ _ _ _ _ _ us hl=>match us,hl with | [_,_],_=>rfl
 have F11:=gb (st:=top 13) l11 c11 k11;have b11:=F11.binds (ps:=["doings", "table"]) λ_ _ _ _ _ _ us hl=>match us,hl with | [_,_],_=>rfl
 have F12:=gb (st:=top 18) l12 c12 k12;have b12:=F12.binds (ps:=["script", "k"]) λ_ _ _ _ _ _ us hl=>match us,hl with | [_,_],_=>rfl
 have F13:=gb (st:=top 19) l13 c13 k13;have b13:=F13.binds (ps:=["script", "k"]) λ_ _ _ _ _ _ us hl=>match us,hl with | [_,_],_=>rfl
 have F14:=gb (st:=top 20) l14 c14 k14;have b14:=F14.binds (ps:=["state", "many"]) λ_ _ _ _ _ _ us hl=>match us,hl with | [_,_],_=>rfl
 have F15:=gb (st:=top 21) l15 c15 k15;have b15:=F15.binds (ps:=["state"]) λ_ _ _ _ _ _ us hl=>match us,hl with | [_],_=>rfl
 have F16:=gb (st:=top 22) l16 c16 k16;have b16:=F16.binds (ps:=["begun"]) λ_ _ _ _ _ _ us hl=>match us,hl with | [_],_=>rfl
 have F17:=gb (st:=top 23) l17 c17 k17;have b17:=F17.binds (ps:=["state"]) λ_ _ _ _ _ _ us hl=>match us,hl with | [_],_=>rfl
 have F18:=gb (st:=top 24) l18 c18 k18;have b18:=F18.binds (ps:=["pat", "kind"]) λ_ _ _ _ _ _ us hl=>match us,hl with | [_,_],_=>rfl
 have F19:=gb (st:=top 25) l19 c19 k19;have b19:=F19.binds (ps:=["pat", "kind", "way"]) λ_ _ _ _ _ _ us hl=>match us,hl with | [_,_,_],_=>rfl
 have F20:=gb (st:=top 26) l20 c20 k20;have b20:=F20.binds (ps:=["pat", "one", "other"]) λ_ _ _ _ _ _ us hl=>match us,hl with | [_,_,_],_=>rfl
 have F21:=gb (st:=top 15) l21 c21 k21;have b21:=F21.binds (ps:=["pattern", "kind"]) λ_ _ _ _ _ _ us hl=>match us,hl with | [_,_],_=>rfl
 have F22:=gb (st:=top 16) l22 c22 k22;have b22:=F22.binds (ps:=["pattern", "kind"]) λ_ _ _ _ _ _ us hl=>match us,hl with | [_,_],_=>rfl
 have F23:=gb (st:=top 27) l23 c23 k23;have b23:=F23.binds (ps:=["found", "due"]) λ_ _ _ _ _ _ us hl=>match us,hl with | [_,_],_=>rfl
 have F24:=gb (st:=top 28) l24 c24 k24;have b24:=F24.binds (ps:=["pat", "kind"]) λ_ _ _ _ _ _ us hl=>match us,hl with | [_,_],_=>rfl
 have F25:=gb (st:=top 29) l25 c25 k25;have b25:=F25.binds (ps:=["script"]) λ_ _ _ _ _ _ us hl=>match us,hl with | [_],_=>rfl
 have aF:Ck.Oz K Ds sts [f0,f1,f2,f3,f4,f5,f6,f7,f8,f9,f10,f11,f12,f13,f14,f15,f16,f17,f18,f19,f20,f21,f22,f23,f24,fa] [_,_,_,_,_,_,_,_,_,_,_,_,_,_,_,_,_,_,_,_,_,_,_,_,_,_]:=(Ck.fC F0 b0 (Ck.fC F1 b1 (Ck.fC F2 b2 (Ck.fC F3 b3 (Ck.fC F4 b4 (Ck.fC F5 b5 (Ck.fC F6 b6 (Ck.fC F7 b7 (Ck.fC F8 b8 (Ck.fC F9 b9 (Ck.fC F10 b10 (Ck.fC F11 b11 (Ck.fC F12 b12 (Ck.fC F13 b13 (Ck.fC F14 b14 (Ck.fC F15 b15 (Ck.fC F16 b16 (Ck.fC F17 b17 (Ck.fC F18 b18 (Ck.fC F19 b19 (Ck.fC F20 b20 (Ck.fC F21 b21 (Ck.fC F22 b22 (Ck.fC F23 b23 (Ck.fC F24 b24 (Ck.fC F25 b25 Ck.fN))))))))))))))))))))))))));have aG:Ck.G4 mg tab.fns [f0,f1,f2,f3,f4,f5,f6,f7,f8,f9,f10,f11,f12,f13,f14,f15,f16,f17,f18,f19,f20,f21,f22,f23,f24,fa]:=(Ck.gO (Ck.gO (Ck.gO (Ck.gO (Ck.gO (Ck.gO (Ck.gS (mg_of X G a6) (Ck.gS (mg_of X G a7) (Ck.gS (mg_of X G a8) (Ck.gS (mg_of X G a9) (Ck.gS (mg_of X G a10) (Ck.gS (mg_of X G a11) (Ck.gS (mg_of X G a12) (Ck.gS (mg_of X G a13) (Ck.gS (mg_of X G a14) (Ck.gS (mg_of X G a15) (Ck.gS (mg_of X G a16) (Ck.gS (mg_of X G a17) (Ck.gS (mg_of X G a18) (Ck.gS (mg_of X G a19) (Ck.gS (mg_of X G a20) (Ck.gS (mg_of X G a21) (Ck.gS (mg_of X G a22) (Ck.gS (mg_of X G a23) (Ck.gS (mg_of X G a24) (Ck.gS (mg_of X G a25) Ck.gN))))))))))))))))))))))))));have aC:Ck.Bb K mg tab [f0,f1,f2,f3,f4,f5,f6,f7,f8,f9,f10,f11,f12,f13,f14,f15,f16,f17,f18,f19,f20,f21,f22,f23,f24,fa] tab.cls [none,none,some C2] prog.cls:=(Ck.cO (Ck.cO (Ck.cS ⟨mg_of X G aC2,⟨pg2,hd2,po2,sa2⟩,⟨_,rfl,⟨mk2,a0,i0,kc2⟩⟩,(Ck.mC rfl rfl ⟨a1,i1,k1⟩ (Ck.mC rfl rfl ⟨a2,i2,k2⟩ (Ck.mC rfl rfl ⟨a3,i3,k3⟩ (Ck.mC rfl rfl ⟨a4,i4,k4⟩ (Ck.mC rfl rfl ⟨a5,i5,k5⟩ Ck.mN))))),(Ck.nC alw (Ck.nC alx (Ck.nC aly Ck.nN)))⟩ Ck.cN)));have aV:Ck.O6 mg tab.agc:=(Ck.vC (mg_of X G v0) (Ck.vC (mg_of X G v1) (Ck.vC (mg_of X G v2) Ck.vN)));have aB:Ck.AllB mg Ck.Ba:=(Ck.bC (mg_none_of X G z0) (Ck.bC (mg_none_of X G z1) (Ck.bC (mg_none_of X G z2) (Ck.bC (mg_none_of X G z3) (Ck.bC (mg_none_of X G z4) (Ck.bC (mg_none_of X G z5) (Ck.bC (mg_none_of X G z6) (Ck.bC (mg_none_of X G z7) (Ck.bC (mg_none_of X G z8) (Ck.bC (mg_none_of X G z9) (Ck.bC (mg_none_of X G z10) (Ck.bC (mg_none_of X G z11) (Ck.bC (mg_none_of X G z12) Ck.bN)))))))))))));refine ⟨fnOf "law" "law" (cj (top 29)) (bz (top 29)) (bf (top 29)) .none ara arb arc aq9 alv arw,λs v=>.of_eq rfl,λbase _ _=>?_⟩;obtain ⟨d,a,f,g1,g2,g3,g4,g5⟩:=Ck.ala (P:=l.prog) (w:=w) (base:=base) (n:=10) (i:=25) (F:=acb) av1 chk av2 av3 av4 aF aG aC aV aB rfl;cases g1;cases g2;cases g3;exact g5.imp λvs H Q E hh=>Ck.agx (λns hl=>alu (by decide)) hh
end Yx
open PySem PySem.W PyProof.Rows
namespace PySem.W.Fast
theorem tw10457767503011500871:True:=.intro
theorem tw11381653964722721634:True:=.intro
theorem tw5420682363458744309:True:=.intro
theorem tw11744472159635697506:True:=.intro
theorem tw10321460313400778180:True:=.intro
theorem tw8842497941023622735:True:=.intro
theorem tw9170271430159370796:True:=.intro
theorem tw13023078786634654015:True:=.intro
theorem tw13031641047606849346:True:=.intro
theorem tw8081264615832003014:True:=.intro
theorem tw5668125908079864379:True:=.intro
theorem tw16951766062722195196:True:=.intro
theorem tw8505530184461119565:True:=.intro
theorem tw17567589878186890030:True:=.intro
theorem tw17109114736831195740:True:=.intro
theorem tw14564637886957888884:True:=.intro
theorem tw5622922418486897938:True:=.intro
theorem tw15619497074721495621:True:=.intro
theorem tw3122001892965721521:True:=.intro
theorem tw4749985583177636022:True:=.intro
theorem tw6704520550295029553:True:=.intro
theorem tw2922447836830151049:True:=.intro
theorem tw3261360737343330226:True:=.intro
theorem tw6620952846942371575:True:=.intro
theorem tw164058199119957369:True:=.intro
theorem tw12780898724145251172:True:=.intro
theorem tw13826456896593451698:True:=.intro
theorem tw5212999983827986198:True:=.intro
theorem tw13310676128130331484:True:=.intro
theorem tw5607602726043645872:True:=.intro
theorem tw4039700287733963859:True:=.intro
theorem tw9393438549382236830:True:=.intro
theorem tw504480601212672605:True:=.intro
theorem tw7371688224146237578:True:=.intro
theorem tw7627178649235628348:True:=.intro
theorem tw9709711656181392401:True:=.intro
theorem tw14458872525779813939:True:=.intro
theorem tw7088444496354041580:True:=.intro
theorem tw2522035942559329234:True:=.intro
theorem tw2204997695436863596:True:=.intro
theorem tw7925819346424642655:True:=.intro
theorem tw16782479948918555499:True:=.intro
theorem tw15401705073406917699:True:=.intro
theorem tw4843835040879281041:True:=.intro
theorem tw1974903025002396870:True:=.intro
theorem tw5697143895602872414:True:=.intro
theorem tw15573970132802021719:True:=.intro
theorem tw16402088228279948113:True:=.intro
theorem tw12184476648846200305:True:=.intro
theorem tw17444960494413247409:True:=.intro
theorem tw17079320232896080074:True:=.intro
theorem tw18322892534657472107:True:=.intro
theorem tw11598677304534440568:True:=.intro
theorem tw16615657065572691297:True:=.intro
theorem tw8482529274730290342:True:=.intro
theorem tw5385862665981720695:True:=.intro
theorem tw9648708036557353987:True:=.intro
theorem tw11427750946323352783:True:=.intro
theorem tw14585037516892274392:True:=.intro
theorem tw12609432391692869542:True:=.intro
theorem tw2143791722247682971:True:=.intro
theorem tw14825125847941713970:True:=.intro
theorem tw16594492336798121144:True:=.intro
theorem tw12399783929980009416:True:=.intro
theorem tw12751848026626689376:True:=.intro
theorem tw15791849389080526903:True:=.intro
theorem tw9694209297798206708:True:=.intro
theorem tw3926105979790586993:True:=.intro
theorem tw31777516304882313:True:=.intro
theorem tw662329629823989650:True:=.intro
theorem tw10570495263280822602:True:=.intro
theorem tw2007850028598372057:True:=.intro
theorem tw15567054745868192539:True:=.intro
theorem tw501975381042451992:True:=.intro
theorem tw6699880025629600236:True:=.intro
theorem tw11633362523019108791:True:=.intro
theorem tw3182062991919552598:True:=.intro
theorem tw7744928068479680535:True:=.intro
theorem tw14924285677177819906:True:=.intro
theorem tw12261931407592691356:True:=.intro
theorem tw17388865798999269375:True:=.intro
theorem tw6387381864865042694:True:=.intro
theorem tw15130106901368521763:True:=.intro
theorem tw10933410386248569254:True:=.intro
theorem tw9318332587751486964:True:=.intro
theorem tw8663370275396603835:True:=.intro
theorem tw14496345483226280523:True:=.intro
theorem tw465330772885703530:True:=.intro
theorem tw5727244012425129196:True:=.intro
theorem tw13344791246853040129:True:=.intro
theorem tw3615458979720625082:True:=.intro
theorem tw2063615888195039863:True:=.intro
theorem tw17288467161083193903:True:=.intro
theorem tw14070909272296245627:True:=.intro
theorem tw6775140335802874917:True:=.intro
theorem tw18069532633575468486:True:=.intro
theorem tw13342111693580460967:True:=.intro
theorem tw11667191277012890202:True:=.intro
theorem tw4909842534151775984:True:=.intro
theorem tw7642287618633158100:True:=.intro
theorem tw8488051505154683295:True:=.intro
theorem tw2521739277128647677:True:=.intro
theorem tw2093147952105913920:True:=.intro
theorem tw17713522295308387158:True:=.intro
theorem tw11566765807212665343:True:=.intro
theorem tw7693664257152900109:True:=.intro
theorem tw4311577506203992435:True:=.intro
theorem tw1578098302473600401:True:=.intro
theorem tw13240568412673592439:True:=.intro
theorem tw1914961205147478346:True:=.intro
theorem tw14800137167963772544:True:=.intro
theorem tw12507893035027616133:True:=.intro
theorem tw879224737270064912:True:=.intro
theorem tw9629628140048792336:True:=.intro
theorem tw5129255800871616277:True:=.intro
theorem tw2238452118153371867:True:=.intro
theorem tw17603330993292289173:True:=.intro
theorem tw14342701846832965714:True:=.intro
theorem tw10620504939823991804:True:=.intro
theorem tw178740556157361045:True:=.intro
theorem tw17077744896621026385:True:=.intro
theorem tw10597441210757080452:True:=.intro
theorem tw17766629008574701801:True:=.intro
theorem tw16056528787481679999:True:=.intro
theorem tw10952281044047336995:True:=.intro
theorem tw2737850247100955823:True:=.intro
theorem tw10459517031755851008:True:=.intro
theorem tw16584970576700191034:True:=.intro
theorem tw8068189031625687962:True:=.intro
theorem tw14301195571617880885:True:=.intro
theorem tw9107880861436313495:True:=.intro
theorem tw16489789706755092871:True:=.intro
theorem tw10734930014735069745:True:=.intro
theorem tw13062773122806145839:True:=.intro
theorem tw11360817970381600071:True:=.intro
theorem tw1585613258648385213:True:=.intro
theorem tw7511253957030222117:True:=.intro
theorem tw18052765161406994202:True:=.intro
theorem tw8910874809532789289:True:=.intro
theorem tw2358497946264805449:True:=.intro
theorem tw18381520723166248252:True:=.intro
theorem tw10928486191650467202:True:=.intro
theorem tw6129334878322342061:True:=.intro
theorem tw5730699606051439559:True:=.intro
theorem tw13223065475631189130:True:=.intro
theorem tw7587782214116932095:True:=.intro
theorem tw13085024577828270395:True:=.intro
theorem tw8227006829600145609:True:=.intro
theorem tw789409670901307489:True:=.intro
theorem tw12261591263333145493:True:=.intro
theorem tw9672420728545307596:True:=.intro
theorem tw9393853843962690620:True:=.intro
theorem tw8896118133329703099:True:=.intro
theorem tw8741610297687375979:True:=.intro
theorem tw8323820527358343342:True:=.intro
theorem tw7915607893209177393:True:=.intro
theorem tw6865324579953151184:True:=.intro
theorem tw6360555196873166098:True:=.intro
theorem tw5788874719154259992:True:=.intro
theorem tw5195488264708104814:True:=.intro
theorem tw3758381675427285328:True:=.intro
theorem tw3534455143721868721:True:=.intro
theorem tw3383745469807709748:True:=.intro
theorem tw3333766475585842552:True:=.intro
theorem tw3178006069412494799:True:=.intro
theorem tw305607769851873196:True:=.intro
theorem tw2960229892745072230:True:=.intro
theorem tw280338275971497269:True:=.intro
theorem tw2617582060519168134:True:=.intro
theorem tw2257916890471062051:True:=.intro
theorem tw209671061818305648:True:=.intro
theorem tw1860353718724560083:True:=.intro
theorem tw1837938267299051725:True:=.intro
theorem tw17655835208866192905:True:=.intro
theorem tw17514374791394903491:True:=.intro
theorem tw17431497488473248042:True:=.intro
theorem tw16963577186967056531:True:=.intro
theorem tw16751565764525800106:True:=.intro
theorem tw16542471428023204553:True:=.intro
theorem tw16193337037184254003:True:=.intro
theorem tw16127183791251158727:True:=.intro
theorem tw15981031078128515692:True:=.intro
theorem tw15662133965528529012:True:=.intro
theorem tw15486419689848685104:True:=.intro
theorem tw15297004719458379308:True:=.intro
theorem tw1522089897292637631:True:=.intro
theorem tw15180730786375625700:True:=.intro
theorem tw15131038356892562753:True:=.intro
theorem tw1502572787288440690:True:=.intro
theorem tw14680010479136926562:True:=.intro
theorem tw14573185067511323090:True:=.intro
theorem tw14043773347297033642:True:=.intro
theorem tw14001666720366359347:True:=.intro
theorem tw13958104056114146170:True:=.intro
theorem tw12491211266606369484:True:=.intro
theorem tw1158136393871227103:True:=.intro
theorem tw11524231876932836698:True:=.intro
theorem tw10842924547831779240:True:=.intro
theorem tw1045687437115519164:True:=.intro
end PySem.W.Fast
set_option maxRecDepth 100000 in
set_option maxHeartbeats 0 in
theorem PySem.Challenge.cw_mapwright_k23_seeds_holds : PySem.Challenge.rw_mapwright_k23_seeds.Holds := by
 w_on;o_law;k_head;(case hw=>w_witness2)
 k_fill
 refine Ck.walk (l:=PySem.Challenge.rw_mapwright_k23_seeds) rfl rfl (λw h Y=>PySem.W.kIn_of Y) ?F
 case F =>
  intro w mg fa h KX G hmg;refine' Yx.all_mk KX G hmg ?aC2 ?a0 ?i0 ?l0 ?c0 ?k0 ?a1 ?i1 ?l1 ?c1 ?k1 ?a2 ?i2 ?l2 ?c2 ?k2 ?a3 ?i3 ?l3 ?c3 ?k3 ?a4 ?i4 ?l4 ?c4 ?k4 ?a5 ?i5 ?l5 ?c5 ?k5 ?a6 ?l6 ?c6 ?k6 ?a7 ?l7 ?c7 ?k7 ?a8 ?l8 ?c8 ?k8 ?a9 ?l9 ?c9 ?k9 ?a10 ?l10 ?c10 ?k10 ?a11 ?l11 ?c11 ?k11 ?a12 ?l12 ?c12 ?k12 ?a13 ?l13 ?c13 ?k13 ?a14 ?l14 ?c14 ?k14 ?a15 ?l15 ?c15 ?k15 ?a16 ?l16 ?c16 ?k16 ?a17 ?l17 ?c17 ?k17 ?a18 ?l18 ?c18 ?k18 ?a19 ?l19 ?c19 ?k19 ?a20 ?l20 ?c20 ?k20 ?a21 ?l21 ?c21 ?k21 ?a22 ?l22 ?c22 ?k22 ?a23 ?l23 ?c23 ?k23 ?a24 ?l24 ?c24 ?k24 ?a25 ?l25 ?c25 ?k25 ?pg2 ?hd2 ?po2 ?sa2 ?mk2 ?kc2 ?alw ?alx ?aly ?v0 ?v1 ?v2 ?z0 ?z1 ?z2 ?z3 ?z4 ?z5 ?z6 ?z7 ?z8 ?z9 ?z10 ?z11 ?z12
  case aC2=>k_is
  case a0=>k_is
  case i0=>k_is
  case l0=>k_is
  case c0=>k_is
  case k0=>k_is
  case a1=>k_is
  case i1=>k_is
  case l1=>k_is
  case c1=>k_is
  case k1=>k_is
  case a2=>k_is
  case i2=>k_is
  case l2=>k_is
  case c2=>k_is
  case k2=>k_is
  case a3=>k_is
  case i3=>k_is
  case l3=>k_is
  case c3=>k_is
  case k3=>k_is
  case a4=>k_is
  case i4=>k_is
  case l4=>k_is
  case c4=>k_is
  case k4=>k_is
  case a5=>k_is
  case i5=>k_is
  case l5=>k_is
  case c5=>k_is
  case k5=>k_is
  case a6=>k_is
  case l6=>k_is
  case c6=>k_is
  case k6=>k_is
  case a7=>k_is
  case l7=>k_is
  case c7=>k_is
  case k7=>k_is
  case a8=>k_is
  case l8=>k_is
  case c8=>k_is
  case k8=>k_is
  case a9=>k_is
  case l9=>k_is
  case c9=>k_is
  case k9=>k_is
  case a10=>k_is
  case l10=>k_is
  case c10=>k_is
  case k10=>k_is
  case a11=>k_is
  case l11=>k_is
  case c11=>k_is
  case k11=>k_is
  case a12=>k_is
  case l12=>k_is
  case c12=>k_is
  case k12=>k_is
  case a13=>k_is
  case l13=>k_is
  case c13=>k_is
  case k13=>k_is
  case a14=>k_is
  case l14=>k_is
  case c14=>k_is
  case k14=>k_is
  case a15=>k_is
  case l15=>k_is
  case c15=>k_is
  case k15=>k_is
  case a16=>k_is
  case l16=>k_is
  case c16=>k_is
  case k16=>k_is
  case a17=>k_is
  case l17=>k_is
  case c17=>k_is
  case k17=>k_is
  case a18=>k_is
  case l18=>k_is
  case c18=>k_is
  case k18=>k_is
  case a19=>k_is
  case l19=>k_is
  case c19=>k_is
  case k19=>k_is
  case a20=>k_is
  case l20=>k_is
  case c20=>k_is
  case k20=>k_is
  case a21=>k_is
  case l21=>k_is
  case c21=>k_is
  case k21=>k_is
  case a22=>k_is
  case l22=>k_is
  case c22=>k_is
  case k22=>k_is
  case a23=>k_is
  case l23=>k_is
  case c23=>k_is
  case k23=>k_is
  case a24=>k_is
  case l24=>k_is
  case c24=>k_is
  case k24=>k_is
  case a25=>k_is
  case l25=>k_is
  case c25=>k_is
  case k25=>k_is
  case pg2=>k_is
  case hd2=>k_is
  case po2=>k_is
  case sa2=>k_is
  case mk2=>k_is
  case kc2=>k_is
  case alw=>k_is
  case alx=>k_is
  case aly=>k_is
  case v0=>k_is
  case v1=>k_is
  case v2=>k_is
  case z0=>k_is
  case z1=>k_is
  case z2=>k_is
  case z3=>k_is
  case z4=>k_is
  case z5=>k_is
  case z6=>k_is
  case z7=>k_is
  case z8=>k_is
  case z9=>k_is
  case z10=>k_is
  case z11=>k_is
  case z12=>k_is
